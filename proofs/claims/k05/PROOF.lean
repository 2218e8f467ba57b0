import PyProof.Rows.All
import Wide.All
import OpenK.AllK
import Wide.FinOn
import Lean
import PyProof.EqAt
import PyProof.EqKinds
import PyProof.TupleCall
import PyProof.NeKinds
import PyProof.ZipIter
import PyProof.EnumFor
import PyProof.EnumMake
import PyProof.EnumStmt
import PyProof.Draws
import KE.KDictSum
import PyProof.Rows.SortStr
import PyProof.StrWalks
import KE.KRevIter
import KE.KDictList
import PyProof.CollectIter
import PyProof.SliceStr2
import PyProof.StrBlockI
import KE.KListMore
import PyProof.DictWalks
import PyProof.TupleOfSeq
import PyProof.AttrMissHeap
import PyProof.AttrMissSeq
import KE.KDictOf
import PyProof.WalksMore
import KE.KSortTup
import KE.KSortKey
import PyProof.Rows.StrJoin2
import PyProof.ListMulRoad
import PyProof.FactsAll.tuple_2
import PyProof.Rows.SortShell
import PyProof.WalkInts
import KE.KMinBuiltin
import KE.KIntText
import PyProof.CallStr
import PyProof.PureStr
import PyProof.Rows.SetFrom
import KE.KMinKey
import PyProof.DictItems
import PyProof.DictItemsLoops
import PyProof.ReprRoads
import PyProof.WalksS
import PyProof.MeetsSeq2
import PyProof.RaisesMany
import PyProof.ExcClass2
import OpenK.KOwn
import PyProof.FString
import PyProof.ExcArgsOwn
import KE.KIsAll
import PyProof.RulesAs
import PyProof.NsDelKeeps
import PySem.Challenge.RW_allmeet_k05_texts_of_no_value
set_option Elab.async false
set_option linter.all false
set_option maxRecDepth 100000
open List renaming length_append→za,mem_cons_self→zh,mem_cons→zl,length_map→zn,mem_cons_of_mem→zo,length_cons→zp,size_toArray→zq,append_assoc→zu,not_mem_nil→zA,map_cons→zE,getElem?_eq_getElem→zH,getElem?_append_left→zI,mem_map→zM,length_take→zN,mem_singleton→zR,mem_append_right→zT,getElem?_set_self→zU,length→zW,append_nil→zX,getElem?_set_ne→jm,eq_nil_of_length_eq_zero→jn,mem_append→jw,length_drop→jA,all_cons→jB,getElem?_eq_none→jC,length_range→jE,getElem?_eq_some_iff→jG,length_pos_iff→jI,range→jJ,mem_append_left→jN,getElem?_map→jQ,take_append_drop→jS,countP_append→jU,pairwise_append→jW,getElem?_append_right→yb,map_append→yd,length_nil→ye,replicate→yo,filterMap_cons→yt,lookup_cons→yz,pairwise_cons→yB,mem_of_getElem?→yJ,any_cons→yN,append_cancel_left→yU,take_of_length_le→xb,cons_lt_cons_iff→xl,mem_range→xw,getD_eq_getElem?_getD→xy,cons_ne_nil→xB,drop_eq_getElem_cons→xE,append_eq_append_iff→xF,mergeSort_perm→xG,find?_cons→xL,getElem?_cons_zero→xO,all_eq_true→Zb,mem_map_of_mem→Zm,map_congr_left→Zn,countP_eq_zero→Zo,map_map→Zq,zip_cons_cons→Zv,pairwise_singleton→ZL,getElem_mem→ZM,getElem?_cons_succ→ZP,countP_cons→ZQ,range_succ_eq_map→ZV,drop_eq_nil_of_le→ZX,of_mem_zip→Ye,nodup_cons→Yf,length_singleton→Yj,mem_of_mem_drop→Yp,map_eq_nil_iff→Yx,reverse_cons→YU,getElem?_set→YV,all_map→YW,zipIdx_cons→Xg,prefix_refl→Xh,getElem_inj→Xi,zipIdx_nil→Xo,forIn_cons→Xp,foldl_cons→Xq,dropLast_concat_getLast→Xr,filterMap→XU,drop_drop→XV,sum_cons→Ju,pairwise_mergeSort→Jx,getElem?_replicate→Jy,map_nil→JC,perm_append_comm→JM,eq_nil_or_concat→JN,dropLast_eq_take→JO,countP_le_length→JP,mem_of_mem_take→JY,getElem?_of_mem→JZ
open PySem renaming wpAny_bind→zc,sizeLine→ze,Value→zg,Shared→zm,wpAny_pure→zt,wpAny→zv,starEach→zC,model→zD,Program→zF,mainGlobals→zJ,World→zO,bootBuiltins→zQ,Around→zV,compareOp→zY,wpAny_loadPart'→jx,wpAny_field→jz,wpAny_mono→jK,binaryOp→yg,wpAny_seqItems→yp,wpAny_newObj_type→yw,wpAny_callSpecial?_slot→yx,backTo→yy,IsPair→yD,wpAny_call_entry→yF,MulOk→yH,mem_of_lookup→yP,wpAny_loadPart_at→yR,wpAny_holding→yV,assignEach→yW,FuncData→xg,wpAny_setField_rec→xm,wpAny_Call_Name_kw→xn,sysModules→xo,wpAny_execs_nil→xu,codeAny_builtin→xv,wpAny_truthy_bool→xA,wpAny_setField→xH,reprText→xI,rawInt→xJ,letOwnedTupleGo→xT,foldedSetIterable→Zd,cLine→Ze,plainId_quiet→Zp,wpAny_letGo→Zr,strIterType→Zs,sliceBounds→Zt,IsZip→Zy,wpAny_pyIter_list→ZU,swapsWithSole→ZY,swappedStores→ZZ,attributeBase→Ya,codeAny→Yq,assign→Yr,Builtin→Yt,BindsTo→Yu,wpAny_updateSeq_pair→YI,keywordEach→YJ,intText?→YK,holding→YQ,callerA→YR,wpAny_onRaise→Xc,behindInMarks→Xd,typeIs_str→Xj,typeIs_int→Xk,tupleKind_room_in1→Xl,sliceRange→Xm,pyNext→Xn,getItem→Xu,codeAny_mono→Xv,wpAny_execs_cons→XY,tupleKind→XZ,setFlight→Ja,noteFrame→Jb,noFill_tuple_add→Jc,richCompare→Jp,wpAny_updateSeq→Jv,valueAt→Jz,wpAny_tryCatch→JD,wpAny_rule→JE,backToKw→JF
open PySem.W renaming Frag→zd,findIn→jv,nsIn→jF,mroIn→jL,subIn→jX,kitOne→jY,keepIn→jZ,mg_of→yj,fnOf→yq,isClsIn→yE,kitAny→yO,typeIn→xp,methodObj→xN,excIn→xY,clsIn→xZ,codeIn→Zk,callWith_K→Zl,looks_findIn→Yb,looks_mroIn→Yk,kia_one→YX,cellsFrom_some→Jd,mg_none_of→JG,specialIn→JS,kitx_list→JT,kitx_dict→JU
open PySem.Heap renaming get?_push_of_some→zf,lt_size→zj,get?_push_size→zy,get?_update_other→jt,get?_update_self→yi,size_push→yT,SameBut→xU,get?_none_of_le→Yn,size_after_update→JB
open List.cons renaming inj→zi
open Nat renaming le_refl→zk,le_trans→zw,ne_of_lt→zB,lt_of_lt_of_le→zK,le_add_right→jO,le_of_ble_eq_true→jT,eq_zero_or_pos→jV,ne_of_gt→yM,lt_succ_self→yY,zero_le→xa,lt_irrefl→xk,le_of_lt→xD,add_sub_cancel_left→xQ,lt_succ_of_lt→xX,lt_or_ge→Yd,sub_succ_lt_self→Yv,toDigits→YZ,lt_trans→Xa,not_lt_zero→XE,mod_lt→Jo,pow_succ→JL
open PySem.NumText renaming digitsVal→zr
open Bool renaming false_ne_true→zG,and_eq_true→zP,not_eq_false'→yC,not_eq_true'→yK,or_eq_false_iff→xz,eq_false_iff→xV,and_eq_true_iff→Zh,or_eq_true→Yg,eq_iff_iff→Xs
open PySem.Builtin.Str renaming strSliceIndices→zL,occurrences→ju,subAt→yZ
open PySem.Builtin.SmallTypes renaming nextOf→zZ,ownedTupleIsFree→yk,ownedTupleHandOut→Zu
open Option.some renaming inj→js,injEq→Zj
open Array renaming toList_append→jy,getElem?_eq_some_iff→jM,getElem?_eq_getElem→yf,getElem?_toList→yh,length_toList→yQ,toList_extract→Ym,append_assoc→YF,toList→YO,getD_eq_getD_getElem?→Xt,perm_iff_toList_perm→XM,toArray_toList→JR
open PyProof.Rows renaming slot_tuple_getitem→jD,Keyed→jP,envOfC→yc,arrOf→yr,callWith_type1→yX,kindOf→xh,SortSt→Zx,AllBare→ZG,pendingOf→ZH,failedOf→YM,oneType'→XA,wpS_pure→JJ,seqObj→JK
open PySem.SetTable.layClean renaming free→jH
open Int renaming toNat_natCast→jR,emod_lt_of_pos→xi,emod_nonneg→xM,eq_ofNat_of_zero_le→xR,mul_one→Yw,zero_add→Xb,lt_trans→JQ
open False renaming elim→ya
open PySem.Str renaming ofString→ym,empty→xP,length_append→YY
open PySem.Obj renaming mapFields→yn,data_mapFields→xf,isFreed_of_fields→Za,mapSeq→Zf
open PySem.Txt renaming slice→yA,mul→yS,join→ZR
open PySem.Around renaming under_plainId→yG
open Option renaming isSome_iff_exists→yI,bind_some→ZI,isSome_map→YH,map_some→Xf,map→JW
open PySem.SeqAt renaming EqAt→yL,RcNeAt→ZS,RcAt→Yz,ne_of_list_tuple→Jw
open PySem.Paired renaming length→xc
open PySem.Builtin.Slice renaming slicePlaces→xj,sliceAdjust→Zg,sliceApplied→YE
open PySem.Builtin.Tuple renaming tupleExact→xr,tupleItemsOf→YD
open Classical renaming byContradiction→xt,choose→xS,choose_spec→XX
open PySem.F renaming slot_tuple_iterator_next→xC,plain_max_loop→xK,plain_min_loop→Zi,args_tuple_add_2→Zw,entry_tuple_add→Zz,slot_tuple_add→ZK,slot_list_append→ZT,slot_zip_next→Yo,typeOf_object_class→Ys,type_list_append→Xy,plainAttrs_list→XS,args_tuple_iterator_next_1→Jm,slot_str_startswith→Js,entry_tuple_iterator_next→Jt,slot_gs_get→JH
open PySem.SetTable renaming bits→xW,leap→Yl,runEnd→YS,turns→Xe
open ToString renaming toString→Zc
open Nat.succ renaming inj→ZJ
open Prod.mk renaming inj→Yc
open PySem.SeqAt.EqAt renaming str_int→Yh,int_str→Yi,same→YG,none_bool→XO,bool_none→XQ,bool_bool→XR,str_none→Je,str_bool→Jf,none_str→Jg,none_int→Jh,int_none→Ji,int_bool→Jj,bool_str→Jk,bool_int→Jl,str_str→Jq,int_int→Jr
open Function renaming comp_def→Yy
open PySem.W.KIN renaming val_back→Xw
open PySem.Heap.SameBut renaming update→Xx
open PySem.Calls renaming Name_function_global→Xz,call_function_entry→XT,evalArgs_plain→JI
open List.Perm renaming append_right→XL,append_left→XW
open PySem.EntryCells renaming newEntry→Jn
open PySem.PassesOwn renaming leaving→JA,never→JV
open Membership renaming mem→JX
noncomputable section
abbrev VSP:=zg->zm->Prop
abbrev PNS:=List (PySem.Addr×PySem.Obj)
namespace L2
open PySem PySem.Spec PyProof.Rows
theorem u5{a:α}{P:Prop}(h:none=some a):P:=nomatch h
theorem QD{a:α}{P:Prop}(h:some a=none):P:=nomatch h
theorem cC{P:Prop}(h:false=true):P:=nomatch h
theorem dD{a:α}{l:List α}{P:Prop}(h: []=a::l):P:=nomatch h
theorem pI{a:α}{l:List α}{P:Prop}(h:a::l= []):P:=nomatch h
abbrev Key:=Sum Int Str
def G9:Key->zg->Bool
 | .inl k,v=>Value.isInt k v
 | .inr x,v=>Value.isStrOf x v
def CY(w:zO):Key->Int
 | .inl k=>hashInt k
 | .inr x=>hashStr w x
theorem J7:∀ {k} {v},G9 k v=true->(∃i t,k=Sum.inl i/\v=Value.int i t)\/(∃x t,k=Sum.inr x/\v=Value.str x t)
 | .inl i,v,h=>by obtain⟨t,e⟩:=Value.isInt_shape (k:=i) (v:=v) h;exact .inl ⟨i,t,rfl,e⟩
 | .inr x,v,h=>by obtain⟨t,e⟩:=Value.isStrOf_shape (x:=x) (v:=v) h;exact .inr ⟨x,t,rfl,e⟩
theorem qR(i:Int)(t:Tok):G9 (.inl i) (.int i t)=true:=by simp[G9,Value.isInt]
theorem CV(x:Str)(t:Tok):G9 (.inr x) (.str x t)=true:=by simp[G9,Value.isStrOf]
theorem IR(a b:Int):decide ((Sum.inl a:Key)=Sum.inl b)= (a==b):=by
 by_cases e:a=b
 ·subst e;simp
 ·have h:¬(Sum.inl a:Key)=Sum.inl b:=λq=>e (Sum.inl.inj q);rw[decide_eq_false h];exact(beq_eq_false_iff_ne.mpr e).symm
theorem Cb(a b:Str):decide ((Sum.inr a:Key)=Sum.inr b)=decide (a=b):=by
 by_cases e:a=b
 ·subst e;simp
 ·have h:¬(Sum.inr a:Key)=Sum.inr b:=λq=>e (Sum.inr.inj q);rw[decide_eq_false h,decide_eq_false e]
theorem NY(a:Int)(b:Str):decide ((Sum.inl a:Key)=Sum.inr b)=false:=decide_eq_false (λq=>nomatch q)
theorem mS(a:Str)(b:Int):decide ((Sum.inr a:Key)=Sum.inl b)=false:=decide_eq_false (λq=>nomatch q)
def M4(prog:zF)(w:zO):PySem.KeyKind prog w Key where
 is:=G9
 hash:=CY w
 inj:=λv a b ha hb=>by
  rcases J7 ha with⟨i,t,rfl,rfl⟩|⟨x,t,rfl,rfl⟩
  · rcases J7 hb with⟨j,u,rfl,e⟩|⟨y,u,rfl,e⟩
    ·injection e with e1 _;rw[e1]
    ·exact nomatch e
  · rcases J7 hb with⟨j,u,rfl,e⟩|⟨y,u,rfl,e⟩
    ·exact nomatch e
    ·injection e with e1 _;rw[e1]
 byValue:=λk v h=>by rcases J7 h with⟨i,t,rfl,rfl⟩|⟨x,t,rfl,rfl⟩<;>rfl
 pyHash:=λhv h=>by
  rcases J7 hv with⟨i,t,rfl,rfl⟩|⟨x,t,rfl,rfl⟩
  ·exact wpAny_pyHash_int h
  ·exact wpAny_pyHash_str h
 eqBool:=λhu hv h=>by
  rcases J7 hu with⟨i,t,rfl,rfl⟩|⟨x,t,rfl,rfl⟩
  · rcases J7 hv with⟨j,u,rfl,rfl⟩|⟨y,u,rfl,rfl⟩
    ·rw[IR]at h;exact wpAny_eqBool_int h
    ·rw[NY]at h;exact Yi i t y u _ _ _ _ h
  · rcases J7 hv with⟨j,u,rfl,rfl⟩|⟨y,u,rfl,rfl⟩
    ·rw[mS]at h;exact Yh x t j u _ _ _ _ h
    ·rw[Cb]at h;exact wpAny_eqBool_str h
 «strs»:=λk x t v h=>by
  rcases J7 h with⟨i,u,rfl,e⟩|⟨y,u,rfl,e⟩
  ·exact nomatch e
  · injection e with e1 _;subst e1
    cases v<;>rfl
theorem fW(prog:zF)(w:zO)(i:Int)(t:Tok):(M4 prog w).is (.inl i) (.int i t)=true:=qR i t
theorem Gw(prog:zF)(w:zO)(x:Str)(t:Tok):(M4 prog w).is (.inr x) (.str x t)=true:=CV x t
inductive V where
 |non|bl (b:Bool)|int (i:Int)|str (x:Str)|byt (b:Array UInt8)|flt (b:UInt64)|ref (a:Addr)|ty (n:String)
 deriving DecidableEq
def u9:V->zg->Prop
 | .non,u=>u=Value.none
 | .bl b,u=>u=Value.bool b
 | .int i,u=>∃t,u=Value.int i t
 | .str x,u=>∃t,u=Value.str x t
 | .byt b,u=>∃t,u=Value.bytes b t
 | .flt b,u=>∃t,u=Value.float b t
 | .ref a,u=>u=Value.ref a
 | .ty n,u=>u=Value.type n
abbrev t8:List V->List zg->Prop:=Paired u9
theorem t8.length(r:t8 xs us):xs.length=us.length:=xc r
theorem t8.get:∀ {xs} {us} {i:Nat} {x:V},t8 xs us->xs[i]? =some x->∃u,us[i]? =some u/\u9 x u
 |_,_,_,_,.nil,e=>by simp at e
 |_,_,0,_,.cons r _,e=>by simp at e;subst e;exact⟨_,rfl,r⟩
 |_,_,i+1,x,.cons _ t,e=>by obtain⟨u,h1,h2⟩:=t8.get (i:=i) (x:=x) t (by simpa using e);exact⟨u,by simpa using h1,h2⟩
theorem t8.set(r:u9 x u):∀ {xs} {us} i,t8 xs us->t8 (xs.set i x) (us.set i u)
 |_,_,_,.nil=>.nil
 |_,_,0,.cons _ t=>.cons r t
 |_,_,i+1,.cons q t=>.cons q (t8.set r i t)
theorem t8.append(h:t8 xs us)(k:t8 ys ws):t8 (xs++ys) (us++ws):=by
 induction h with
 |nil=>exact k
 |cons r t ih=>exact .cons r ih
theorem t8.take:∀ {xs} {us} n,t8 xs us->t8 (xs.take n) (us.take n)
 |_,_,0,_=>.nil
 |_,_,_+1,.nil=>.nil
 |_,_,n+1,.cons r t=>.cons r (t8.take n t)
theorem t8.drop:∀ {xs} {us} n,t8 xs us->t8 (xs.drop n) (us.drop n)
 |_,_,0,r=>r
 |_,_,_+1,.nil=>.nil
 |_,_,n+1,.cons _ t=>t8.drop n t
def A6:Option V->Option zg->Prop
 |some v,some u=>u9 v u
 |none,none=>True
 |_,_=>False
def KV{κ:Type}:List (κ×V)->List (κ×zg)->Prop:=Paired fun(p:κ×V) (q:κ×zg)=>p.1=q.1/\u9 p.2 q.2
def kV:Key->V
 | .inl i=>.int i
 | .inr x=>.str x
inductive HO where
 /-- a list -/
 |lst (xs:List V)
 /-- a tuple (never changes) -/
 |tup (xs:List V)
 /-- a dict whose keys are ints and texts;one whose keys are tuples of ints and texts (the empty one is both) -/
 |dK (Nh:List (Key×V))|dT (Nh:List (List Key×V))
 /-- a set of ints:Nj members,Nj size -/
 |set (S:Int->Bool) (n:Nat)
 /-- an instance of the class at C,Nj dict at dx,Nj attributes -/
 |ins (C dx:Addr) (fs:List (Str×V))
 /-- the dict of the instance at x -/
 |own (x:Addr)
 /-- the dict of an exception -/
 |xd (fs:List (Str×V))
 /-- a bound method,f of x -/
 |met (f x:Addr)
 /-- a range object lo,lo+1,.. below hi -/
 |rng (lo hi:Int)
 /-- a thing that is known to the object (the script;a dict while a loop walks it):read,never written while it is so -/
 |frz (o:Obj) (u:HO)
 /-- a code object's table -/
 |tbl (ps:Array zg)
 /-- any other thing,by what is true of Nj one object (a def of one's own:SetO a S n:=HO.ext λh=>..) -/
 |ext (φ:Heap->Prop)
abbrev Hp:=Addr->Option HO
def upd(H:Hp)(a:Addr)(o:HO):Hp:=λb=>if b=a then some o else H b
theorem v9:upd H a o a=some o:=by unfold upd;rw[if_pos rfl]
theorem t6(h:b≠a):upd H a o b=H b:=by unfold upd;rw[if_neg h]
theorem uW{H:Hp}(h:H a=some o)(h':H b=some u)(d:o≠u):a≠b:=by intro e;subst e;rw[h]at h';exact d (js h')
theorem u6{H:Hp}{o:HO}(h:H a=some o)(h':H b=none):a≠b:=by intro e;subst e;rw[h]at h';cases h'
section
variable(P:zF)(w:zO)
def W6(h:Heap)(a:Addr)(items:Array zg):Prop:=∃o,h.get? a=some o/\o.cls= .type "tuple"/\∃n,(o.data,o.dict)= (Data.seq items n,none)
theorem W6.tup(x:W6 h a items):IsTup h a items:=by obtain⟨o,e,c,n,d⟩:=x;exact⟨o,e,c,n,(Yc d).1⟩
theorem W6.new(h:Heap)(items:Array zg):W6 (h.push {cls:=.type "tuple",data:=.seq items}) h.objs.size items:=⟨_,zy _ rfl,rfl,_,rfl⟩
def N8(H:Hp)(h:Heap)(a:Addr):HO->Prop
 | .lst xs=>xs.length<=ze/\∃(Nj:List zg) (n:Nat),t8 xs Nj/\h.get? a=some {cls:=.type "list",data:=.seq Nj.toArray n}
 | .tup xs=>xs.length<=ze/\∃Nj:List zg,t8 xs Nj/\W6 h a Nj.toArray
 | .dK Nh=>Nh.length<=ze/\(a==xo)=false/\∃vs,KV Nh vs/\h.DictOf (M4 P w) a vs
 | .dT Nh=>Nh.length<=ze/\(a==xo)=false/\∃xs:List (List Key×Addr×zg),
    Paired (fun(p:List Key×V) (q:List Key×Addr×zg)=>p.1=q.1/\H q.2.1=some (.tup (p.1.map kV))/\u9 p.2 q.2.2) Nh xs/\
    ∃o es ep,h.get? a=some o/\o.ExactDict/\o.data= .dict es ep/\es.toList=xs.map (entryOfKey (XZ (M4 P w)))/\(xs.map (·.1)).Nodup
 | .set S n=>h.SetOf (intKind P w) a S n
 | .ins C dx fs=>H dx=some (.own a)/\fs.length<=1000/\dx≠a/\h.get? a=some (PySem.W.instObj C dx)/\
    ∃mA,h.Ns1 dx mA/\(∀f,A6 (fs.lookup f) (mA f))/\PySem.Within mA (fs.map (·.1))
 | .own _=>∃o,h.get? a=some o
 | .xd fs=>∃mA,h.Ns1 a mA/\∀f,A6 (fs.lookup f) (mA f)
 | .rng lo hi=>∃t u v,h.get? a=some {cls:=.type "range",data:=.fields #[.int lo t,.int hi u,.int 1 v]}
 | .frz o u=>h.get? a=some o/\N8 H h a u
 | .tbl ps=>h.get? a=some {cls:=.none,data:=.fields ps}
 | .met f x=>h.get? a=some (xN (.ref f) (.ref x))
 | .ext φ=>φ h/\(∃o,h.get? a=some o)/\∀h1 h2:Heap,φ h1->(∀o,h1.get? a=some o->h2.get? a=some o)->φ h2
def HOk(H:Hp)(h:Heap):Prop:=∀a o,H a=some o->N8 P w H h a o
end
section
theorem N8.lt(x:N8 P w H h a o):a<h.objs.size:=by
 cases o with
 |lst xs=>obtain⟨_,_,_,_,e⟩:=x;exact zj e
 |tup xs=>obtain⟨_,_,_,p⟩:=x;exact(W6.tup p).lt
 |dK Nh=>obtain⟨_,_,_,_,o,_,_,e,_⟩:=x;exact zj e
 |dT Nh=>obtain⟨_,_,_,_,o,_,_,e,_⟩:=x;exact zj e
 |set S n=>obtain⟨o,_,_,_,e,_⟩:=x;exact zj e
 |ins C dx fs=>obtain⟨_,_,_,e,_⟩:=x;exact zj e
 |own y=>obtain⟨_,e⟩:=x;exact zj e
 |xd fs=>obtain⟨_,⟨_,_,_,e,_⟩,_⟩:=x;exact zj e
 |rng lo hi=>obtain⟨_,_,_,e⟩:=x;exact zj e
 |frz ob u=>obtain⟨e,_⟩:=x;exact zj e
 |tbl ps=>exact zj (show h.get? a=some _ from x)
 |met f y=>exact zj (show h.get? a=some _ from x)
 |ext φ=>obtain⟨_,⟨_,e⟩,_⟩:=x;exact zj e
theorem Paired.mapP(h:Paired F l₁ l₂)(f:∀a b,F a b->G a b):Paired G l₁ l₂:=by
 induction h with
 |nil=>exact .nil
 |cons r t ih=>exact .cons (f _ _ r) ih
theorem N8.stay(x:N8 P w H h a o)(k:∀b u,(b=a\/H b=some (.own a))->h.get? b=some u->h'.get? b=some u)
 (ho:∀b,H b=some (.own a)->H' b=some (.own a)) (ht:∀b xs,H b=some (.tup xs)->H' b=some (.tup xs)):N8 P w H' h' a o:=by
 induction o with
 |lst xs=>obtain⟨z,Nj,n,r,e⟩:=x;exact⟨z,Nj,n,r,k _ _ (.inl rfl) e⟩
 |tup xs=>obtain⟨z,Nj,r,ob,e,c⟩:=x;exact⟨z,Nj,r,ob,k _ _ (.inl rfl) e,c⟩
 |dK Nh=>obtain⟨z,y,vs,r,ob,es,ep,e,c⟩:=x;exact⟨z,y,vs,r,ob,es,ep,k _ _ (.inl rfl) e,c⟩
 |dT Nh=>
   obtain⟨z,y,xs,r,ob,es,ep,e,c⟩:=x;exact⟨z,y,xs,Paired.mapP r λp q z=>⟨z.1,ht _ _ z.2.1,z.2.2⟩,ob,es,ep,k _ _ (.inl rfl) e,c⟩
 |set S n=>obtain⟨ob,es,ep,t,e,c⟩:=x;exact⟨ob,es,ep,t,k _ _ (.inl rfl) e,c⟩
 |ins C dx fs=>
   obtain⟨d,z,ne,e,mA,⟨od,es,ep,e2,c⟩,r⟩:=x;exact⟨ho _ d,z,ne,k _ _ (.inl rfl) e,mA,⟨od,es,ep,k _ _ (.inr d) e2,c⟩,r⟩
 |own y=>obtain⟨ob,e⟩:=x;exact⟨ob,k _ _ (.inl rfl) e⟩
 |xd fs=>obtain⟨mA,⟨od,es,ep,e,c⟩,r⟩:=x;exact⟨mA,⟨od,es,ep,k _ _ (.inl rfl) e,c⟩,r⟩
 |rng lo hi=>obtain⟨t,u,v,e⟩:=x;exact⟨t,u,v,k _ _ (.inl rfl) e⟩
 |frz ob u ih=>obtain⟨e,q⟩:=x;exact⟨k _ _ (.inl rfl) e,ih q⟩
 |tbl ps=>
   have e:h.get? a=some {cls:=.none,data:=.fields ps}:=x;show h'.get? a=some {cls:=.none,data:=.fields ps};exact k a _ (.inl rfl) e
 |met f y=>
   have e:h.get? a=some (xN (.ref f) (.ref y)):=x;show h'.get? a=some (xN (.ref f) (.ref y));exact k a _ (.inl rfl) e
 |ext φ=>obtain⟨p,⟨o,e⟩,st⟩:=x;exact⟨st _ _ p λo q=>k _ _ (.inl rfl) q,⟨o,k _ _ (.inl rfl) e⟩,st⟩
theorem HOk.lt(x:HOk P w H h)(e:H a=some o):a<h.objs.size:=(x a o e).lt
theorem HOk.fresh(x:HOk P w H h)(e:h.objs.size<=a):H a=none:=by
 cases q:H a with
 |none=>rfl
 |some u=>exact absurd (zK (x.lt q) e) (xk _)
theorem HOk.kept(x:HOk P w H h)(k:∀b u,h.get? b=some u->h'.get? b=some u):HOk P w H h':=λa o e=>
 (x a o e).stay (λb u _ q=>k b u q) (λ_ q=>q) λ_ _ q=>q
theorem HOk.laid(x:HOk P w H h)(k:∀b u,h.get? b=some u->h'.get? b=some u)(hp:h.objs.size<=a)(new:N8 P w (upd H a o) h' a o):HOk P w (upd H a o) h':=λb u e=>by
 have hn:=x.fresh hp;by_cases hb:b=a
 ·subst hb;rw[v9]at e;cases e;exact new
 ·rw[t6 hb]at e;exact(x b u e).stay (λc v _ q=>k c v q) (λc q=>by rw[t6 (u6 q hn)];exact q) λc xs q=>by rw[t6 (u6 q hn)];exact q
end
def Rd(H:Hp)(a:Addr)(u:HO):Prop:=H a=some u\/∃o,H a=some (.frz o u)
theorem Rd.of(h:H a=some u):Rd H a u:=.inl h
theorem Rd.ok(r:Rd H a u)(x:HOk P w H h):N8 P w H h a u:=by
 rcases r with r|⟨o,r⟩
 ·exact x a u r
 ·obtain⟨_,q⟩:=x a _ r;exact q
def Mut:Option HO->Prop
 |some (.lst _)=>True
 |some (.dK _)=>True
 |some (.dT _)=>True
 |some (.set _ _)=>True
 |some (.ins _ _ _)=>True
 |some (.ext _)=>True
 |_=>False
section
theorem HOk.write(ok:HOk P w H h)(mu:Mut (H x))(he:e=x\/H e=some (.own x))(k:∀b u,b≠e->h.get? b=some u->h'.get? b=some u)(heo:∃u,h'.get? e=some u)
 (new:N8 P w (upd H x o') h' x o'):HOk P w (upd H x o') h':=λb u q=>by
 have nown:∀c y,H c=some (.own y)->c≠x:=λc y r z=>by subst z;rw[r]at mu;exact mu
 have ntup:∀c xs,H c=some (.tup xs)->c≠x:=λc xs r z=>by subst z;rw[r]at mu;exact mu
 by_cases hb:b=x
 ·subst hb;rw[v9]at q;cases q;exact new
 · rw[t6 hb]at q;by_cases hbe:b=e
   · have q':H b=some (.own x):=by
      rcases he with z|z
      ·exact absurd (hbe.trans z) hb
      ·rw[hbe];exact z
     rw[q]at q';cases q';obtain⟨v,hv⟩:=heo;exact⟨v,by rw[hbe];exact hv⟩
   · refine(ok b u q).stay (λc v hc r=>k c v ?_ r) (λc r=>by rw[t6 (nown c b r)];exact r) λc xs r=>by rw[t6 (ntup c xs r)];exact r
     rcases hc with rfl|hc
     ·exact hbe
     · rintro rfl;rcases he with z|z
       ·exact nown c b hc z
       ·rw[hc]at z;cases z;exact hb rfl
end
structure Un(fs ex:List Addr)(H H':Hp)(h h':Heap):Prop where
 keep:∀b o,h.get? b=some o->H b=none->b∉fs->b∉ex->h'.get? b=some o
 slot:∀b o,h.get? b=some o->H b=none->b∈fs->b∉ex->∃sl,h'.get? b=some {o with slots:=sl}
 free:∀b o,h.get? b=some o->H b=none->b∉ex->H' b=none
 there:∀b o,h.get? b=some o->b∉ex->∃o',h'.get? b=some o'
 tups:∀b xs,H b=some (.tup xs)->H' b=some (.tup xs)
 frzs:∀b o u,H b=some (.frz o u)->H' b=some (.frz o u)
 tbls:∀b ps,H b=some (.tbl ps)->∃more,H' b=some (.tbl (ps++more))
section
theorem Un.any(u:Un fs ex H H1 h h1)(q:h.get? b=some ob)(n:H b=none)(hx:b∉ex):∃sl,h1.get? b=some {ob with slots:=sl}:=by
 by_cases hb:b∈fs
 ·exact u.slot b ob q n hb hx
 ·exact⟨ob.slots,u.keep b ob q n hb hx⟩
theorem Un.trans(a:Un fs ex H H1 h h1)(b:Un fs ex H1 H2 h1 h2):Un fs ex H H2 h h2 where
 keep:=λc ob q n hc hx=>b.keep c ob (a.keep c ob q n hc hx) (a.free c ob q n hx) hc hx
 slot:=λc ob q n hc hx=>by obtain⟨sl,e1⟩:=a.slot c ob q n hc hx;obtain⟨sl',e2⟩:=b.slot c _ e1 (a.free c ob q n hx) hc hx;exact⟨sl',e2⟩
 free:=λc ob q n hx=>by obtain⟨o',e1⟩:=a.there c ob q hx;exact b.free c o' e1 (a.free c ob q n hx) hx
 there:=λc ob q hx=>by obtain⟨o',e1⟩:=a.there c ob q hx;exact b.there c o' e1 hx
 tups:=λc xs q=>b.tups c xs (a.tups c xs q)
 frzs:=λc ob xs q=>b.frzs c ob xs (a.frzs c ob xs q)
 tbls:=λc ps q=>by obtain⟨m1,e1⟩:=a.tbls c ps q;obtain⟨m2,e2⟩:=b.tbls c _ e1;exact⟨m1++m2,by rw[e2,YF]⟩
theorem Un.kept(k:∀b u,h.get? b=some u->h'.get? b=some u):Un fs ex H H h h':=
 ⟨λb ob q _ _ _=>k b ob q,λb ob q _ _ _=>⟨ob.slots,k b ob q⟩,λ_ _ _ n _=>n,λb ob q _=>⟨ob,k b ob q⟩,λ_ _ q=>q,λ_ _ _ q=>q,λ_ ps q=>⟨#[],by rw[q];simp⟩⟩
theorem Un.refl:Un fs ex H H h h:=Un.kept λ_ _ q=>q
theorem Un.laid(k:∀b u,h.get? b=some u->h'.get? b=some u)(hp:h.objs.size<=a)(hn:H a=none):Un fs ex H (upd H a o) h h' where
 keep:=λb u q _ _ _=>k b u q
 slot:=λb u q _ _ _=>⟨u.slots,k b u q⟩
 free:=λb u q n _=>by rw[t6 (zB (zK (zj q) hp))];exact n
 there:=λb u q _=>⟨u,k b u q⟩
 tups:=λb xs q=>by rw[t6 (u6 q hn)];exact q
 frzs:=λb u xs q=>by rw[t6 (u6 q hn)];exact q
 tbls:=λb ps q=>⟨#[],by rw[t6 (u6 q hn),q];simp⟩
theorem Un.write(mu:Mut (H x))(he:e=x\/H e=some (.own x))(k:∀b u,b≠e->h.get? b=some u->h'.get? b=some u)(heo:∃u,h'.get? e=some u):Un fs ex H (upd H x o) h h':=by
 have hx:∀b,H b=none->b≠x:=λb n z=>by subst z;rw[n]at mu;exact mu
 have hb:∀b,H b=none->b≠e:=λb n z=>by
  subst z;rcases he with r|r
  ·exact hx b n r
  ·rw[n]at r;cases r
 have hm:∀b u,H b=some u->¬Mut (some u)->b≠x:=λb u q nm z=>by subst z;rw[q]at mu;exact nm mu
 refine⟨λb u q n _ _=>k b u (hb b n) q,λb u q n _ _=>⟨u.slots,k b u (hb b n) q⟩,λb u q n _=>by rw[t6 (hx b n)];exact n,λb u q _=>?_,
  λb xs q=>by rw[t6 (hm b _ q λz=>z)];exact q,λb u xs q=>by rw[t6 (hm b _ q λz=>z)];exact q,λb ps q=>⟨#[],by rw[t6 (hm b _ q λz=>z),q];simp⟩⟩
 by_cases hbe:b=e
 ·subst hbe;exact heo
 ·exact⟨u,k b u hbe q⟩
theorem Un.mono(u:Un fs ex H H1 h h1)(hs:∀b∈fs,b∈fs')(hx:∀b∈ex,b∈ex'):Un fs' ex' H H1 h h1:=
 ⟨λb ob q n hb he=>u.keep b ob q n (λz=>hb (hs b z)) λz=>he (hx b z),λ_ _ q n _ he=>u.any q n λz=>he (hx _ z),λb ob q n he=>u.free b ob q n λz=>he (hx b z),λb ob q he=>u.there b ob q λz=>he (hx b z),u.tups,u.frzs,u.tbls⟩
end
def trk(h:Heap)(H:Hp):List Addr:=(jJ h.objs.size).filter λa=>(H a).isSome
def B7(h:Heap)(H:Hp):Heap:=PySem.W.hideAll h (trk h H)
theorem Mx(h:Heap)(H:Hp):(B7 h H).objs.size=h.objs.size:=PySem.W.hideAll_size _ _
theorem dW(e:h.get? b=some o)(n:H b=none):(B7 h H).get? b=some o:=
 PySem.W.hideAll_get _ e λhm=>by have q:(H b).isSome=true:=(List.mem_filter.mp hm).2;rw[n]at q;simp at q
theorem SQ(e:(B7 h H).get? b=some o):h.get? b=some o/\H b=none:=by
 have e':h.get? b=some o:=PySem.W.of_hideAll (trk h H) e;refine⟨e',?_⟩
 cases q:H b with
 |none=>rfl
 |some x=>
   have hm:b∈trk h H:=List.mem_filter.mpr ⟨xw.mpr (zj e'),by simp[q]⟩;have z:(B7 h H).get? b=none:=PySem.W.hideAll_none (trk h H) hm;rw[z]at e;cases e
def wQ(g h:Heap)(L:Addr):PNS:=(jJ h.objs.size).filterMap λa=>if a=L\/(g.get? a).isSome=true then none else (h.get? a).map λo=>(a,o)
def d7(g h:Heap)(L d:Addr):PNS:=(wQ g h L).filter λp=>decide (p.1≠d)
structure Mod(K:zd)(mg:Str->Option zg)(base:Heap):Prop where
 kin:K.In base
 glob:base.Ns zJ mg
 blt:∃mb,base.Ns builtinsNs mb/\∀x:Str,x≠ "__name__"->mb x=zQ x
 nolimit:base.NoLimit
structure Cx where
 prog:zF
 w:zO
 K:zd
 mg:Str->Option zg
 base:Heap
 A:zV
 N:List Str
 WZ:zm
 H₀:Hp
 env:Env
 outer:List Env
 stack:List Env
 ex:List Addr
 fn:Str->Bool
 calm:Bool
 pn:PNS
 xe:VSP
def frs(l:List Env):List Addr:=l.filterMap (·.frame)
abbrev Cx.fs(X:Cx):List Addr:=frs X.outer
def Vis(sc:Scope)(x:Str):Prop:=sc.names.lookup x=some .local\/sc.names.lookup x=some .cell\/sc.names.lookup x=some .free
def Loc(sc:Scope)(x:Str):Prop:=sc.names.lookup x=some .local\/sc.names.lookup x=some .cell
def sZ(env:Env)(h:Heap)(m:Str->Option zg)(x:Str)(u:zg):Prop:=
 (env.kindOf x=some .local/\m x=some u)\/((env.kindOf x=some .cell\/env.kindOf x=some .free)/\∃c,env.cells.lookup x=some c/\h.IsCell c (some u))
structure Cx.Ok(X:Cx):Prop where
 mod:Mod X.K X.mg X.base
 kind:X.env.scope.kind= .function
 glob:X.env.globals=zJ
 blt:X.env.builtins=builtinsNs
 above:X.WZ.heap.objs.size<=X.env.locals
 inj:∀x y c,X.env.cells.lookup x=some c->X.env.cells.lookup y=some c->x=y
 has:∀x,(X.env.kindOf x=some .cell\/X.env.kindOf x=some .free)->∃c,X.env.cells.lookup x=some c
 cab:∀x c,X.fn x=true->X.env.cells.lookup x=some c->X.WZ.heap.objs.size<=c
 hd:X.calm=true->X.A.handled=none
 frames:X.A.frames=some X.stack
 stk:X.stack=X.outer\/(X.stack=X.env::X.outer/\X.env.frame=some X.env.locals)
 exf:∀b∈X.ex,b≠X.env.locals/\∀x c,X.env.cells.lookup x=some c->c≠b
 bs:∀b o,X.base.get? b=some o->X.WZ.heap.get? b=some o/\X.H₀ b=none
 bsz:X.base.objs.size<=X.WZ.heap.objs.size
 noex:∀b o,X.base.get? b=some o->b∉X.ex
 exfs:∀b∈X.ex,b∉X.fs
 funs:X.WZ.heap.FunFrames X.base X.outer
 frf:∀b∈X.fs,X.H₀ b=none
 gd:X.A.guards=some []
structure Inv(X:Cx)(Ng:PNS)(U:List (Option V))(H:Hp)(s:zm):Prop where
 ok:X.Ok
 os:s.os=X.WZ.os
 bare:ZG s.gens
 base:Un X.fs X.ex X.H₀ H X.WZ.heap s.heap
 loc:∃m,s.heap.Ns X.env.locals m/\∀(i:Nat) (x:Str) (v:V),X.N[i]? =some x->U[i]? =some (some v)->Vis X.env.scope x->∃u,u9 v u/\sZ X.env s.heap m x u
 cell:∀x c,X.env.cells.lookup x=some c->∃v,s.heap.IsCell c v
 free:H X.env.locals=none
 freeC:∀x c,X.env.cells.lookup x=some c->H c=none
 pin:∀p∈X.pn++Ng,s.heap.get? p.1=some p.2/\H p.1=none/\p.1≠X.env.locals/\p.1∉X.fs/\∀v,p.2.data≠ .cell v
 hok:HOk X.prog X.w H s.heap
 len:U.length=X.N.length
section
variable{X:Cx}{Ng:PNS}{U:List (Option V)}{H H':Hp}{s:zm}
theorem Cx.Ok.nofr(ok:X.Ok)(e:X.base.get? b=some o):b∉X.fs:=λhb=>by have:=(ok.funs.mem hb).1;rw[e]at this;cases this
theorem Inv.bs(I:Inv X Ng U H s):∀b o,X.base.get? b=some o->s.heap.get? b=some o/\H b=none:=λb o e=>
 ⟨I.base.keep b o (I.ok.bs b o e).1 (I.ok.bs b o e).2 (I.ok.nofr e) (I.ok.noex b o e),I.base.free b o (I.ok.bs b o e).1 (I.ok.bs b o e).2 (I.ok.noex b o e)⟩
theorem Inv.bk(I:Inv X Ng U H s):∀b o,X.base.get? b=some o->s.heap.get? b=some o:=λb o e=>(I.bs b o e).1
theorem Inv.mod(I:Inv X Ng U H s):Mod X.K X.mg X.base:=I.ok.mod
theorem Inv.kIn(I:Inv X Ng U H s):X.K.In s.heap:=I.ok.mod.kin.keeps I.bk
theorem Inv.nolimit(I:Inv X Ng U H s):s.heap.NoLimit:=I.ok.mod.nolimit.keeps I.bk
theorem Inv.lt(I:Inv X Ng U H s):X.env.locals<s.heap.objs.size:=let ⟨_,hn,_⟩:=I.loc;hn.lt
theorem Inv.sz(I:Inv X Ng U H s):X.WZ.heap.objs.size<=s.heap.objs.size:=zw I.ok.above (xD I.lt)
theorem Inv.nofs(I:Inv X Ng U H s)(h:s.heap.objs.size<=a):a∉X.fs:=λhb=>by obtain⟨_,o,ho,_⟩:=I.ok.funs.mem hb;exact absurd (zK (zj ho) (zw I.sz h)) (xk _)
theorem Inv.cne(I:Inv X Ng U H s):∀x c,X.env.cells.lookup x=some c->c≠X.env.locals:=λx c e z=>by obtain⟨v,o,ho,hd⟩:=I.cell x c e;obtain⟨m,⟨o',es,ep,ho',Qd,_⟩,_⟩:=I.loc;rw[z,ho']at ho;cases ho;rw[Qd]at hd;cases hd
theorem Inv.funs(I:Inv X Ng U H s):s.heap.FunFrames X.base X.outer:=by
 have all:∀(l:List Env),(∀b∈frs l,b∈X.fs)->X.WZ.heap.FunFrames X.base l->s.heap.FunFrames X.base l:=by
  intro l
  induction l with
  |nil=>intro _ _;trivial
  |cons env r ih=>
    intro hs hl;obtain⟨hk,⟨L,o,hf,hn,ho,hd⟩,hr⟩:=hl;have hL:L∈X.fs:=hs L (by unfold frs;rw[yt,hf];exact zh);obtain⟨sl,e⟩:=I.base.slot L o ho (I.ok.frf L hL) hL λz=>I.ok.exfs L z hL;exact⟨hk,⟨L,_,hf,hn,e,hd⟩,ih (λb hb=>hs b (by unfold frs;rw[yt,hf];exact zo _ hb)) hr⟩
 exact all X.outer (λ_ hb=>hb) I.ok.funs
theorem Inv.stack(I:Inv X Ng U H s):s.heap.FunFrames X.base X.stack:=by
 rcases I.ok.stk with e|⟨e,hf⟩
 ·rw[e];exact I.funs
 ·rw[e];obtain⟨m,hn,_⟩:=I.loc;refine .cons (by rw[I.ok.kind];decide) hf hn ?_ I.funs;exact Yn (zw I.ok.bsz I.ok.above)
theorem Inv.stkSub(I:Inv X Ng U H s):∀b∈frs X.stack,b∈X.env.locals::X.fs:=λb hb=>by
 rcases I.ok.stk with e|⟨e,hf⟩
 ·rw[e]at hb;exact zo _ hb
 ·rw[e]at hb;unfold frs at hb;rw[yt,hf]at hb;exact hb
theorem Inv.stkFree(I:Inv X Ng U H s):∀b∈frs X.stack,H b=none:=λb hb=>by
 rcases zl.mp (I.stkSub b hb)with e|hb
 ·rw[e];exact I.free
 ·obtain⟨_,o,ho,_⟩:=I.ok.funs.mem hb;exact I.base.free b o ho (I.ok.frf b hb) λz=>I.ok.exfs b z hb
theorem Inv.step{t':Nat}{d':Drawn}{ch:List Addr}(I:Inv X Ng U H s)
 (hch:∀b∈ch,(b∈X.ex\/X.WZ.heap.objs.size<=b)/\b≠X.env.locals/\(∀x c,X.env.cells.lookup x=some c->c≠b)/\∀p∈X.pn++Ng,p.1≠b)
 (keep:∀b o,b≠X.env.locals->b∉X.fs->b∉ch->s.heap.get? b=some o->H b=none->h'.get? b=some o)
 (slot:∀b o,b≠X.env.locals->b∈X.fs->b∉ch->s.heap.get? b=some o->H b=none->∃sl,h'.get? b=some {o with slots:=sl}) (free:∀b o,b∉ch->s.heap.get? b=some o->H b=none->H' b=none)
 (there:∀b o,b∉ch->s.heap.get? b=some o->∃o',h'.get? b=some o')
 (tups:∀b xs,H b=some (.tup xs)->H' b=some (.tup xs)) (frzs:∀b o u,H b=some (.frz o u)->H' b=some (.frz o u)) (tbls:∀b ps,H b=some (.tbl ps)->∃more,H' b=some (.tbl (ps++more)))
 (ns:∀m,s.heap.Ns X.env.locals m->h'.Ns X.env.locals m) (hok:HOk X.prog X.w H' h') (hg:ZG g'):
 Inv X Ng U H' {s with heap:=h',gens:=g',drawn:=d',toks:=t'}:=by
 have neL:∀b o,X.WZ.heap.get? b=some o->b≠X.env.locals:=λb o e=>zB (zK (zj e) I.ok.above);have neC:∀b o,X.WZ.heap.get? b=some o->b∉X.ex->b∉ch:=λb o e hx hb=>by
  rcases (hch b hb).1 with z|z
  ·exact hx z
  ·exact absurd (zK (zj e) z) (xk _)
 have cellK:∀x c,X.env.cells.lookup x=some c->∀v,s.heap.IsCell c v->h'.IsCell c v:=λx c e v ⟨o,ho,hd⟩=>by
  have nch:c∉ch:=λz=>(hch c z).2.2.1 x c e rfl;by_cases hc:c∈X.fs
  ·obtain⟨sl,q⟩:=slot c o (I.cne x c e) hc nch ho (I.freeC x c e);exact⟨_,q,hd⟩
  ·exact⟨o,keep c o (I.cne x c e) hc nch ho (I.freeC x c e),hd⟩
 refine⟨I.ok,I.os,hg,⟨λb o e n hb hx=>?_,λb o e n hb hx=>?_,λb o e n hx=>?_,λb o e hx=>?_,λb xs e=>tups b xs (I.base.tups b xs e),λb o xs e=>frzs b o xs (I.base.frzs b o xs e),λb ps e=>?_⟩,?_,λx c e=>?_,?_,λx c e=>?_,λp hp=>?_,hok,I.len⟩
 ·exact keep b o (neL b o e) hb (neC b o e hx) (I.base.keep b o e n hb hx) (I.base.free b o e n hx)
 ·obtain⟨sl,e1⟩:=I.base.slot b o e n hb hx;obtain⟨sl',e2⟩:=slot b _ (neL b o e) hb (neC b o e hx) e1 (I.base.free b o e n hx);exact⟨sl',e2⟩
 ·obtain⟨o',e1⟩:=I.base.there b o e hx;exact free b o' (neC b o e hx) e1 (I.base.free b o e n hx)
 ·obtain⟨o',e1⟩:=I.base.there b o e hx;exact there b o' (neC b o e hx) e1
 ·obtain⟨m1,e1⟩:=I.base.tbls b ps e;obtain⟨m2,e2⟩:=tbls b _ e1;exact⟨m1++m2,by rw[e2,YF]⟩
 · obtain⟨m,hn,hl⟩:=I.loc;refine⟨m,ns m hn,λi x v e1 e2 e3=>?_⟩;obtain⟨u,r,l⟩:=hl i x v e1 e2 e3;refine⟨u,r,?_⟩;rcases l with l|⟨k,c,e,z⟩
   ·exact .inl l
   ·exact .inr ⟨k,c,e,cellK x c e _ z⟩
 ·obtain⟨v,z⟩:=I.cell x c e;exact⟨v,cellK x c e v z⟩
 ·obtain⟨m,⟨o,_,_,ho,_⟩,_⟩:=I.loc;exact free _ o (λz=>(hch _ z).2.1 rfl) ho I.free
 ·obtain⟨v,o,ho,hd⟩:=I.cell x c e;exact free c o (λz=>(hch c z).2.2.1 x c e rfl) ho (I.freeC x c e)
 ·obtain⟨e,n,ne,nf,d⟩:=I.pin p hp;have nch:p.1∉ch:=λz=>(hch p.1 z).2.2.2 p hp rfl;exact⟨keep p.1 p.2 ne nf nch e n,free p.1 p.2 nch e n,ne,nf,d⟩
theorem Inv.un(I:Inv X Ng U H s)(u:Un X.fs [] H H' s.heap h')(hok:HOk X.prog X.w H' h'):Inv X Ng U H' {s with heap:=h',toks:=t'}:=by
 obtain⟨m,⟨o,es,ep,ho,r⟩,_⟩:=id I.loc;obtain⟨sl,hL⟩:=u.any ho I.free (by simp);exact I.step (g':=s.gens) (d':=s.drawn) (ch:= []) (λ_ z=>nomatch z) (λb o _ hb _ e n=>u.keep b o e n hb (by simp)) (λb o _ hb _ e n=>u.slot b o e n hb (by simp)) (λb o _ e n=>u.free b o e n (by simp)) (λb o _ e=>u.there b o e (by simp)) u.tups u.frzs u.tbls (λm' hm=>by obtain⟨o',Qh,ep',ho',r'⟩:=hm;rw[ho]at ho';cases ho';exact⟨_,Qh,ep',hL,r'⟩) hok I.bare
theorem Inv.call{t':Nat}{d':Drawn}{ch:List Addr}(I:Inv X Ng U H s)(u:Un (frs X.stack) ch H H' s.heap h')(hok:HOk X.prog X.w H' h')(hg:ZG g')
 (hch:∀b∈ch,(b∈X.ex\/X.WZ.heap.objs.size<=b)/\b≠X.env.locals/\(∀x c,X.env.cells.lookup x=some c->c≠b)/\∀p∈X.pn++Ng,p.1≠b):
 Inv X Ng U H' {s with heap:=h',gens:=g',drawn:=d',toks:=t'}:=by
 obtain⟨m,⟨o,es,ep,ho,r⟩,_⟩:=id I.loc;obtain⟨sl,hL⟩:=u.any ho I.free λz=>(hch _ z).2.1 rfl;exact I.step (ch:=ch) hch (λb o hL hb hc e n=>u.keep b o e n (λz=>(zl.mp (I.stkSub b z)).elim hL hb) hc) (λb o _ _ hc e n=>u.any e n hc) (λb o hc e n=>u.free b o e n hc) (λb o hc e=>u.there b o e hc) u.tups u.frzs u.tbls (λm' hm=>by obtain⟨o',Qh,ep',ho',r'⟩:=hm;rw[ho]at ho';cases ho';exact⟨_,Qh,ep',hL,r'⟩) hok hg
theorem Inv.turned{t':Nat}(I:Inv X Ng U H s)(k:∀b o,b≠it->s.heap.get? b=some o->h'.get? b=some o)(hn:H it=none)(hL:it≠X.env.locals)
 (h1:it∈X.ex\/X.WZ.heap.objs.size<=it) (h2:∀x c,X.env.cells.lookup x=some c->c≠it) (h3:∀p∈X.pn++Ng,p.1≠it):Inv X Ng U H {s with heap:=h',toks:=t'}:=by
 have nit:∀b u,H b=some u->b≠it:=λb u e z=>by rw[z,hn]at e;cases e
 refine I.step (g':=s.gens) (d':=s.drawn) (ch:= [it]) (λb hb=>?_) (λb o _ _ hc e _=>k b o (λz=>hc (by simp[z])) e) (λb o _ _ hc e _=>⟨o.slots,k b o (λz=>hc (by simp[z])) e⟩) (λ_ _ _ _ n=>n)
  (λb o hc e=>⟨o,k b o (λz=>hc (by simp[z])) e⟩) (λ_ _ e=>e) (λ_ _ _ e=>e) (λb ps e=>⟨#[],by rw[e];simp⟩) (λm hm=>?_) (λb u e=>?_) I.bare
 · have e:b=it:=by simpa using hb
   subst e;exact⟨h1,hL,h2,h3⟩
 ·obtain⟨o,es,ep,ho,r⟩:=hm;exact⟨o,es,ep,k _ o (Ne.symm hL) ho,r⟩
 · refine(I.hok b u e).stay (λc v hc q=>k c v ?_ q) (λ_ q=>q) λ_ _ q=>q;rcases hc with z|z
   ·rw[z];exact nit b u e
   ·exact nit c _ z
theorem Inv.tok(I:Inv X Ng U H s)(t:Nat):Inv X Ng U H {s with toks:=t}:=I.un (h':=s.heap) (t':=t) Un.refl I.hok
theorem Inv.kept(I:Inv X Ng U H s)(k:∀b u,s.heap.get? b=some u->h'.get? b=some u):Inv X Ng U H {s with heap:=h',toks:=t'}:=I.un (Un.kept k) (I.hok.kept k)
theorem Inv.laid(I:Inv X Ng U H s)(k:∀b u,s.heap.get? b=some u->h'.get? b=some u)(hp:s.heap.objs.size<=a)(new:N8 X.prog X.w (upd H a o) h' a o):
 Inv X Ng U (upd H a o) {s with heap:=h',toks:=t'}:=I.un (Un.laid k hp (I.hok.fresh hp)) (I.hok.laid k hp new)
theorem Inv.write(I:Inv X Ng U H s)(mu:Mut (H x))(he:e=x\/H e=some (.own x))(k:∀b u,b≠e->s.heap.get? b=some u->h'.get? b=some u)(heo:∃u,h'.get? e=some u)
 (new:N8 X.prog X.w (upd H x o) h' x o):Inv X Ng U (upd H x o) {s with heap:=h',toks:=t'}:=I.un (Un.write mu he k heo) (I.hok.write mu he k heo new)
theorem Inv.pins_of(I:Inv X Ng U H s)(h:∀p∈pins',s.heap.get? p.1=some p.2/\H p.1=none/\p.1≠X.env.locals/\p.1∉X.fs/\∀v,p.2.data≠ .cell v):Inv X pins' U H s:=
 ⟨I.ok,I.os,I.bare,I.base,I.loc,I.cell,I.free,I.freeC,λp hp=>(jw.mp hp).elim (λz=>I.pin p (jN _ z)) (h p),I.hok,I.len⟩
theorem SF{N:List Str}(hN:N.Nodup){i j:Nat}{x:Str}(a:N[i]? =some x)(b:N[j]? =some x):i=j:=by obtain⟨h1,e1⟩:=jG.mp a;obtain⟨h2,e2⟩:=jG.mp b;exact(Xi hN).mp (e1.trans e2.symm)
theorem aU{M:Model}{A:zV}{E:VSP}{i:Nat}{x:Str}{v:V}{u:zg}{Q:Unit->zm->Prop}(I:Inv X Ng U H s)(hN:X.N.Nodup)(hi:X.N[i]? =some x)(hx:Loc X.env.scope x)(r:u9 v u)
 (h:∀s',Inv X Ng (U.set i (some v)) H s'->(∃a,xU a s.heap s'.heap/\(a=X.env.locals\/X.env.cells.lookup x=some a))->Q () s') (hf:X.fn x=true\/X.env.scope.names.lookup x=some .local):zv M A (storeName X.env x u) Q E s:=by
 obtain⟨m,hn,hl⟩:=id I.loc;have hcls:(X.env.scope.kind == .class||(X.env.scope.kind == .module&&X.env.locals != X.env.globals))=false:=by rw[I.ok.kind];rfl
 have hiσ:i<U.length:=by rw[I.len];exact(jG.mp hi).1
 have cne:=I.cne;have tracked:∀ {a:Addr} {h':Heap},(∃o,s.heap.get? a=some o/\H a=none)->xU a s.heap h'->HOk X.prog X.w H h':=λ{a h'} ha hs b ob e=>by
  obtain⟨_,_,hfree⟩:=ha;refine(I.hok b ob e).stay (λc w' hc q=>(hs.2 c ?_).trans q) (λ_ q=>q) λ_ _ q=>q;rintro rfl;rcases hc with rfl|hc
  ·rw[hfree]at e;cases e
  ·rw[hfree]at hc;cases hc
 rcases hx with hk|hk
 · refine wpAny_storeName_local hk hn (λh' hn' hs=>?_) hcls;obtain⟨oL,_,_,hoL,_⟩:=id hn;refine h _ ⟨I.ok,I.os,I.bare,⟨λb o e n hb hx=>?_,λb o e n hb hx=>?_,I.base.free,λb o e hx=>?_,I.base.tups,I.base.frzs,I.base.tbls⟩,⟨_,hn',λj y v' e1 e2 e3=>?_⟩,λy c e=>?_,I.free,I.freeC,λp hp=>?_,tracked ⟨oL,hoL,I.free⟩ hs,by simpa using I.len⟩ ⟨_,hs,.inl rfl⟩
   ·exact(hs.2 b (zB (zK (zj e) I.ok.above))).trans (I.base.keep b o e n hb hx)
   ·obtain⟨sl,e1⟩:=I.base.slot b o e n hb hx;exact⟨sl,(hs.2 b (zB (zK (zj e) I.ok.above))).trans e1⟩
   ·obtain⟨o',e1⟩:=I.base.there b o e hx;exact⟨o',(hs.2 b (zB (zK (zj e) I.ok.above))).trans e1⟩
   · by_cases hj:j=i
     · subst hj;rw[hi]at e1;cases e1;rw[zU hiσ]at e2
       cases e2
       exact⟨u,r,.inl ⟨hk,by simp⟩⟩
     · rw[jm (Ne.symm hj)]at e2;obtain⟨u',r',q⟩:=hl j y v' e1 e2 e3;refine⟨u',r',?_⟩;rcases q with⟨k,e⟩|⟨k,c,e,z⟩
       ·refine .inl ⟨k,?_⟩;have:y≠x:=λe=>hj (SF hN e1 (e▸hi));simp[this,e]
       ·exact .inr ⟨k,c,e,z.sameBut hs (cne y c e)⟩
   ·obtain⟨w',z⟩:=I.cell y c e;exact⟨w',z.sameBut hs (cne y c e)⟩
   ·obtain⟨e,n,ne,nf,d⟩:=I.pin p hp;exact⟨(hs.2 p.1 ne).trans e,n,ne,nf,d⟩
 · have hfn:X.fn x=true:=by
    rcases hf with z|z
    ·exact z
    ·rw[z]at hk;cases hk
   obtain⟨c,hc⟩:=I.ok.has x (.inl hk);obtain⟨w',z⟩:=I.cell x c hc;refine wpAny_storeName_cell I.ok.kind hk hc z (λh' hc' hs=>?_);obtain⟨oc,hoc,hocd⟩:=id z;refine h {s with heap:=h'} ⟨I.ok,I.os,I.bare,⟨λb o e n hb hx=>?_,λb o e n hb hx=>?_,I.base.free,λb o e hx=>?_,I.base.tups,I.base.frzs,I.base.tbls⟩,⟨m,hn.sameBut hs (Ne.symm (cne x c hc)),λj y v' e1 e2 e3=>?_⟩,λy c' e=>?_,I.free,I.freeC,λp hp=>?_,tracked ⟨oc,hoc,I.freeC x c hc⟩ hs,by simpa using I.len⟩ ⟨c,hs,.inr hc⟩
   ·exact(hs.2 b (zB (zK (zj e) (I.ok.cab x c hfn hc)))).trans (I.base.keep b o e n hb hx)
   ·obtain⟨sl,e1⟩:=I.base.slot b o e n hb hx;exact⟨sl,(hs.2 b (zB (zK (zj e) (I.ok.cab x c hfn hc)))).trans e1⟩
   ·obtain⟨o',e1⟩:=I.base.there b o e hx;exact⟨o',(hs.2 b (zB (zK (zj e) (I.ok.cab x c hfn hc)))).trans e1⟩
   · by_cases hj:j=i
     · subst hj;rw[hi]at e1;cases e1;rw[zU hiσ]at e2
       cases e2
       exact⟨u,r,.inr ⟨.inl hk,c,hc,hc'⟩⟩
     · rw[jm (Ne.symm hj)]at e2;obtain⟨u',r',q⟩:=hl j y v' e1 e2 e3;refine⟨u',r',?_⟩;rcases q with q|⟨k,c',e,z'⟩
       ·exact .inl q
       ·refine .inr ⟨k,c',e,z'.sameBut hs ?_⟩;rintro rfl;exact hj (SF hN e1 (I.ok.inj _ _ _ e hc▸hi))
   · by_cases hcc:c'=c
     ·subst hcc;exact⟨_,hc'⟩
     ·obtain⟨w2,z2⟩:=I.cell y c' e;exact⟨w2,z2.sameBut hs hcc⟩
   ·obtain⟨e,n,ne,nf,d⟩:=I.pin p hp;refine⟨(hs.2 p.1 ?_).trans e,n,ne,nf,d⟩;intro q;rw[q,hoc]at e;have q':oc=p.2:=js e;exact d w' (by rw[<-q'];exact hocd)
theorem IM(I:Inv X Ng U H s)(hN:X.N.Nodup)(hi:X.N[i]? =some x)(hx:Loc X.env.scope x)(r:u9 v u)
 (h:∀s',Inv X Ng (U.set i (some v)) H s'->Q () s') (hf:X.fn x=true\/X.env.scope.names.lookup x=some .local):zv M A (storeName X.env x u) Q E s:=
 aU I hN hi hx r (λs' I' _=>h s' I') hf
theorem Inv.call'(I:Inv X Ng U H s)(ho:s'.os=s.os)(u:Un (frs X.stack) ch H H' s.heap s'.heap)(hok:HOk X.prog X.w H' s'.heap)(hg:ZG s'.gens)
 (hch:∀b∈ch,(b∈X.ex\/X.WZ.heap.objs.size<=b)/\b≠X.env.locals/\(∀x c,X.env.cells.lookup x=some c->c≠b)/\∀p∈X.pn++Ng,p.1≠b):Inv X Ng U H' s':=by
 obtain⟨h',g',d',t',o'⟩:=s';have e:o'=s.os:=ho;subst e;exact I.call (g':=g') (t':=t') (d':=d') u hok hg hch
end
abbrev XK:=zg->Option Addr->Hp->Prop
abbrev St:=List (Option V)
abbrev VK:=V->Hp->Prop
abbrev TE:=St->Hp->VK->Prop
abbrev TT:=St->Hp->(Bool->Hp->Prop)->Prop
abbrev TA:=St->Hp->(List V->Hp->Prop)->Prop
structure y6 where
 nx:St->Hp->Prop
 rt:VK
 bk:St->Hp->Prop:=λ_ _=>False
 ct:St->Hp->Prop:=λ_ _=>False
abbrev TS:=y6->St->Hp->Prop
def EP(X:Cx)(Ng:PNS)(U:St)(Q:VK)(u:zg)(s':zm):Prop:=∃v H',Inv X Ng U H' s'/\u9 v u/\Q v H'
def TP(X:Cx)(Ng:PNS)(U:St)(Q:Bool->Hp->Prop)(b:Bool)(s':zm):Prop:=∃H',Inv X Ng U H' s'/\Q b H'
def AP(X:Cx)(Ng:PNS)(U:St)(Q:List V->Hp->Prop)(us:List zg)(s':zm):Prop:=∃vs H',Inv X Ng U H' s'/\t8 vs us/\Q vs H'
theorem EP.elim{X:Cx}{U:St}{Q:VK}{u:zg}{P:Prop}(h:EP X Ng U Q u s)(k:∀v H,Inv X Ng U H s->u9 v u->Q v H->P):P:=by obtain⟨a,b,c,d,e⟩:=h;exact k a b c d e
theorem TP.elim{X:Cx}{U:St}{u:Bool}{s:zm}{P:Prop}(h:TP X Ng U Q u s)(k:∀H,Inv X Ng U H s->Q u H->P):P:=by obtain⟨b,c,e⟩:=h;exact k b c e
theorem AP.elim{X:Cx}{U:St}{u:List zg}{s:zm}{P:Prop}(h:AP X Ng U Q u s)(k:∀v H,Inv X Ng U H s->t8 v u->Q v H->P):P:=by obtain⟨a,b,c,d,e⟩:=h;exact k a b c d e
def SP(X:Cx)(Ng:PNS)(D:y6)(f:Flow)(s':zm):Prop:=
 match f with
 | .next=>∃ X2 H',Inv X Ng X2 H' s'/\D.nx X2 H'
 | .brk=>∃ X2 H',Inv X Ng X2 H' s'/\D.bk X2 H'
 | .cont=>∃ X2 H',Inv X Ng X2 H' s'/\D.ct X2 H'
 | .ret u=>∃v X2 H',Inv X Ng X2 H' s'/\u9 v u/\D.rt v H'
def PE(X:Cx)(e:Expr)(t:TE):Prop:=
 ∀(Ng:PNS) (s:zm) (U:St) (H:Hp) (Q:VK),Inv X Ng U H s->t U H Q->zv (zD X.prog X.w) X.A (eval e X.env) (EP X Ng U Q) X.xe s
def PT(X:Cx)(e:Expr)(t:TT):Prop:=
 ∀(Ng:PNS) (s:zm) (U:St) (H:Hp) (Q:Bool->Hp->Prop),Inv X Ng U H s->t U H Q->zv (zD X.prog X.w) X.A (isTrue e X.env (eval e X.env)) (TP X Ng U Q) X.xe s
def PW(X:Cx)(e:Expr)(t:TT):Prop:=
 ∀(whole:Sem zg) (Ng:PNS) (s:zm) (U:St) (H:Hp) (Q:Bool->Hp->Prop),Inv X Ng U H s->t U H Q->zv (zD X.prog X.w) X.A (isTrue e X.env whole) (TP X Ng U Q) X.xe s
def PA(X:Cx)(es:List Expr)(t:TA):Prop:=
 ∀(pos:Pos) (Ng:PNS) (s:zm) (U:St) (H:Hp) (Q:List V->Hp->Prop),Inv X Ng U H s->t U H Q->zv (zD X.prog X.w) X.A (spliced (yy pos (zC es X.env))) (AP X Ng U Q) X.xe s
def PS(X:Cx)(st:Stmt)(t:TS):Prop:=
 ∀(Ng:PNS) (s:zm) (U:St) (H:Hp) (D:y6),Inv X Ng U H s->t D U H->zv (zD X.prog X.w) X.A (exec st X.env) (SP X Ng D) X.xe s
def PSs(X:Cx)(st:List Stmt)(t:TS):Prop:=
 ∀(Ng:PNS) (s:zm) (U:St) (H:Hp) (D:y6),Inv X Ng U H s->t D U H->zv (zD X.prog X.w) X.A (execs st X.env) (SP X Ng D) X.xe s
theorem thn(h:zv M A t Q E s)(hQ:∀a s,Q a s->Q' a s):zv M A t Q' E s:=jK h hQ λ_ _ x=>x
section
variable{X:Cx}
def y9(i:Nat):TE:=λU H Q=>∃v,U[i]? =some (some v)/\Q v H
def tC(v:V):TE:=λ_ H Q=>Q v H
theorem NA(hN:X.N[i]? =some x)(hv:Vis X.env.scope x)(hd:(x==("__debug__" :Str))=false)(hcd:(x==("__classdict__" :Str))=false):PE X (.Name x pos) (y9 i):=by
 intro Ng s U H Q I h;obtain⟨v,e,h⟩:=h;obtain⟨m,hn,hl⟩:=I.loc;obtain⟨u,r,l⟩:=hl i x v hN e hv;have fin:EP X Ng U Q u s:=⟨v,H,I,r,h⟩;rcases l with⟨hk,hm⟩|⟨hk,c,hc,hcell⟩
 ·exact wpAny_Name (wpAny_loadName_local I.ok.kind hk hn hm fin) hd
 · rcases hk with hk|hk
   ·exact wpAny_Name (wpAny_loadName_cell I.ok.kind hk hc hcell fin) hd
   ·exact wpAny_Name (wpAny_loadName_free I.ok.kind hk hc hcell fin hcd) hd
theorem MM{i j pos}:PE X (.Constant (.int i) j pos) (tC (.int i)):=λ_ _ _ H _ I h=>wpAny_Constant_int ⟨.int i,H,I.tok _,⟨_,rfl⟩,h⟩
theorem Lx{b j pos}:PE X (.Constant (.bool b) j pos) (tC (.bl b)):=λ_ _ _ H _ I h=>Constant_bool ⟨.bl b,H,I,rfl,h⟩
theorem wP{x j pos}:PE X (.Constant (.str x) j pos) (tC (.str x)):=λ_ _ _ H _ I h=>Calls.Constant_str ⟨.str x,H,I.tok _,⟨_,rfl⟩,h⟩
def Gl(X:Cx)(x:Str):Prop:=X.env.kindOf x=some .globalImplicit
theorem C8(I:Inv X Ng U H s)(hg:Gl X x)(hm:X.mg x=some u)(h:Q u s)
 (hd:(x==("__debug__" :Str))=false):zv (zD X.prog X.w) X.A (eval (.Name x pos) X.env) Q E s:=
 Xz I.ok.kind hg (Calls.loadGlobal_global (by rw[I.ok.glob];exact I.mod.glob.keeps I.bk) hm h) hd
theorem MA(I:Inv X Ng U H s)(hg:Gl X x)(hm:X.mg x=none)(hv:zQ x=some u)(h:Q u s)
 (hn:x≠ "__name__":=by decide) (hd:(x==("__debug__" :Str))=false:=by decide):zv (zD X.prog X.w) X.A (eval (.Name x pos) X.env) Q E s:=by
 obtain⟨mb,h1,h2⟩:=I.mod.blt;exact Xz I.ok.kind hg (Calls.loadGlobal_builtin (by rw[I.ok.glob];exact I.mod.glob.keeps I.bk) hm (by rw[I.ok.blt];exact h1.keeps I.bk) ((h2 x hn).trans hv) h) hd
theorem uB(hg:Gl X x)(hm:X.mg x=some u)(r:u9 v u)(hd:(x==("__debug__" :Str))=false):PE X (.Name x pos) (tC v):=
 λ_ _ _ H _ I h=>C8 I hg hm ⟨v,H,I,r,h⟩ hd
theorem UJ(hg:Gl X x)(hm:X.mg x=none)(hv:zQ x=some u)(r:u9 v u)(hn:x≠ "__name__")(hd:(x==("__debug__" :Str))=false):PE X (.Name x pos) (tC v):=
 λ_ _ _ H _ I h=>MA I hg hm hv ⟨v,H,I,r,h⟩ hn hd
variable{a b:Expr}{ta tb:TE}{pos:Pos}
def tB(t:TE):TT:=λU H Q=>t U H λx H1=>∃c,x= .bl c/\Q c H1
variable{tA tB':TT}{d7:List Expr}
def cV(t u:TT):TT:=λU H Q=>t U H λc H1=>if c=true then u U H1 Q else Q false H1
def tOr(t u:TT):TT:=λU H Q=>t U H λc H1=>if c=true then Q true H1 else u U H1 Q
def CS(t:TT):TT:=λU H Q=>t U H λc H1=>Q (!c) H1
theorem Bz(ha:PT X a tA):PW X (.BoolOp .And [a] pos) tA:=by
 intro wh Ng s U H Q I h;refine isTrue_and (thn (ha Ng s U H Q I h) λc s1 e=>?_)
 cases c with
 |true=>exact isTrue_and_nil e
 |false=>exact e
theorem Lk(ha:PT X a tA):PW X (.BoolOp .Or [a] pos) tA:=by
 intro wh Ng s U H Q I h;refine isTrue_or (thn (ha Ng s U H Q I h) λc s1 e=>?_)
 cases c with
 |false=>exact isTrue_or_nil e
 |true=>exact e
theorem cZ(ha:PT X a tA)(hb:PW X (.BoolOp .And (b::d7) pos) tB'):PW X (.BoolOp .And (a::b::d7) pos) (cV tA tB'):=by
 intro wh Ng s U H Q I h;refine isTrue_and (thn (ha Ng s U H _ I h) λc s1 Nq=>Nq.elim λH1 I1 q1=>?_)
 cases c with
 |true=>exact hb wh Ng s1 U H1 Q I1 q1
 |false=>exact⟨H1,I1,q1⟩
theorem HY(ha:PT X a tA)(hb:PW X (.BoolOp .Or (b::d7) pos) tB'):PW X (.BoolOp .Or (a::b::d7) pos) (tOr tA tB'):=by
 intro wh Ng s U H Q I h;refine isTrue_or (thn (ha Ng s U H _ I h) λc s1 Nq=>Nq.elim λH1 I1 q1=>?_)
 cases c with
 |true=>exact⟨H1,I1,q1⟩
 |false=>exact hb wh Ng s1 U H1 Q I1 q1
theorem VW(ha:PT X a tA):PT X (.UnaryOp .Not a pos) (CS tA):=by intro Ng s U H Q I h;exact isTrue_not (ha Ng s U H (λc H1=>Q (!c) H1) I h)
theorem Lq{op}(h:PE X a t):PE X (.BoolOp op [a] pos) t:=λNg s U H Q I hw=>BoolOp_one (h Ng s U H Q I hw)
def tIf(t:TT)(ta tb:TE):TE:=λU H Q=>t U H λc H1=>if c=true then ta U H1 Q else tb U H1 Q
theorem qp(hc:PT X c tA)(ha:PE X a ta)(hb:PE X b tb):PE X (.IfExp c a b pos) (tIf tA ta tb):=by
 intro Ng s U H Q I h;refine wpAny_IfExp (thn (hc Ng s U H _ I h) λd s1 Nq=>Nq.elim λH1 I1 q1=>?_)
 cases d with
 |true=>exact ha Ng s1 U H1 Q I1 q1
 |false=>exact hb Ng s1 U H1 Q I1 q1
end
def SqL(K:zd)(H:Hp)(a:Addr)(xs:List V):Prop:=
 Rd H a (.lst xs)\/
  ∃(o:Obj) (Nj:Array zg) (n:Nat),K.lookup a=some o/\o.cls= .type "list"/\o.dict=none/\o.data= .seq Nj n/\Nj.size<=ze/\t8 xs Nj.toList
def SqT(K:zd)(H:Hp)(a:Addr)(xs:List V):Prop:=
 Rd H a (.tup xs)\/
  ∃(o:Obj) (Nj:Array zg) (n:Nat),K.lookup a=some o/\o.cls= .type "tuple"/\(o.data,o.dict)= (Data.seq Nj n,none)/\Nj.size<=ze/\t8 xs Nj.toList
def IP:zg->Option V
 | .none=>some .non
 | .bool b=>some (.bl b)
 | .int i _=>some (.int i)
 | .str x _=>some (.str x)
 | .bytes b _=>some (.byt b)
 | .float b _=>some (.flt b)
 | .ref a=>some (.ref a)
 | .type n=>some (.ty n)
 |_=>none
theorem u9.abs(r:u9 x u):IP u=some x:=by
 cases x with
 |non=>cases r;rfl
 |bl _=>cases r;rfl
 |int _=>obtain⟨t,rfl⟩:=r;rfl
 |str _=>obtain⟨t,rfl⟩:=r;rfl
 |byt _=>obtain⟨t,rfl⟩:=r;rfl
 |flt _=>obtain⟨t,rfl⟩:=r;rfl
 |ref _=>cases r;rfl
 |ty _=>cases r;rfl
theorem u9.inj(r:u9 x u)(q:u9 y u):x=y:=js (r.abs.symm.trans q.abs)
theorem t8.inj(h:t8 xs us)(k:t8 ys us):xs=ys:=by
 induction h generalizing ys with
 |nil=>cases k;rfl
 |cons r t ih=>cases k with
   |cons r' t'=>rw[r.inj r',ih t']
section
theorem SqL.of{K:zd}(h:H a=some (.lst xs)):SqL K H a xs:=.inl (.inl h)
theorem SqT.of{K:zd}(h:H a=some (.tup xs)):SqT K H a xs:=.inl (.inl h)
theorem Inv.list(I:Inv X Ng U H s)(h:SqL X.K H a xs):∃Nj:List zg,t8 xs Nj/\PlainL s.heap a Nj.toArray/\xs.length<=ze:=by
 rcases h with h|⟨o,Nj,n,hk,hc,hd,hs,hz,r⟩
 ·obtain⟨z,Nj,n,r,e⟩:=h.ok I.hok;exact⟨Nj,r,⟨_,n,e,rfl,rfl,rfl⟩,z⟩
 ·refine⟨Nj.toList,r,⟨o,n,I.kIn a o hk,hc,hd,by simpa using hs⟩,?_⟩;have e:=r.length;simp only[yQ]at e;lia
theorem Inv.tuple(I:Inv X Ng U H s)(h:SqT X.K H a xs):∃Nj:List zg,t8 xs Nj/\IsTup s.heap a Nj.toArray/\xs.length<=ze:=by
 rcases h with h|⟨o,Nj,n,hk,hc,hs,hz,r⟩
 ·obtain⟨z,Nj,r,p⟩:=h.ok I.hok;exact⟨Nj,r,W6.tup p,z⟩
 ·refine⟨Nj.toList,r,⟨o,I.kIn a o hk,hc,n,by simpa using (Yc hs).1⟩,?_⟩;have e:=r.length;simp only[yQ]at e;lia
theorem Inv.list_inj(I:Inv X Ng U H s)(h:SqL X.K H a xs)(h':SqL X.K H a ys):xs=ys:=by
 obtain⟨Nj,r,⟨o,n,e,_,_,d⟩,_⟩:=I.list h;obtain⟨its',r',⟨o',n',e',_,_,d'⟩,_⟩:=I.list h';rw[e]at e';cases e';rw[d]at d';injection d' with d1 _;have:Nj=its':=by simpa using congrArg YO d1
 subst this;exact r.inj r'
theorem Inv.tuple_inj(I:Inv X Ng U H s)(h:SqT X.K H a xs)(h':SqT X.K H a ys):xs=ys:=by
 obtain⟨Nj,r,⟨o,e,_,n,d⟩,_⟩:=I.tuple h;obtain⟨its',r',⟨o',e',_,n',d'⟩,_⟩:=I.tuple h';rw[e]at e';cases e';rw[d]at d';injection d' with d1 _;have:Nj=its':=by simpa using congrArg YO d1
 subst this;exact r.inj r'
end
abbrev Cx.wish(X:Cx)(E:VSP):Cx:={X with xe:=E}
abbrev Cx.nox(X:Cx):Cx:=X.wish λ_ _=>False
theorem Cx.Ok.wish{X:Cx}(ok:X.Ok)(E:VSP):(X.wish E).Ok:=
 ⟨ok.mod,ok.kind,ok.glob,ok.blt,ok.above,ok.inj,ok.has,ok.cab,ok.hd,ok.frames,ok.stk,ok.exf,ok.bs,ok.bsz,ok.noex,ok.exfs,ok.funs,ok.frf,ok.gd⟩
theorem Cx.Ok.unwish{X:Cx}(ok:(X.wish E).Ok):X.Ok:=
 ⟨ok.mod,ok.kind,ok.glob,ok.blt,ok.above,ok.inj,ok.has,ok.cab,ok.hd,ok.frames,ok.stk,ok.exf,ok.bs,ok.bsz,ok.noex,ok.exfs,ok.funs,ok.frf,ok.gd⟩
section
theorem Inv.wish(I:Inv X Ng U H s)(E:VSP):Inv (X.wish E) Ng U H s:=⟨I.ok.wish E,I.os,I.bare,I.base,I.loc,I.cell,I.free,I.freeC,I.pin,I.hok,I.len⟩
theorem Inv.unwish(I:Inv (X.wish E) Ng U H s):Inv X Ng U H s:=⟨I.ok.unwish,I.os,I.bare,I.base,I.loc,I.cell,I.free,I.freeC,I.pin,I.hok,I.len⟩
theorem SP.unwish(h:SP (X.wish E) Ng D f s'):SP X Ng D f s':=by
 cases f with
 |next=>obtain⟨X2,H',I,q⟩:=h;exact⟨X2,H',I.unwish,q⟩
 |brk=>obtain⟨X2,H',I,q⟩:=h;exact⟨X2,H',I.unwish,q⟩
 |cont=>obtain⟨X2,H',I,q⟩:=h;exact⟨X2,H',I.unwish,q⟩
 |ret u=>obtain⟨v,X2,H',I,r,q⟩:=h;exact⟨v,X2,H',I.unwish,r,q⟩
theorem PE.nox(h:PE X.nox e t):PE X e t:=λNg s U H Q I hw=>
 jK (h Ng s U H Q (I.wish _) hw) (λ_ _ ⟨v,H',I',r,q⟩=>⟨v,H',I'.unwish,r,q⟩) λ_ _ z=>ya z
theorem PT.nox(h:PT X.nox e t):PT X e t:=λNg s U H Q I hw=>
 jK (h Ng s U H Q (I.wish _) hw) (λ_ _ ⟨H',I',q⟩=>⟨H',I'.unwish,q⟩) λ_ _ z=>ya z
theorem PSs.nox{st:List Stmt}(h:PSs X.nox st t):PSs X st t:=λNg s U H D I hw=>
 jK (h Ng s U H D (I.wish _) hw) (λ_ _ q=>q.unwish) λ_ _ z=>ya z
end
section
variable{X:Cx}{st:Stmt}{d7:List Stmt}{t u:TS}
def CQ:TS:=λD U H=>D.nx U H
def sP(t u:TS):TS:=λD U H=>t {D with nx:=u D} U H
theorem fX:PSs X [] CQ:=λ_ _ U H _ I h=>xu ⟨U,H,I,h⟩
theorem UL(h1:PS X st t)(h2:PSs X d7 u):PSs X (st::d7) (sP t u):=by
 intro Ng s U H D I h;refine XY (thn (h1 Ng s U H {D with nx:=u D} I h) λf s1 q=>?_)
 cases f with
 |next=>
   obtain⟨X2,H',I',q⟩:=q;exact h2 Ng s1 X2 H' D I' q
 |ret v=>exact q
 |brk=>exact q
 |cont=>exact q
theorem bL(h1:PS X st t):PSs X [st] t:=by
 intro Ng s U H D I h;refine XY (thn (h1 Ng s U H D I h) λf s1 q=>?_)
 cases f with
 |next=>exact xu q
 |ret v=>exact q
 |brk=>exact q
 |cont=>exact q
theorem Inv.quiet(I:Inv X Ng U H s):interactive X.env=false:=by simp[interactive,I.ok.kind]
def Mj(te:TE):TS:=λD U H=>te U H λ_ H1=>D.nx U H1
theorem PN(he:PE X e te)(hs:swapsWith e none pos.line X.env=pure false):PS X (.Expr e pos) (Mj te):=by intro Ng s U H D I h;exact wpAny_Expr_any (thn (he Ng s U H _ I h) λv s1 Nq=>Nq.elim λx H1 I1 r1 q1=>⟨U,H1,I1,q1⟩) I.quiet hs
def FR(te:TE):TS:=λD U H=>te U H D.rt
theorem IU(he:PE X e te):PS X (.Return (some e) pos) (FR te):=by intro Ng s U H D I h;exact wpAny_Return_some (thn (he Ng s U H _ I h) λv s1 Nq=>Nq.elim λx H1 I1 r1 q1=>⟨x,U,H1,I1,r1,q1⟩)
def dZ(c:TT)(t u:TS):TS:=λD U H=>c U H λb H1=>if b=true then t D U H1 else u D U H1
theorem BP{tc:TT}(hc:PT X c tc)(ha:PSs X a t)(hb:PSs X b u):PS X (.If c a b pos) (dZ tc t u):=by
 intro Ng s U H D I h;refine wpAny_If (thn (hc Ng s U H _ I h) λd s1 Nq=>Nq.elim λH1 I1 q1=>?_)
 cases d with
 |true=>exact ha Ng s1 U H1 D I1 q1
 |false=>exact hb Ng s1 U H1 D I1 q1
end
abbrev TG:=V->St->Hp->(St->Hp->Prop)->Prop
abbrev TGs:=List V->St->Hp->(St->Hp->Prop)->Prop
def PG(X:Cx)(target:Expr)(t:TG):Prop:=
 ∀(Ng:PNS) (s:zm) (U:St) (H:Hp) (v:V) (u:zg) (Q:St->Hp->Prop),Inv X Ng U H s->u9 v u->t v U H Q->
  zv (zD X.prog X.w) X.A (Yr target X.env u) (λ_ s'=>∃ X2 H',Inv X Ng X2 H' s'/\Q X2 H') X.xe s
def PGs(X:Cx)(ts:List Expr)(t:TGs):Prop:=
 ∀(Ng:PNS) (s:zm) (U:St) (H:Hp) (vs:List V) (us:List zg) (Q:St->Hp->Prop),Inv X Ng U H s->t8 vs us->t vs U H Q->
  zv (zD X.prog X.w) X.A (assignInOrder ((yW ts X.env).map (·.2)) us) (λ_ s'=>∃ X2 H',Inv X Ng X2 H' s'/\Q X2 H') X.xe s
abbrev TSet:=V->V->V->Hp->(Hp->Prop)->Prop
def iG(X:Cx)(t:TSet):Prop:=
 ∀(Ng:PNS) (s:zm) (U:St) (H:Hp) (o i v:V) (ov iv u:zg) (Q:Hp->Prop),Inv X Ng U H s->u9 o ov->u9 i iv->u9 v u->t o i v H Q->
  zv (zD X.prog X.w) X.A (setItem ov iv u) (λ_ s'=>∃H',Inv X Ng U H' s'/\Q H') X.xe s
section
def qz(i:Nat):TG:=λv U H Q=>Q (U.set i (some v)) H
theorem mM(hN:X.N.Nodup)(hi:X.N[i]? =some x)(hx:Loc X.env.scope x)(hf:X.fn x=true\/X.env.scope.names.lookup x=some .local):PG X (.Name x pos) (qz i):=by intro Ng s U H v u Q I r h;exact wpAny_assign_Name (IM I hN hi hx r (λs' I'=>⟨_,H,I',h⟩) hf)
def Hw:TGs:=λvs U H Q=>vs= []/\Q U H
def sS(t:TG)(u:TGs):TGs:=λvs U H Q=>∃v r,vs=v::r/\t v U H λX2 H'=>u r X2 H' Q
theorem TY:PGs X [] Hw:=by
 intro Ng s U H vs us Q I r h;obtain⟨e,h⟩:=h;subst e
 cases r
 exact assignInOrder_nil ⟨U,H,I,h⟩
theorem Bq(h1:PG X e t)(h2:PGs X es u)
 (hs:(yW (e::es) X.env).map (·.2)=Yr e X.env::(yW es X.env).map (·.2)):PGs X (e::es) (sS t u):=by
 intro Ng s U H vs us Q I r h;obtain⟨v,vr,e1,h⟩:=h;subst e1
 cases r with
 |cons r rr=>
   rw[hs];refine assignInOrder_cons (thn (h1 Ng s U H _ _ _ I r h) λ_ s1 ⟨WY,H1,I1,q1⟩=>?_);exact h2 Ng s1 WY H1 _ _ Q I1 rr q1
def Hg(K:zd)(n:Nat)(t:TGs):TG:=λv U H Q=>∃a xs,v= .ref a/\SqT K H a xs/\xs.length=n/\t xs U H Q
theorem VO(hc:X.calm=true)(h:PGs X es t)
 (hn:(yW es X.env).length=n) (hst:(yW es X.env).findIdx? (·.1)=none):PG X (.Tuple es k pos) (Hg X.K n t):=by
 intro Ng s U H v u Q I r hw;obtain⟨a,xs,e1,hq,hl,hw⟩:=hw;subst e1
 cases r
 obtain⟨Nj,rv,ht,hz⟩:=I.tuple hq;refine assign_Tuple_tuple (I.ok.hd hc) ht (by simp[hn,<-hl,rv.length]) hst λh' hx=>?_;have I1:Inv X Ng U H {s with heap:=h'}:=I.kept (t':=s.toks) λb o e=>hx b o (zB (zj e)) e;exact h Ng _ U H xs _ Q I1 (by simpa using rv) hw
def PZ(to ti:TE)(t:TSet):TG:=λv U H Q=>to U H λo H1=>ti U H1 λi H2=>t o i v H2 λH3=>Q U H3
theorem Lb(ho:PE X o to)(hi:PE X i ti)(hs:iG X t)
 (ha:∀v,Yr (.Subscript o i pos) X.env v= (do
   let ov <-YQ [v] (eval o X.env)
   let iv <-YQ [v,ov] (eval i X.env)
   standAt pos
   YQ [v,ov,iv] (setItem ov iv v)
   release [v,ov,iv] [])):PG X (.Subscript o i pos) (PZ to ti t):=by
 intro Ng s U H v u Q I r h;rw[ha];refine zc (yV (thn (ho Ng s U H _ I h) λov s1 ⟨x,H1,I1,r1,q1⟩=>?_));refine zc (yV (thn (hi Ng s1 U H1 _ I1 q1) λiv s2 ⟨y,H2,I2,r2,q2⟩=>?_));refine zc (wpAny_standAt (zc (yV (thn (hs Ng s2 U H2 x y v ov iv u _ I2 r1 r2 r q2) λ_ s3 ⟨H3,I3,q3⟩=>?_))));exact wpAny_release ⟨U,H3,I3,q3⟩
def wT(te:TE)(g:TG):TS:=λD U H=>te U H λx H1=>g x U H1 D.nx
theorem kI{g:TG}(he:PE X e te)(hg:PG X tg g)(hs:ZY [tg] e pos.line X.env=pure false)(hw:ZZ [tg] e X.env=pure none)
 (h1:(yW [tg] X.env).map (·.2)= [Yr tg X.env]):PS X (.Assign [tg] e pos) (wT te g):=by
 intro Ng s U H D I h;refine wpAny_Assign_stores (thn (he Ng s U H _ I h) λv s1 Nq=>Nq.elim λx H1 I1 r1 q1=>?_) hs hw;rw[h1];exact thn (hg Ng s1 U H1 x v _ I1 r1 q1) λ_ s2 q=>q
end
section
def wX(c:TT)(tb:TS):TS:=λD U H=>∃W:Nat->St->Hp->Prop,(∃m,W m U H)/\∀m U H,W m U H->
 c U H λb H1=>if b=true then ∃N:St->Hp->Prop,(∀ X2 H',N X2 H'->∃m',m'<m/\W m' X2 H')/\tb {D with nx:=N,ct:=N,bk:=D.nx} U H1 else D.nx U H1
theorem Lf{tc:TT}{tb:TS}(hp:PassesOwn (zD X.prog X.w) X.A X.env X.xe)(hc:PT X c tc)(hb:PSs X body tb):PS X (.While c body [] pos) (wX tc tb):=by
 intro Ng s U H D I h;obtain⟨W,⟨m0,w0⟩,turn⟩:=h;refine wpAny_While (codeAny_whileLoop (λn s'=>∃ X2 H',Inv X Ng X2 H' s'/\W n X2 H') ?_ m0 ⟨U,H,I,w0⟩);rintro n s1 ⟨WY,H1,I1,w1⟩;refine wpAny_passesOwn hp (thn (hc Ng s1 WY H1 _ I1 (turn n WY H1 w1)) λb s2 Nq=>Nq.elim λH2 I2 q2=>?_)
 cases b with
 |true=>
   obtain⟨N,hN,q2⟩:=q2;rw[if_pos rfl];refine wpAny_passesOwn hp (thn (hb Ng s2 WY H2 _ I2 q2) λf s3 q3=>?_)
   cases f with
   |next=>
     obtain⟨WN,H3,I3,n3⟩:=q3;obtain⟨m',hm,w3⟩:=hN WN H3 n3;exact⟨m',hm,WN,H3,I3,w3⟩
   |cont=>
     obtain⟨WN,H3,I3,n3⟩:=q3;obtain⟨m',hm,w3⟩:=hN WN H3 n3;exact⟨m',hm,WN,H3,I3,w3⟩
   |brk=>exact q3
   |ret v=>exact q3
 |false=>
   rw[if_neg zG];exact xu ⟨WY,H2,I2,q2⟩
end
structure It where
 go:Nat->Hp->Prop
 yld:Nat->Hp->V->Hp->Prop
 stop:Nat->Hp->Prop
def Q2(X:Cx)(Ng:PNS)(H:Hp)(b:Addr):Prop:=
 H b=none/\b≠X.env.locals/\b∉X.fs/\(b∈X.ex\/X.WZ.heap.objs.size<=b)/\(∀x c,X.env.cells.lookup x=some c->c≠b)/\∀p∈X.pn++Ng,p.1≠b
theorem Inv.fpOk(I:Inv X Ng U H s)(hb:s.heap.objs.size<=b)(hn:H' b=none):Q2 X Ng H' b:=by
 refine⟨hn,yM (zK I.lt hb),I.nofs hb,.inr (zw I.sz hb),λx c e z=>?_,λp hp z=>?_⟩
 ·obtain⟨v,q⟩:=I.cell x c e;exact absurd (zK q.lt (by rw[z];exact hb)) (xk _)
 ·exact absurd (zK (zj (I.pin p hp).1) (by rw[z];exact hb)) (xk _)
inductive TIt(X:Cx)(Ng:PNS)(U:St)(J:It)(fp:List Addr)(tn:Nat->Heap->Prop)(i:Nat)(H:Hp)(u:zg)(s2:zm):Prop
 |mk (x:V) (H':Hp) (I:Inv X Ng U H' s2) (r:u9 x u) (y:J.yld i H x H') (st:tn (i+1) s2.heap) (fr:∀b∈fp,H' b=none)
structure D5(P:zF)(w:zO)(K:zd)(tg:Expr)(J:It)(fp:List Addr)(it:Addr)(tn:Nat->Heap->Prop):Prop where
 mem:it∈fp
 obj:∀i h,tn i h->∀b∈fp,∃o,h.get? b=some o/\∀v,o.data≠ .cell v
 keep:∀i h h',tn i h->(∀b∈fp,∀o,h.get? b=some o->h'.get? b=some o)->tn i h'
 item:∀(X:Cx),X.prog=P->X.w=w->X.K=K->X.calm=true->∀(i:Nat) (Ng:PNS) (s:zm) (U:St) (H:Hp) (E:VSP),Inv X Ng U H s->(∀b∈fp,Q2 X Ng H b)->tn i s.heap->J.go i H->
  zv (zD P w) X.A (Xn (.ref it)) (λr s1=>∃u,r=some u/\
   zv (zD P w) X.A (xT tg (.ref it) u) (λ_ s2=>TIt X Ng U J fp tn i H u s2) E s1) E s
 done:∀(X:Cx),X.prog=P->X.w=w->X.K=K->X.calm=true->∀(i:Nat) (Ng:PNS) (s:zm) (U:St) (H:Hp) (E:VSP),Inv X Ng U H s->(∀b∈fp,Q2 X Ng H b)->tn i s.heap->J.stop i H->
  zv (zD P w) X.A (Xn (.ref it)) (λr s1=>r=none/\Inv X Ng U H s1) E s
 self:∀(A:zV) (i:Nat) (s:zm) (Q:VSP) (E:VSP),tn i s.heap->Q (.ref it) s->zv (zD P w) A (pyIter (.ref it)) Q E s
abbrev TI:=St->Hp->(It->Hp->Prop)->Prop
inductive PIE(X:Cx)(Ng:PNS)(U:St)(tg:Expr)(R:It->Hp->Prop)(itv:zg)(s2:zm):Prop
 |mk (it:Addr) (fp:List Addr) (tn:Nat->Heap->Prop) (J:It) (H':Hp) (e:itv= .ref it) (I:Inv X Ng U H' s2) (T:D5 X.prog X.w X.K tg J fp it tn) (st:tn 0 s2.heap) (f:∀b∈fp,Q2 X Ng H' b) (r:R J H')
def PI(X:Cx)(tg iter:Expr)(wi:TI):Prop:=
 ∀(Ng:PNS) (s:zm) (U:St) (H:Hp) (R:It->Hp->Prop),Inv X Ng U H s->wi U H R->
  zv (zD X.prog X.w) X.A (eval iter X.env) (λv s1=>zv (zD X.prog X.w) X.A (pyIter v) (PIE X Ng U tg R) X.xe s1) X.xe s
theorem AA(ho:s.heap.get? it=some o)(hc:o.cls= .type n)(hd:o.data= .fields vs)
 (hn: ["enumerate", "zip", "dict_itemiterator", "dict_reverseitemiterator", "odict_iterator", "itertools.zip_longest", "itertools.pairwise"].contains n=false) (hQ:Q () s):zv M A (xT tg (.ref it) u) Q E s:=by
 unfold xT
 cases tg<;>first
  |exact zt hQ
  | (cases u <;> first
      |exact zt hQ
      | (refine zc (wpAny_load ho ?_)
         rw[hc,hd];show zv M A (if (["enumerate", "zip", "dict_itemiterator", "dict_reverseitemiterator", "odict_iterator", "itertools.zip_longest", "itertools.pairwise"].contains n&&vs[0]? == some (xJ _))=true then _ else _) Q E s;rw[if_neg (by intro h;rw[hn,Bool.false_and]at h;cases h)];exact zt hQ))
def Itl(K:zd)(a:Addr):It:=
 ⟨λi H=>∃xs x,SqL K H a xs/\xs[i]? =some x,λi H x H'=>H'=H/\∀xs,SqL K H a xs->xs[i]? =some x,λi H=>∃xs,SqL K H a xs/\xs.length<=i⟩
def Itt(K:zd)(a:Addr):It:=
 ⟨λi H=>∃xs x,SqT K H a xs/\xs[i]? =some x,λi H x H'=>H'=H/\∀xs,SqT K H a xs->xs[i]? =some x,λi H=>∃xs,SqT K H a xs/\xs.length<=i⟩
def Itr(lo:Int)(n:Nat):It:=⟨λi _=>i<n,λi H x H'=>H'=H/\x= .int (lo+i),λi _=>n<=i⟩
theorem eW{w:zO}{K:zd}{tg:Expr}(a it:Addr):D5 P w K tg (Itl K a) [it] it (λi h=>h.IsListIter it a i) where
 mem:=by simp
 obj:=λi h st b hb=>by
  have e:b=it:=by simpa using hb
  subst e;obtain⟨o,e,c,d⟩:=st;exact⟨o,e,λv z=>by rw[d]at z;cases z⟩
 keep:=λi h h' st k=>st.at λo e=>k it (by simp) o e
 item:=by intro X hP hw hK hc i Ng s U H E I hf st hg;subst hP hw hK;obtain⟨xs,x,hq,hx⟩:=hg;obtain⟨Nj,rv,p,hz⟩:=I.list hq;obtain⟨u,hu,ru⟩:=rv.get hx;obtain⟨f0,f1,f2,f3,f4,f5⟩:=hf it (by simp);refine wpAny_pyNext_list_item st p.isList (x:=u) (by simpa using hu) λh' Nv sb=>?_;have I1:Inv X Ng U H {s with heap:=h'}:=I.turned (t':=s.toks) (λb o hb e=>(sb.2 b hb).trans e) f0 f1 f3 f4 f5;obtain⟨o,e,c,d⟩:=id Nv;exact⟨u,rfl,AA (s:={s with heap:=h'}) e c d (by decide) ⟨x,H,I1,ru,⟨rfl,λys hy=>by rw[I.list_inj hy hq];exact hx⟩,Nv,λb hb=>(hf b hb).1⟩⟩
 done:=by intro X hP hw hK hc i Ng s U H E I hf st hg;subst hP hw hK;obtain⟨xs,hq,hx⟩:=hg;obtain⟨Nj,rv,p,hz⟩:=I.list hq;obtain⟨f0,f1,f2,f3,f4,f5⟩:=hf it (by simp);have hl:=rv.length;exact wpAny_pyNext_list_end (I.ok.hd hc) st p.isList (by simp;lia) λh' eb=>⟨rfl,I.turned (t':=s.toks) (λb o hb e=>eb b o hb e) f0 f1 f3 f4 f5⟩
 self:=λ_ _ _ _ _ st h=>wpAny_pyIter_listiter st h
theorem IV{w:zO}{K:zd}{tg:Expr}(a it:Addr):D5 P w K tg (Itt K a) [it] it (λi h=>h.IsTupleIter it a i) where
 mem:=by simp
 obj:=λi h st b hb=>by
  have e:b=it:=by simpa using hb
  subst e;obtain⟨o,e,c,d⟩:=st;exact⟨o,e,λv z=>by rw[d]at z;cases z⟩
 keep:=λi h h' st k=>st.at λo e=>k it (by simp) o e
 item:=by intro X hP hw hK hc i Ng s U H E I hf st hg;subst hP hw hK;obtain⟨xs,x,hq,hx⟩:=hg;obtain⟨Nj,rv,p,hz⟩:=I.tuple hq;obtain⟨u,hu,ru⟩:=rv.get hx;obtain⟨f0,f1,f2,f3,f4,f5⟩:=hf it (by simp);refine wpAny_pyNext_tuple_item st (show s.heap.IsTuple a Nj.toArray from p) (x:=u) (by simpa using hu) λh' Nv sb=>?_;have I1:Inv X Ng U H {s with heap:=h'}:=I.turned (t':=s.toks) (λb o hb e=>(sb.2 b hb).trans e) f0 f1 f3 f4 f5;obtain⟨o,e,c,d⟩:=id Nv;exact⟨u,rfl,AA (s:={s with heap:=h'}) e c d (by decide) ⟨x,H,I1,ru,⟨rfl,λys hy=>by rw[I.tuple_inj hy hq];exact hx⟩,Nv,λb hb=>(hf b hb).1⟩⟩
 done:=by intro X hP hw hK hc i Ng s U H E I hf st hg;subst hP hw hK;obtain⟨xs,hq,hx⟩:=hg;obtain⟨Nj,rv,p,hz⟩:=I.tuple hq;obtain⟨f0,f1,f2,f3,f4,f5⟩:=hf it (by simp);have hl:=rv.length;exact wpAny_pyNext_tuple_end (I.ok.hd hc) st (show s.heap.IsTuple a Nj.toArray from p) (by simp;lia) λh' eb=>⟨rfl,I.turned (t':=s.toks) (λb o hb e=>eb b o hb e) f0 f1 f3 f4 f5⟩
 self:=λ_ _ _ _ _ st h=>wpAny_pyIter_tupleiter st h
theorem qw{w:zO}{K:zd}{tg:Expr}(it:Addr)(lo:Int)(n:Nat):D5 P w K tg (Itr lo n) [it] it (λi h=>IsRangeIter h it (lo+(i:Nat)*1) ((n:Int)-(i:Nat)) 1) where
 mem:=by simp
 obj:=λi h st b hb=>by
  have e:b=it:=by simpa using hb
  subst e;exact⟨_,st,λv z=>by
   have z':Data.fields _=Data.cell v:=z
   cases z'⟩
 keep:=λi h h' st k=>k it (by simp) _ st
 item:=by intro X hP hw hK hc i Ng s U H E I hf st hg;subst hP hw hK;obtain⟨f0,f1,f2,f3,f4,f5⟩:=hf it (by simp);have W:=Walks.range (prog:=X.prog) (w:=X.w) (I.ok.hd hc) it lo 1 n;refine W.item i s _ _ hg st λv h' tk hv Nv kk=>?_;obtain⟨t,rfl⟩:=hv;have I1:Inv X Ng U H {s with heap:=h',toks:=tk}:=I.turned (λb o hb e=>kk b o (by simpa using hb) e) f0 f1 f3 f4 f5;refine⟨_,rfl,AA (s:={s with heap:=h',toks:=tk}) (n:= "range_iterator") Nv rfl rfl (by decide) ⟨.int (lo+i),H,I1,⟨t,?_⟩,⟨rfl,rfl⟩,Nv,λb hb=>(hf b hb).1⟩⟩;rw[Yw]
 done:=by intro X hP hw hK hc i Ng s U H E I hf st hg;subst hP hw hK;obtain⟨f0,f1,f2,f3,f4,f5⟩:=hf it (by simp);exact wpAny_pyNext_range_end (I.ok.hd hc) st (by have:n<=i:=hg;lia) λh' eb=>⟨rfl,I.turned (t':=s.toks) (λb o hb e=>eb b o hb e) f0 f1 f3 f4 f5⟩
 self:=λ_ _ _ _ _ st h=>wpAny_pyIter_rangeiter st h
section
theorem SR{U:St}{H:Hp}{s:zm}{R:It->Hp->Prop}{lo hi:Int}{t u v:Tok}{tk:Nat}(I:Inv X Ng U H s)(h1: -(2 ^ 62)<=lo)(h2:lo<2 ^ 62)(h3: -(2 ^ 62)<=hi)(h4:hi<2 ^ 62)
 (q:R (Itr lo (hi-lo).toNat) H):zv (zD X.prog X.w) X.A (pyIter (.ref s.heap.objs.size)) (PIE X Ng U tg R) E {s with heap:=s.heap.push {cls:=.type "range",data:=.fields #[.int lo t,.int hi u,.int 1 v]},toks:=tk}:=by
 refine wpAny_pyIter_range (IsRange.new ..) (small_one h1 h2 h3 h4) ?_;have I1:Inv X Ng U H {s with heap:=s.heap.push {cls:=.type "range",data:=.fields #[.int lo t,.int hi u,.int 1 v]},toks:=tk}:=I.kept λb o e=>zf _ e;refine⟨(s.heap.push {cls:=.type "range",data:=.fields #[.int lo t,.int hi u,.int 1 v]}).objs.size, [(s.heap.push {cls:=.type "range",data:=.fields #[.int lo t,.int hi u,.int 1 v]}).objs.size],_,_,H,rfl,
  I1.kept (t':=tk) λb o e=>zf _ e,qw _ lo (hi-lo).toNat,?_,λb hb=>?_,q⟩
 · have e1:lo+((0:Nat):Int)*1=lo:=by simp
   have e2:(((hi-lo).toNat:Nat):Int)-((0:Nat):Int)=Builtin.Range.rangeSize lo hi 1:=by rw[rangeSize_one];split<;>lia
   show IsRangeIter _ _ (lo+((0:Nat):Int)*1) ((((hi-lo).toNat:Nat):Int)-((0:Nat):Int)) 1;rw[e1,e2];exact zy _ rfl
 · have e:b= (s.heap.push {cls:=.type "range",data:=.fields #[.int lo t,.int hi u,.int 1 v]}).objs.size:=by simpa using hb
   subst e;exact I1.fpOk (zk _) (I1.hok.fresh (zk _))
def RU(ta:TA):TI:=λU H R=>ta U H λvs H1=>∃j:Int,vs= [.int j]/\ -(2 ^ 62)<=j/\j<2 ^ 62/\R (Itr 0 j.toNat) H1
theorem BS{ta:TA}(hg:Gl X "range")(hm:X.mg "range" =none)(ha:PA X [a] ta)(hs:zC [a] X.env= [(false,eval a X.env)]):PI X tg (.Call (.Name "range" p) [a] [] pos) (RU ta):=by
 intro Ng s U H R I h;refine Call_ (MA I hg hm boot_range (yX (thn (ha pos Ng s U H _ I h) λus s1 Nq=>Nq.elim λvs H1 I1 r1 q1=>?_) hs rfl));obtain⟨j,e,q1,q2,q⟩:=q1;subst e
 cases r1 with
 |cons r rr=>
   cases rr
   obtain⟨t,rfl⟩:=r;exact call_range_1 (SR I1 (by lia) (by lia) q1 q2 (by simpa using q))
def AW(wi:TI)(g:TG)(tb:TS):TS:=λD U H=>wi U H λJ H1=>∃W:Nat->Nat->St->Hp->Prop,(∃m,W 0 m U H1)/\∀i m U H,W i m U H->
 (J.stop i H/\D.nx U H)\/(J.go i H/\∃N:St->Hp->Prop,(∀ X2 H',N X2 H'->∃m',m'<m/\W (i+1) m' X2 H')/\∀x H',J.yld i H x H'->g x U H' λσ2 H2=>tb {D with nx:=N,ct:=N,bk:=D.nx} σ2 H2)
def AC(fp:List Addr)(h:Heap):PNS:=fp.filterMap λb=>(h.get? b).map λo=>(b,o)
theorem iE(hb:b∈fp)(e:h.get? b=some o):(b,o)∈AC fp h:=List.mem_filterMap.mpr ⟨b,hb,by rw[e];rfl⟩
theorem Hq(hp:p∈AC fp h):p.1∈fp/\h.get? p.1=some p.2:=by
 obtain⟨b,hb,e⟩:=List.mem_filterMap.mp hp
 cases q:h.get? b with
 |none=>rw[q]at e;cases e
 |some o=>
   rw[q]at e;have e':(b,o)=p:=js e;subst e';exact⟨hb,q⟩
theorem Inv.pinned(I:Inv X Ng U H s)(hf:∀b∈fp,Q2 X Ng H b)(ho:∀b∈fp,∃o,s.heap.get? b=some o/\∀v,o.data≠ .cell v):Inv X (Ng++AC fp s.heap) U H s:=
 I.pins_of λp hp=>(jw.mp hp).elim (λz=>I.pin p (zT _ z)) λz=>by obtain⟨hb,e⟩:=Hq z;obtain⟨f0,f1,f2,_⟩:=hf p.1 hb;obtain⟨o,e',d⟩:=ho p.1 hb;rw[e]at e';cases e';exact⟨e,f0,f1,f2,d⟩
theorem Inv.unpinned(I:Inv X (Ng++pl) U H s):Inv X Ng U H s:=I.pins_of λp hp=>I.pin p (zT _ (jN _ hp))
inductive aI(X:Cx)(Ng:PNS)(fp:List Addr)(tn:Nat->Heap->Prop)(W:Nat->Nat->St->Hp->Prop)(n:Nat)(s':zm):Prop
 |mk (i:Nat) (X2:St) (H':Hp) (I:Inv X Ng X2 H' s') (st:tn i s'.heap) (fr:∀b∈fp,H' b=none) (w:W i n X2 H')
theorem TW{body:List Stmt}{g:TG}{tb:TS}{Ng:PNS}{D:y6}{it:Addr}{fp:List Addr}{tn:Nat->Heap->Prop}{J:It}(hp:∀e s,X.xe e s->EE e s)(hc:X.calm=true)(hg:PG X tg g)(hb:PSs X body tb)
 (T:D5 X.prog X.w X.K tg J fp it tn) (stat:∀ {H':Hp},(∀b∈fp,H' b=none)->∀b∈fp,Q2 X Ng H' b)
 (turn:∀i m U H,W i m U H->
 (J.stop i H/\D.nx U H)\/(J.go i H/\∃N:St->Hp->Prop,(∀ X2 H',N X2 H'->∃m',m'<m/\W (i+1) m' X2 H')/\∀x H',J.yld i H x H'->g x U H' λσ2 H2=>tb {D with nx:=N,ct:=N,bk:=D.nx} σ2 H2))
   {n:Nat} {s3:zm} (h3:aI X Ng fp tn W n s3) {NX:zm->Prop} (nx:∀m s,m<n->aI X Ng fp tn W m s->NX s):
   zv (zD X.prog X.w) X.A (Xn (.ref it)) (λr s1=>match r with
    |none=>zv (zD X.prog X.w) X.A (execs [] X.env) (λf s2=>SP X Ng D f s2) EE s1
    | some v => zv (zD X.prog X.w) X.A (xT tg (.ref it) v) (λ_ s2 => zv (zD X.prog X.w) X.A (Yr tg X.env v) (λ_ s4 => zv (zD X.prog X.w) X.A (execs body X.env) (λf s5 => match f with
       | .next| .cont=>NX s5
       | .brk=>SP X Ng D .next s5
       | .ret v=>SP X Ng D (.ret v) s5) EE s4) EE s2) EE s1) EE s3:=by
 obtain⟨i,WN,H3,I3,st3,fr3,w3⟩:=h3;rcases turn i n WN H3 w3 with⟨stop,qn⟩|⟨go,N,hN,step⟩
 ·refine jK (T.done X rfl rfl rfl hc i Ng s3 WN H3 X.xe I3 (stat fr3) st3 stop) (λr s4 z1=>?_) hp;obtain⟨hr,I4⟩:=z1;subst hr;exact xu ⟨WN,H3,I4,qn⟩
 · refine jK (T.item X rfl rfl rfl hc i Ng s3 WN H3 X.xe I3 (stat fr3) st3 go) (λr s4 z2=>?_) hp;obtain⟨u,hr,h4⟩:=z2;subst hr;refine jK h4 (λ_ s5 z3=>?_) hp;obtain⟨x,H5,I5,r5,y5,st5,fr5⟩:=z3;have I5':=I5.pinned (stat fr5) (T.obj _ _ st5);refine jK (hg _ s5 WN H5 x u _ I5' r5 (step x H5 y5)) (λ_ s6 z4=>?_) hp;obtain⟨WR,H6,I6,q6⟩:=z4;refine jK (hb _ s6 WR H6 _ I6 q6) (λf s7 q7=>?_) hp;have again:∀ {WQ:St} {H7:Hp},Inv X (Ng++AC fp s5.heap) WQ H7 s7->N WQ H7->NX s7:=λ{WQ H7} I7 n7=>by
    obtain⟨m',hm,w7⟩:=hN WQ H7 n7;refine nx m' _ hm ⟨i+1,WQ,H7,I7.unpinned,T.keep _ _ _ st5 λb hb o e=>(I7.pin (b,o) (zT _ (zT _ (iE hb e)))).1,λb hb=>?_,w7⟩;obtain⟨o,e,d⟩:=T.obj _ _ st5 b hb;exact(I7.pin (b,o) (zT _ (zT _ (iE hb e)))).2.1
   cases f with
   |next=>obtain⟨WQ,H7,I7,n7⟩:=q7;exact again I7 n7
   |cont=>obtain⟨WQ,H7,I7,n7⟩:=q7;exact again I7 n7
   |brk=>obtain⟨WQ,H7,I7,q7⟩:=q7;exact⟨WQ,H7,I7.unpinned,q7⟩
   |ret v=>obtain⟨x7,WQ,H7,I7,r7,q7⟩:=q7;exact⟨x7,WQ,H7,I7.unpinned,r7,q7⟩
theorem vP(hp:PassesOwn (zD X.prog X.w) X.A X.env X.xe)(hc:X.calm=true)(hi:PI X tg iter wi)(hg:PG X tg g)(hb:PSs X body tb)
 (hs:∀x,Zd iter X.env x=pure x):PS X (.For tg iter body [] pos) (AW wi g tb):=by
 intro Ng s U H D I h;refine wpAny_For (thn (hi Ng s U H _ I h) λv s1 h1=>thn h1 λitv s2 h2=>?_) hs;obtain⟨it,fp,tn,J,H2,e,I2,T,st2,f2,W,⟨m0,w0⟩,turn⟩:=h2;subst e
 -- what stays true of the iterator's objects through the loop
 have stat:∀ {H':Hp},(∀b∈fp,H' b=none)->∀b∈fp,Q2 X Ng H' b:=λhn b hb=>⟨hn b hb,(f2 b hb).2⟩;exact codeAny_forLoop_any (aI X Ng fp tn W) (λn s3 h3=>TW hp hc hg hb T stat turn h3 λm s h1 h2=>⟨m,h1,h2⟩) m0 ⟨0,U,H2,I2,st2,λb hb=>(f2 b hb).1,w0⟩
end
abbrev R2:=V->V->Hp->VK->Prop
def OpR(X:Cx)(f:zg->zg->Sem zg)(r:R2):Prop:=
 ∀(Ng:PNS) (s:zm) (U:St) (H:Hp) (x y:V) (v u:zg) (Q:VK),Inv X Ng U H s->u9 x v->u9 y u->r x y H Q->
  zv (zD X.prog X.w) X.A (f v u) (EP X Ng U Q) X.xe s
def UnR(X:Cx)(f:zg->Sem zg)(r:V->Hp->VK->Prop):Prop:=
 ∀(Ng:PNS) (s:zm) (U:St) (H:Hp) (x:V) (v:zg) (Q:VK),Inv X Ng U H s->u9 x v->r x H Q->
  zv (zD X.prog X.w) X.A (f v) (EP X Ng U Q) X.xe s
def T4(X:Cx)(f:zg)(r:List V->Hp->VK->Prop):Prop:=
 ∀(Ng:PNS) (s:zm) (U:St) (H:Hp) (xs:List V) (us:List zg) (Q:VK),Inv X Ng U H s->t8 xs us->r xs H Q->
  zv (zD X.prog X.w) X.A (call f us) (EP X Ng U Q) X.xe s
def Mq(X:Cx)(r:V->Hp->(Bool->Hp->Prop)->Prop):Prop:=
 ∀(Ng:PNS) (s:zm) (U:St) (H:Hp) (x:V) (v:zg) (Q:Bool->Hp->Prop),Inv X Ng U H s->u9 x v->r x H Q->
  zv (zD X.prog X.w) X.A (truthy v) (TP X Ng U Q) X.xe s
def tOp(r:R2)(ta tb:TE):TE:=λU H Q=>ta U H λx H1=>tb U H1 λy H2=>r x y H2 Q
def tUn(r:V->Hp->VK->Prop)(ta:TE):TE:=λU H Q=>ta U H λx H1=>r x H1 Q
def rI(C:Int->Int->Prop)(g:Int->Int->V):R2:=λx y H Q=>∃i j,x= .int i/\y= .int j/\C i j/\Q (g i j) H
def L7(g:Int->Int->V):R2:=λx y H Q=>∃i j,x= .int i/\y= .int j/\Q (g i j) H
def rU(g:Int->V):V->Hp->VK->Prop:=λx H Q=>∃i,x= .int i/\Q (g i) H
section
theorem uG(ha:PE X a ta)(hb:PE X b tb){Ng:PNS}{s:zm}{U:St}{H:Hp}{R:V->V->Hp->Prop}(I:Inv X Ng U H s)
 (h:ta U H λx H1=>tb U H1 λy H2=>R x y H2) {f:zg->zg->Sem zg}
 (hf:∀v u s2 x y H2,Inv X Ng U H2 s2->u9 x v->u9 y u->R x y H2->zv (zD X.prog X.w) X.A (f v u) Q X.xe s2):
 zv (zD X.prog X.w) X.A (eval a X.env) (λv W1=>zv (zD X.prog X.w) X.A (eval b X.env) (λu s₂=>zv (zD X.prog X.w) X.A (f v u) Q X.xe s₂) X.xe W1) X.xe s:=by
 refine thn (ha Ng s U H _ I h) λv s1 Nq=>Nq.elim λx H1 I1 r1 q1=>?_;refine thn (hb Ng s1 U H1 _ I1 q1) λu s2 Nq=>Nq.elim λy H2 I2 r2 q2=>?_;exact hf v u s2 x y H2 I2 r1 r2 q2
theorem dG(ho:OpR X (yg op) r)(ha:PE X a ta)(hb:PE X b tb):PE X (.BinOp a op b pos) (tOp r ta tb):=by intro Ng s U H Q I h;exact wpAny_BinOp (uG ha hb I h λv u s2 x y H2 I2 rx ry q=>ho Ng s2 U H2 x y v u Q I2 rx ry q)
theorem Km(ho:UnR X (unaryOp op) r)(ha:PE X a ta):PE X (.UnaryOp op a pos) (tUn r ta):=by intro Ng s U H Q I h;exact UnaryOp_ (thn (ha Ng s U H _ I h) λv s1 Nq=>Nq.elim λx H1 I1 r1 q1=>ho Ng s1 U H1 x v Q I1 r1 q1)
theorem opI{C:Int->Int->Prop}{g:Int->Int->Int}
 (rule:∀(i j:Int) (t u:Tok) (s:zm) Q (E:VSP),C i j->Q (.int (g i j) s.toks) {s with toks:=s.toks+1}->zv (zD X.prog X.w) X.A (f (.int i t) (.int j u)) Q E s):
 OpR X f (rI C λi j=>.int (g i j)):=by
 intro Ng s U H x y v u Q I rx ry h;obtain⟨i,j,rfl,rfl,hc,q⟩:=h;obtain⟨t,rfl⟩:=rx;obtain⟨t',rfl⟩:=ry;exact rule i j t t' s _ _ hc ⟨.int (g i j),H,I.tok _,⟨_,rfl⟩,q⟩
theorem TN{g:Int->Int->Int}
 (rule:∀(i j:Int) (t u:Tok) (s:zm) Q (E:VSP),Q (.int (g i j) s.toks) {s with toks:=s.toks+1}->zv (zD X.prog X.w) X.A (f (.int i t) (.int j u)) Q E s):
 OpR X f (L7 λi j=>.int (g i j)):=by
 intro Ng s U H x y v u Q I rx ry h;obtain⟨i,j,rfl,rfl,q⟩:=h;obtain⟨t,rfl⟩:=rx;obtain⟨t',rfl⟩:=ry;exact rule i j t t' s _ _ ⟨.int (g i j),H,I.tok _,⟨_,rfl⟩,q⟩
theorem iH{g:Int->Int->Bool}
 (rule:∀(i j:Int) (t u:Tok) (s:zm) Q (E:VSP),Q (.bool (g i j)) s->zv (zD X.prog X.w) X.A (f (.int i t) (.int j u)) Q E s):
 OpR X f (L7 λi j=>.bl (g i j)):=by
 intro Ng s U H x y v u Q I rx ry h;obtain⟨i,j,rfl,rfl,q⟩:=h;obtain⟨t,rfl⟩:=rx;obtain⟨t',rfl⟩:=ry;exact rule i j t t' s _ _ ⟨.bl (g i j),H,I,rfl,q⟩
def QA(i j:Int):Prop:=0<=j/\j<=1000000/\i.natAbs<2 ^ 64
def E5(i j:Int):Prop:=(-(2 ^ 64)<i/\i<2 ^ 64)\/(-(2 ^ 64)<j/\j<2 ^ 64)
theorem E5.ok(h:E5 i j):IntMulOk i j:=by
 rcases h with⟨h1,h2⟩|⟨h1,h2⟩
 ·exact .of_left (intBits_le_64 h1 h2)
 ·exact .of_right (intBits_le_64 h1 h2)
theorem EW:OpR X (yg .Add) (L7 λi j=>.int (i+j)):=TN λ_ _ _ _ _ _ _ q=>add_int q
theorem rM:OpR X (yg .Sub) (L7 λi j=>.int (i-j)):=TN λ_ _ _ _ _ _ _ q=>sub_int q
theorem GX:OpR X (yg .Mult) (rI E5 λi j=>.int (i*j)):=opI λ_ _ _ _ _ _ _ hc q=>mul_int q hc.ok
theorem qX:OpR X (yg .Mod) (rI (λ_ j=>0<j) λi j=>.int (i % j)):=opI λi j _ _ _ _ _ hc q=>by have h1:(0:Int)<j:=hc;exact mod_int' (by lia) (by rw[Int.fmod_eq_emod_of_nonneg i (by lia)];exact q)
theorem uN:OpR X (yg .Pow) (rI QA λi j=>.int (i ^ j.toNat)):=opI λ_ _ _ _ _ _ _ hc q=>pow_int_small hc.1 hc.2.1 hc.2.2 q
theorem unI{f:zg->Sem zg}{g:Int->Int}
 (rule:∀(i:Int) (t:Tok) (s:zm) Q E,Q (.int (g i) s.toks) {s with toks:=s.toks+1}->zv (zD X.prog X.w) X.A (f (.int i t)) Q E s):
 UnR X f (rU λi=>.int (g i)):=by
 intro Ng s U H x v Q I rx h;obtain⟨i,rfl,q⟩:=h;obtain⟨t,rfl⟩:=rx;exact rule i t s _ _ ⟨.int (g i),H,I.tok _,⟨_,rfl⟩,q⟩
theorem SY:UnR X (unaryOp .USub) (rU λi=>.int (-i)):=unI λ_ _ _ _ _ q=>neg_int q
end
section
theorem Bh(I:Inv X Ng U H s)(q:Q (.bl k) H)(e:k=k'):EP X Ng U Q (.bool k') s:=by subst e;exact⟨.bl k,H,I,rfl,q⟩
theorem Fp:OpR X (zY .LtE) (L7 λi j=>.bl (decide (i<=j))):=iH λ_ _ _ _ _ _ _ q=>le_int q
theorem OR:OpR X (zY .Gt) (L7 λi j=>.bl (decide (j<i))):=iH λ_ _ _ _ _ _ _ q=>gt_int q
theorem wq:OpR X (zY .GtE) (L7 λi j=>.bl (decide (j<=i))):=iH λ_ _ _ _ _ _ _ q=>ge_int q
theorem kj:OpR X (zY .In) (λx y H Q=>∃i j,x= .str i/\y= .str j/\Q (.bl (!(ju j i 0 j.length 1).isEmpty)) H):=by intro Ng s U H x y v u Q I rx ry h;obtain⟨i,j,rfl,rfl,q⟩:=h;obtain⟨t,rfl⟩:=rx;obtain⟨t',rfl⟩:=ry;exact in_str (Bh I q rfl)
theorem OpR.or(h:OpR X f r)(h':OpR X f r'):OpR X f (λx y H Q=>r x y H Q\/r' x y H Q):=by
 intro Ng s U H x y v u Q I rx ry q;rcases q with q|q
 ·exact h Ng s U H x y v u Q I rx ry q
 ·exact h' Ng s U H x y v u Q I rx ry q
theorem LP(ho:OpR X (zY op) r)(ha:PE X a ta)(hb:PE X b tb)(hm:Xd op b=false):PE X (.Compare a [op] [b] pos) (tOp r ta tb):=by intro Ng s U H Q I h;exact wpAny_Compare1 (uG ha hb I h λv u s2 x y H2 I2 rx ry q=>ho Ng s2 U H2 x y v u Q I2 rx ry q) hm
def lJ(t:TE):TT:=λU H Q=>t U H λx H'=>∃k,x= .bl k/\Q k H'
theorem Dh(ho:OpR X (zY op) r)(ha:PE X a ta)(hb:PE X b tb)(hm:Xd op b=false):PT X (.Compare a [op] [b] pos) (lJ (tOp r ta tb)):=by
 intro Ng s U H Q I h;refine wpAny_isTrue_Compare1 (thn (ha Ng s U H _ I h) λv s1 Nq=>Nq.elim λx H1 I1 r1 q1=>thn (hb Ng s1 U H1 _ I1 q1) λu s2 Nq=>Nq.elim λy H2 I2 r2 q2=>
  thn (ho Ng s2 U H2 x y v u _ I2 r1 r2 q2) λc s3 ⟨z,H3,I3,r3,k,e,q3⟩=>?_) hm
 subst e
 cases r3
 exact xA ⟨H3,I3,q3⟩
def lN(r r':R2)(ta tb tc:TE):TE:=λU H Q=>ta U H λx H1=>tb U H1 λy H2=>r x y H2 λz H3=>∃k,z= .bl k/\
 (if k=true then tc U H3 λw' H4=>r' y w' H4 Q else Q (.bl false) H3)
theorem BZ(ho:OpR X (zY op) r)(ho':OpR X (zY op') r')(ha:PE X a ta)(hb:PE X b tb)(hc:PE X c tc)
 (hm:lastMarks [op,op'] [b,c]=false):PT X (.Compare a [op,op'] [b,c] pos) (lJ (lN r r' ta tb tc)):=by
 intro Ng s U H Q I h;refine isTrue_chain (thn (ha Ng s U H _ I h) λv s1 Nq=>Nq.elim λx H1 I1 r1 q1=>test_link (thn (hb Ng s1 U H1 _ I1 q1) λu s2 Nq=>Nq.elim λy H2 I2 r2 q2=>
  thn (ho Ng s2 U H2 x y v u _ I2 r1 r2 q2) λd s3 ⟨z,H3,I3,r3,k,e,q3⟩=>?_)) hm
 subst e
 cases r3
 refine xA ?_
 cases k with
 |false=>
   obtain⟨k',e',q'⟩:=q3
   cases e'
   exact ite_ff ⟨H3,I3,q'⟩
 |true=>
   refine ite_tt (test_last (thn (hc Ng s3 U H3 _ I3 q3) λw' s4 ⟨z',H4,I4,r4,q4⟩=>thn (ho' Ng s4 U H4 y z' u w' _ I4 r2 r4 q4) λd' s5 ⟨z2,H5,I5,r5,k2,e2,q5⟩=>?_));subst e2
   cases r5
   exact xA ⟨H5,I5,q5⟩
def PF(K:zd)(x:V)(H:Hp)(k:Bool):Prop:=
 match x with
 | .non=>k=false
 | .bl b=>k=b
 | .int i=>k= (i != 0)
 | .str y=>y.length<=ze/\k= ((y.length:Int) != 0)
 | .byt y=>y.size<=ze/\k= ((y.size:Int) != 0)
 | .ref p=>(∃xs,SqL K H p xs/\k= !xs.isEmpty)\/(∃xs,SqT K H p xs/\k= !xs.isEmpty)\/∃Nh,H p=some (.dK Nh)/\k= !Nh.isEmpty
 |_=>False
theorem AX(r:KV Nh vs):(!vs.isEmpty)= !Nh.isEmpty:=by
 cases r<;>rfl
theorem tM(r:t8 xs Nj):(!Nj.toArray.isEmpty)= !xs.isEmpty:=by
 cases r<;>simp
theorem P9:(ze:Nat)<2 ^ 63:=by rw[sizeLine_eq];decide
theorem TL:Mq X (λx H Q=>∃k,PF X.K x H k/\Q k H):=by
 intro Ng s U H x v Q I rx h;obtain⟨k,e,q⟩:=h;have hl:=P9;have hs:ze=16777216:=sizeLine_eq
 cases x with
 |non=>
   cases rx
   have e':k=false:=e;subst e';exact truthy_none ⟨H,I,q⟩
 |bl b=>
   cases rx
   have e':k=b:=e;subst e';exact xA ⟨H,I,q⟩
 |int i=>
   obtain⟨t,rfl⟩:=rx;have e':k= (i != 0):=e;subst e';exact PySem.P.truthy_int ⟨H,I,q⟩
 |str y=>
   obtain⟨t,rfl⟩:=rx;obtain⟨hy,e'⟩:y.length<=ze/\k= ((y.length:Int) != 0):=e;subst e';exact PySem.P.truthy_str (by lia) ⟨H,I.tok _,q⟩
 |byt y=>
   obtain⟨t,rfl⟩:=rx;obtain⟨hy,e'⟩:y.size<=ze/\k= ((y.size:Int) != 0):=e;subst e';exact PySem.W.truthy_bytes (by lia) ⟨H,I.tok _,q⟩
 |ref p=>
   cases rx
   have e':(∃xs,SqL X.K H p xs/\k= !xs.isEmpty)\/(∃xs,SqT X.K H p xs/\k= !xs.isEmpty)\/∃Nh,H p=some (.dK Nh)/\k= !Nh.isEmpty:=e;rcases e' with⟨xs,hx,e'⟩|⟨xs,hx,e'⟩|⟨Nh,hx,e'⟩
   ·subst e';obtain⟨Nj,r,pl,hz⟩:=I.list hx;have Nm:=r.length;exact wpAny_truthy_list pl.isList (by simp only[zq];lia) ⟨H,I.tok _,by rw[tM r];exact q⟩
   ·subst e';obtain⟨Nj,r,pl,hz⟩:=I.tuple hx;have Nm:=r.length;exact truthy_tuple pl (by simp only[zq];lia) ⟨H,I.tok _,by rw[tM r];exact q⟩
   ·subst e';obtain⟨hz,hS,vs,r,m⟩:Nh.length<=ze/\(p==xo)=false/\∃vs,KV Nh vs/\s.heap.DictOf (M4 X.prog X.w) p vs:=I.hok p _ hx;have Nm:Nh.length=vs.length:=xc r;exact wpAny_truthy_dict hS m (by lia) ⟨H,I.tok _,by rw[AX r];exact q⟩
 |_=>exact(show False from e).elim
theorem BU(ha:PE X a ta)(he:∀whole,isTrue a X.env whole= (do let v <-whole;standAt a.pos;YQ [v] (truthy v))):
 PT X a (λU H Q=>ta U H λx H'=>∃k,PF X.K x H' k/\Q k H'):=by
 intro Ng s U H Q I h;exact isTrue_plain (thn (ha Ng s U H _ I h) λv s1 Nq=>Nq.elim λx H1 I1 r1 q1=>TL Ng s1 U H1 x v Q I1 r1 q1) (he _)
theorem ER:OpR X (yg .Add) (λx y H Q=>∃i j,x= .str i/\y= .str j/\i.length+j.length<=ze/\Q (.str (i++j)) H):=by intro Ng s U H x y v u Q I rx ry h;obtain⟨i,j,rfl,rfl,hz,q⟩:=h;obtain⟨t,rfl⟩:=rx;obtain⟨t',rfl⟩:=ry;exact add_str (λt' tk=>⟨.str (i++j),H,I.tok _,⟨_,rfl⟩,q⟩) hz
theorem Z1(r:t8 [x] us):∃u,us= [u]/\u9 x u:=by
 cases r with
 |cons r1 r2=>cases r2;exact⟨_,rfl,r1⟩
theorem aA(r:t8 [x,y] us):∃u w',us= [u,w']/\u9 x u/\u9 y w':=by
 cases r with
 |cons r1 r2=>
   cases r2 with
   |cons r3 r4=>cases r4;exact⟨_,_,rfl,r1,r3⟩
theorem NP:T4 X (.type "int") (λxs H Q=>(∃i,xs= [.int i]/\Q (.int i) H)\/∃k,xs= [.bl k]/\Q (.int (if k then 1 else 0)) H):=by
 intro Ng s U H xs us Q I r h;rcases h with⟨i,rfl,q⟩|⟨k,rfl,q⟩
 ·obtain⟨u,rfl,t,rfl⟩:=Z1 r;exact call_int_int ⟨.int i,H,I,⟨_,rfl⟩,q⟩
 · obtain⟨u,rfl,r1⟩:=Z1 r
   cases r1
   exact call_int_bool ⟨.int (if k then 1 else 0),H,I.tok _,⟨_,rfl⟩,q⟩
end
structure ObjM(h:Heap)(x dx C:Addr)(mA:Str->Option zg):Prop where
 obj:h.get? x=some (PySem.W.instObj C dx)
 ns:h.Ns1 dx mA
 ne:dx≠x
section
variable{prog:zF}{w:zO}{A:zV}{E:VSP}{s:zm}{K:zd}{x dx C f:Addr}{mA:Str->Option zg}{name:Str}{v:zg}
end
theorem A6.some_of(r:A6 (some v) o):∃u,o=some u/\u9 v u:=by
 cases o with
 |none=>exact(show False from r).elim
 |some u=>exact⟨u,rfl,r⟩
section
end
structure Cls(K:zd)(C:Addr):Prop where
 pg:PySem.W.plainGet K C xP=true
 hd:PySem.W.hasDictIn K C=true
 po:PySem.W.plainOver K C=true
 sa:jv K (.ref C) "__setattr__" =some (some (.builtin "object.__setattr__"))
theorem Cls.get{K:zd}(c:Cls K C)(f:Str):PySem.W.plainGet K C f=true:=c.pg
structure Con(K:zd)(C:Addr)(f:Str)(v:V)(u:zg):Prop where
 at_:jv K (.ref C) f=some (some u)
 rel:u9 v u
 get:JS K u "__get__" =some none
 cp:PySem.W.copiedNames.contains f=false
structure Meth(K:zd)(C:Addr)(m:Str)(f:Addr):Prop where
 at_:jv K (.ref C) m=some (some (.ref f))
 fn:PySem.W.isFn K (.ref f)=true
 kp:jZ K (.ref f)=true
section
end
section
end
section
inductive t5(K:zd)(H:Hp):V->zg->Prop where
 |non:t5 K H .non (.type "NoneType")
 |bl (x:Bool):t5 K H (.bl x) (.type "bool")
 |int (i:Int):t5 K H (.int i) (.type "int")
 |str (x:Str):t5 K H (.str x) (.type "str")
 |flt (x:UInt64):t5 K H (.flt x) (.type "float")
 |lst {a:Addr} {xs:List V} (e:H a=some (.lst xs)):t5 K H (.ref a) (.type "list")
 |frz {a:Addr} {o:Obj} {xs:List V} (e:H a=some (.frz o (.lst xs))):t5 K H (.ref a) (.type "list")
 |tup {a:Addr} {xs:List V} (e:H a=some (.tup xs)):t5 K H (.ref a) (.type "tuple")
 |dK {a:Addr} {Nh:List (Key×V)} (e:H a=some (.dK Nh)):t5 K H (.ref a) (.type "dict")
 |dT {a:Addr} {Nh:List (List Key×V)} (e:H a=some (.dT Nh)):t5 K H (.ref a) (.type "dict")
 |ins {a C dx:Addr} {fs:List (Str×V)} (e:H a=some (.ins C dx fs)) (cl:Cls K C) (ha:jv K (.ref C) "__class__" =some (some (.builtin "object.__class__")))
    (hn:JS K (.builtin "object.__class__") "__get__" =some (some (.builtin "getset_descriptor.__get__"))) (htk:PySem.W.takesIn K (.builtin "object.__class__")=some true)
    (hm:jL K C (.type "object")=some true):t5 K H (.ref a) (.ref C)
end
structure M7(k:Nat)(A:zV):Prop where
 hd:A.handled=none
 dp:A.depth+3*k+5<recursionLimit
 un:A.units+16*k+200<Ze
 gd:A.guards=some []
theorem M7.mono(r:M7 k A)(h:j<=k):M7 j A:=⟨r.hd,by have:=r.dp;lia,by have:=r.un;lia,r.gd⟩
theorem M7.deeper(r:M7 (k+1) A)(env:Env):M7 k (A.deeper env):=
 ⟨r.hd,by have:=r.dp;show A.depth+1+3*k+5<_;lia,by have:=r.un;show A.units+3+16*k+200<_;lia,r.gd⟩
theorem M7.in1(r:M7 (k+1) A):M7 k A.in1:=
 ⟨r.hd,by have:=r.dp;show A.depth+3*k+5<_;lia,by have:=r.un;show A.units+1+16*k+200<_;lia,r.gd⟩
theorem M7.depth(r:M7 k A):A.depth<recursionLimit:=by have:=r.dp;lia
theorem M7.units(r:M7 k A):A.units+64<Ze:=by have:=r.un;lia
def qH:TA:=λ_ H Q=>Q [] H
def l9(ta:TE)(tr:TA):TA:=λU H Q=>ta U H λx H1=>tr U H1 λxs H2=>Q (x::xs) H2
section
theorem A9:PA X [] qH:=λ_ _ _ _ H Q I h=>Calls.spliced_nil ⟨[],H,I,.nil,h⟩
theorem R9(ha:PE X e te)(hr:PA X es t)(hs:zC (e::es) X.env= (false,eval e X.env)::zC es X.env):PA X (e::es) (l9 te t):=by intro pos Ng s U H Q I h;rw[hs];show zv _ _ (spliced ((false,eval e X.env)::yy pos (zC es X.env))) _ _ s;refine Calls.spliced_cons (thn (ha Ng s U H _ I h) λu s1 Nq=>Nq.elim λx H1 I1 r1 q1=>?_);exact thn (hr pos Ng s1 U H1 _ I1 q1) λus s2 Nq=>Nq.elim λxs H2 I2 r2 q2=>⟨x::xs,H2,I2,.cons r1 r2,q2⟩
def UN(t:TA):TE:=λU H Q=>t U H λxs H1=>xs.length<=ze/\∀p,H1 p=none->Q (.ref p) (upd H1 p (.tup xs))
def UZ(t:TA):TE:=λU H Q=>t U H λxs H1=>xs.length<=ze/\∀p,H1 p=none->Q (.ref p) (upd H1 p (.lst xs))
theorem rL{x1}(h:PA X es t):PE X (.Tuple es x1 pos) (UN t):=by intro Ng s U H Q I hq;refine wpAny_Tuple_spliced (thn (h pos Ng s U H _ I hq) λus s1 ⟨xs,H1,I1,r,z,q⟩=>⟨by rw[<-r.length];exact z,?_⟩);have hf:H1 s1.heap.objs.size=none:=I1.hok.fresh (zk _);refine⟨.ref s1.heap.objs.size,upd H1 s1.heap.objs.size (.tup xs),I1.laid (t':=s1.toks) (λb u e=>zf _ e) (zk _) ?_,rfl,q _ hf⟩;exact⟨z,us,r,⟨_,zy _ rfl,rfl,_,rfl⟩⟩
theorem BG(h:PA X es t):PE X (.List es pos) (UZ t):=by intro Ng s U H Q I hq;refine wpAny_List_spliced (thn (h pos Ng s U H _ I hq) λus s1 ⟨xs,H1,I1,r,z,q⟩=>⟨by rw[<-r.length];exact z,?_⟩);have hf:H1 s1.heap.objs.size=none:=I1.hok.fresh (zk _);refine⟨.ref s1.heap.objs.size,upd H1 s1.heap.objs.size (.lst xs),I1.laid (t':=s1.toks) (λb u e=>zf _ e) (zk _) ?_,rfl,q _ hf⟩;exact⟨z,us,0,r,zy _ rfl⟩
end
abbrev Sp:=List V->Hp->VK->XK->Prop
abbrev CXT:=List Env->Hp->zm->XK->VSP
structure lA(P:zF)(w:zO)(K:zd)(mg:Str->Option zg)(base:Heap)(A:zV)(outer:List Env)(s:zm)(H:Hp):Prop where
 frames:A.frames=some outer
 mod:Mod K mg base
 bs:∀b o,base.get? b=some o->s.heap.get? b=some o/\H b=none
 bsz:base.objs.size<=s.heap.objs.size
 funs:s.heap.FunFrames base outer
 frf:∀b∈frs outer,H b=none
 hok:HOk P w H s.heap
 bare:ZG s.gens
def CE(outer:List Env)(P:zF)(w:zO)(H:Hp)(s:zm)(Q:VK)(u:zg)(s':zm):Prop:=
 ∃v H',s'.os=s.os/\ZG s'.gens/\Un (frs outer) [] H H' s.heap s'.heap/\HOk P w H' s'.heap/\u9 v u/\Q v H'
def CR(CX:CXT)(outer:List Env)(P:zF)(w:zO)(H:Hp)(s:zm)(Q:VK)(E:XK)(r:Result)(s':zm):Prop:=
 match r with
 | .ok (.ret u)=>CE outer P w H s Q u s'
 | .ok _=>False
 | .error e=>CX outer H s E e s'
structure X4(P:zF)(w:zO)(K:zd)(mg:Str->Option zg)(base:Heap)(CX:CXT)(k:Nat)(f:Addr)(fd:xg)(ps:List Str)(sp:Sp):Prop where
 len:∀vs H Q E,sp vs H Q E->vs.length=ps.length
 run:∀(A:zV) (outer:List Env) (s:zm) (H:Hp) (args:Args) (us:List zg) (vs:List V) (Q:VK) (E:XK),M7 k A->lA P w K mg base A outer s H->Yu s fd args (ps.zip us)->t8 vs us->sp vs H Q E->
  Yq (zD P w) A (.call (.ref f) args) (CR CX outer P w H s Q E) s
theorem X4.mono{P:zF}{w:zO}{K:zd}{base:Heap}{CX:CXT}{j k:Nat}{f:Addr}{fd:xg}{ps:List Str}{sp:Sp}(F:X4 P w K mg base CX j f fd ps sp)(h:j<=k):
 X4 P w K mg base CX k f fd ps sp:=⟨F.len,λA outer s H args us vs Q E hr=>F.run A outer s H args us vs Q E (hr.mono h)⟩
theorem X4.imp{P:zF}{w:zO}{K:zd}{base:Heap}{CX:CXT}{k:Nat}{f:Addr}{fd:xg}{ps:List Str}{sp sp':Sp}(F:X4 P w K mg base CX k f fd ps sp)
 (h:∀vs H Q E,sp' vs H Q E->sp vs H Q E):X4 P w K mg base CX k f fd ps sp':=
 ⟨λvs H Q E q=>F.len vs H Q E (h _ _ _ _ q),λA outer s H args us vs Q E hr he hb hv hs=>F.run A outer s H args us vs Q E hr he hb hv (h _ _ _ _ hs)⟩
theorem lA.in1{P:zF}{w:zO}{K:zd}{base:Heap}{A:zV}{outer:List Env}{s:zm}{H:Hp}(e:lA P w K mg base A outer s H):
 lA P w K mg base A.in1 outer s H:=⟨e.frames,e.mod,e.bs,e.bsz,e.funs,e.frf,e.hok,e.bare⟩
section
theorem Inv.env0(I:Inv X Ng U H s):lA X.prog X.w X.K X.mg X.base X.A X.stack s H:=
 ⟨I.ok.frames,I.ok.mod,I.bs,zw I.ok.bsz I.sz,I.stack,I.stkFree,I.hok,I.bare⟩
theorem Inv.after(I:Inv X Ng U H s)(h:CE X.stack X.prog X.w H s Q u s'):EP X Ng U Q u s':=by obtain⟨v,H',os,bare,un,hok,r,q⟩:=h;obtain⟨hh,g,d,t,os'⟩:=s';obtain rfl:os'=s.os:=os;exact⟨v,H',I.call (h':=hh) (g':=g) (d':=d) (t':=t) (ch:= []) un hok bare (λb z=>absurd z (by simp)),r,q⟩
end
def Fm(sp:Sp)(dvs:List V)(E:XK)(t:TA):TE:=λU H Q=>t U H λvs H1=>sp (vs++dvs) H1 Q E
def r6(K:zd)(fd:xg)(ps:List Str)(ds:List zg):Prop:=
 ∀(s:zm) (us:List zg),K.In s.heap->(us++ds).length=ps.length->Yu s fd ⟨us, []⟩ (ps.zip (us++ds))
theorem r6.all{K:zd}{ps:List Str}(h:∀us:List zg,us.length=ps.length->bindArgs fd ⟨us, []⟩=pure (ps.zip us)):r6 K fd ps []:=λs us _ hl=>by rw[zX]at hl ⊢;exact .of_eq (h us hl)
def wB(CX:CXT)(X:Cx)(E:XK):Prop:=∀(Ng:PNS) (U:St) (H:Hp) (s:zm) (e:zg) (s':zm),Inv X Ng U H s->CX X.stack H s E e s'->X.xe e s'
section
theorem SG(F:X4 X.prog X.w X.K X.mg X.base CX k f fd ps sp)(hr:M7 k X.A)(hb:r6 X.K fd ps ds)(hd:t8 dvs ds)(hx:wB CX X E)
 (I:Inv X Ng U H s) (r:t8 vs us) (h:sp (vs++dvs) H Q E):zv (zD X.prog X.w) X.A (call (.ref f) us) (EP X Ng U Q) X.xe s:=by
 have r2:t8 (vs++dvs) (us++ds):=r.append hd;have hl:(us++ds).length=ps.length:=by rw[<-r2.length];exact F.len _ _ _ _ h
 refine wpAny_call (Xv (F.run X.A X.stack s H ⟨us, []⟩ (us++ds) (vs++dvs) Q E hr I.env0 (hb s us I.kIn hl) r2 h) λr s' hq=>?_)
 cases r with
 |error e=>exact hx Ng U H s e s' I hq
 |ok fl=>
   cases fl with
   |ret u=>exact I.after hq
   |next=>exact ya hq
   |brk=>exact ya hq
   |cont=>exact ya hq
theorem fL(F:X4 X.prog X.w X.K X.mg X.base CX k f fd ps sp)(hr:M7 k X.A)(hg:Gl X x)(hm:X.mg x=some (.ref f))(hk:jZ X.K (.ref f)=true)(hb:r6 X.K fd ps ds)(hd:t8 dvs ds)(hx:wB CX X E)
 (ha:PA X (e::es) t) (hdb:(x==("__debug__" :Str))=false) (he:zC (e::es) X.env= (false,eval e X.env)::zC es X.env) (Nx:(yy pos (zC es X.env)).any (·.1)=false):
 PE X (.Call (.Name x p) (e::es) [] pos) (Fm sp dvs E t):=by
 intro Ng s U H Q I h;refine xn (C8 I hg hm ?_ hdb);refine Zl (h₀:=X.base) I.ok.mod.kin hk (thn (ha pos Ng s U H _ I h) λus s1 Nq=>Nq.elim λvs H1 I1 r q=>⟨I1.kIn,?_⟩) he Nx;exact SG F hr hb hd hx I1 r q
structure Mk(K:zd)(C f:Addr):Prop where
 makes:PySem.W.makesIn K C=true
 init:jv K (.ref C) "__init__" =some (some (.ref f))
 fn:PySem.W.isFn K (.ref f)=true
 kp:jZ K (.ref C)=true
end
section
structure KBinds(K:zd)(fd:xg)(ps ks:List Str)(g:List zg->List zg->List zg)(gV:List V->List V->List V):Prop where
 to:∀(s:zm) (us ws:List zg),K.In s.heap->(g us ws).length=ps.length->Yu s fd ⟨us,ks.zip ws⟩ (ps.zip (g us ws))
 rel:∀ {vs:List V} {us:List zg} {zs:List V} {ws:List zg},t8 vs us->t8 zs ws->t8 (gV vs zs) (g us ws)
end
structure M5(N P:List Str)(sc:Scope):Prop where
 kind:sc.kind= .function
 co:sc.isCoroutine=false
 gen:sc.isGenerator=false
 nd:N.Nodup
 pre:N.take P.length=P
 par:∀x∈P,sc.names.lookup x=some .local\/sc.names.lookup x=some .cell
 nofree:∀y∈sc.names,y.2≠ .free
theorem eK{xh:Str->Option NameKind}{x:Str}:∀ {binds} {m:Str->Option zg},(∀v,(x,v)∉binds)->bindL xh binds m x=m x
 |[],_,_=>rfl
 |(n,v)::r,m,h=>by
  unfold bindL;rw[eK λw hw=>h w (zo _ hw)];split
  · have:x≠n:=by rintro rfl;exact h v zh
    simp[this]
  ·rfl
theorem NN{xh:Str->Option NameKind}{x:Str}:∀ {binds} {m:Str->Option zg},(∀v,(x,v)∉binds)->bindC xh binds m x=m x
 |[],_,_=>rfl
 |(n,v)::r,m,h=>by
  unfold bindC;rw[NN λw hw=>h w (zo _ hw)];split
  ·rfl
  · have:x≠n:=by rintro rfl;exact h v zh
    simp[this]
theorem uI{xh:Str->Option NameKind}{x:Str}{v:zg}:∀ {P:List Str} {vs:List zg} {i:Nat} {m},P.Nodup->P[i]? =some x->vs[i]? =some v->xh x=some .local->
 bindL xh (P.zip vs) m x=some v
 |[],_,_,_,_,h,_,_=>by simp at h
 |_::_, [],_,_,_,_,h,_=>by simp at h
 |p::P,w::vs,0,m,nd,h1,h2,hk=>by simp at h1 h2;subst h1;subst h2;show bindL xh ((p,w)::P.zip vs) m p=_;unfold bindL;rw[eK λv hv=>(Yf.mp nd).1 (Ye hv).1,if_pos hk];simp
 |p::P,w::vs,i+1,m,nd,h1,h2,hk=>by show bindL xh ((p,w)::P.zip vs) m x=_;unfold bindL;exact uI (i:=i) (Yf.mp nd).2 (by simpa using h1) (by simpa using h2) hk
theorem EO{xh:Str->Option NameKind}{x:Str}{v:zg}:∀ {P:List Str} {vs:List zg} {i:Nat} {m},P.Nodup->P[i]? =some x->vs[i]? =some v->xh x≠some .local->
 bindC xh (P.zip vs) m x=some v
 |[],_,_,_,_,h,_,_=>by simp at h
 |_::_, [],_,_,_,_,h,_=>by simp at h
 |p::P,w::vs,0,m,nd,h1,h2,hk=>by simp at h1 h2;subst h1;subst h2;show bindC xh ((p,w)::P.zip vs) m p=_;unfold bindC;rw[NN λv hv=>(Yf.mp nd).1 (Ye hv).1,if_neg hk];simp
 |p::P,w::vs,i+1,m,nd,h1,h2,hk=>by show bindC xh ((p,w)::P.zip vs) m x=_;unfold bindC;exact EO (i:=i) (Yf.mp nd).2 (by simpa using h1) (by simpa using h2) hk
def start(N:List Str)(vs:List V):St:=vs.map some++yo (N.length-vs.length) none
def W3(CX:CXT)(P:zF)(w:zO)(K:zd)(mg:Str->Option zg)(base:Heap)(N:List Str)(qual:Str)(scope:Scope)(f:Addr)(cd:zg)(A:zV)(outer:List Env)(s:zm)(H:Hp)(E:XK):Cx where
 prog:=P
 w:=w
 K:=K
 mg:=mg
 base:=base
 A:=A.deeper (yc qual scope s.heap.objs.size f cd)
 N:=N
 WZ:=s
 H₀:=H
 env:=yc qual scope s.heap.objs.size f cd
 outer:=outer
 stack:=yc qual scope s.heap.objs.size f cd::outer
 ex:= []
 calm:=true
 fn:=λ_=>true
 pn:= []
 xe:=λe s'=>zv (zD P w) (A.deeper (yc qual scope s.heap.objs.size f cd)) (leaving (yc qual scope s.heap.objs.size f cd) e) (λ_ s''=>CX outer H s E e s'') (λe' s''=>CX outer H s E e' s'') s'
theorem eL{sc:Scope}{x:Str}(h:sc.names.lookup x=some .cell):∃c,(cellsFrom n sc.names []).lookup x=some c:=by have q:=Jd sc.names n [] (.inl h);exact yI.mp q
theorem UX{CX:CXT}{P:zF}{w:zO}{K:zd}{mg:Str->Option zg}{base:Heap}{N ps:List Str}{qual:Str}{scope:Scope}{f:Addr}{cd:zg}{A:zV}{outer:List Env}{s s1:zm}{H:Hp}{E:XK}{us:List zg}{vs:List V}
 (S:M5 N ps scope) (hd:A.handled=none) (gd:A.guards=some []) (e0:lA P w K mg base A outer s H) (hl:vs.length=ps.length) (r:t8 vs us)
 (x:InCallC s s.heap.objs.size (bindL (yc qual scope s.heap.objs.size f cd).kindOf (ps.zip us) λ_=>none) (cellsFrom (s.heap.objs.size+1) scope.names []) (bindC (yc qual scope s.heap.objs.size f cd).kindOf (ps.zip us) λ_=>none) s1):
 Inv (W3 CX P w K mg base N qual scope f cd A outer s H E) [] (start N vs) H s1:=by
 have Nx:ps.length<=N.length:=by have:=congrArg zW S.pre;rw[zN]at this;lia
 obtain⟨h1,tk,rfl,hk⟩:=x.done;have noA:∀b:Addr,b∉(W3 CX P w K mg base N qual scope f cd A outer s H E).ex:=λb z=>absurd (show b∈([]:List Addr)from z) (by simp);refine⟨⟨e0.mod,S.kind,rfl,rfl,zk _,λy z c h1 h2=>?_,λy hy=>?_,λy c _ h=>?_,λ_=>hd,Around.frames_deeper e0.frames,.inr ⟨rfl,rfl⟩,λb z=>absurd z (noA b),e0.bs,e0.bsz,λb _ _=>noA b,λb z=>absurd z (noA b),e0.funs,e0.frf,gd⟩,
  rfl,e0.bare,Un.kept hk,⟨_,x.toInCall.ns,λi y v h1 h2 h3=>?_⟩,λy c h=>⟨_,x.cell y c h⟩,e0.hok.fresh (zk _),λy c h=>?_,λp hp=>absurd (show p∈([]:PNS)from hp) (by simp),e0.hok.kept hk,?_⟩
 ·exact name_of_addr x.apart (yP h1) (yP h2)
 · have hy:scope.names.lookup y=some .cell\/scope.names.lookup y=some .free:=hy;rcases hy with hy|hy
   ·exact eL hy
   ·exact absurd rfl (S.nofree _ (yP hy))
 ·exact xD (x.above y c (yP h))
 · have hi:i<vs.length:=by
    unfold start at h2;by_cases hi:i<vs.length
    ·exact hi
    ·rw[yb (by simpa using hi)]at h2;rw[Jy]at h2;split at h2<;>cases h2
   have ha:vs[i]? =some v:=by
    unfold start at h2;rw[zI (by simpa using hi),jQ]at h2
    cases e:vs[i]? with
    |none=>rw[e]at h2;cases h2
    |some a=>rw[e]at h2;cases h2;rfl
   obtain⟨u,hu,rv⟩:=r.get ha;have hp:ps[i]? =some y:=by rw[<-S.pre,List.getElem?_take_of_lt (by lia)];exact h1
   have ndP:ps.Nodup:=by rw[<-S.pre];exact S.nd.sublist (List.take_sublist _ _)
   refine⟨u,rv,?_⟩;rcases S.par y (yJ hp)with k|k
   ·exact .inl ⟨k,uI ndP hp hu k⟩
   ·obtain⟨c,e⟩:=eL (n:=s.heap.objs.size+1) k;refine .inr ⟨.inl k,c,e,?_⟩;have q:=x.cell y c e;rw[EO ndP hp hu (by show scope.names.lookup y≠_;rw[k];decide)]at q;exact q
 ·exact e0.hok.fresh (xD (x.above y c (yP h)))
 ·unfold start;show _=N.length;rw[za,zn,List.length_replicate];lia
theorem kJ{CX:CXT}{P:zF}{w:zO}{K:zd}{mg:Str->Option zg}{base:Heap}{k:Nat}{f:Addr}{name qual:Str}{params:Arguments}{body:List Stmt}{scope:Scope}{dV kV doc pm Pb ct oc:zg}{an od:Option Addr}
 {N ps:List Str} {sp:Sp} (lk:K.lookup f=some ⟨oc,od,.func (yq name qual params body scope dV kV doc pm an Pb ct),osl⟩) (hcd:Zk K Pb qual=true) (S:M5 N ps scope)
 (len:∀vs H Q E,sp vs H Q E->vs.length=ps.length)
 (hbody:∀(A:zV) (outer:List Env) (s:zm) (H:Hp) (vs:List V) (Q:VK) (E:XK),M7 k (A.deeper (yc qual scope s.heap.objs.size f Pb))->sp vs H Q E->
   ∃t,PSs (W3 CX P w K mg base N qual scope f Pb A outer s H E) body t/\t {nx:=λ_ H'=>Q .non H',rt:=Q} (start N vs) H):
 X4 P w K mg base CX (k+1) f (yq name qual params body scope dV kV doc pm an Pb ct) ps sp:=by
 refine⟨len,λA outer s H args us vs Q E hr e0 hb r hsp=>?_⟩;have hl:=len _ _ _ _ hsp;have KX:K.In s.heap:=e0.mod.kin.keeps λb o e=>(e0.bs b o e).1;have lim:s.heap.NoLimit:=e0.mod.nolimit.keeps λb o e=>(e0.bs b o e).1;have hkind:∀y∈ps.zip us,scope.names.lookup y.1=some .local\/(scope.names.lookup y.1=some .cell/\((cellsFrom (s.heap.objs.size+1) scope.names []).lookup y.1).isSome=true):=fun⟨n,v⟩ hy=>by
  rcases S.par n (Ye hy).1 with q|q
  ·exact .inl q
  ·exact .inr ⟨q,Jd _ _ _ (.inl q)⟩
 refine codeAny_call_function hr.depth (KX _ _ lk) rfl S.co S.gen rfl (PySem.W.codeRec_of KX hcd) (hb _ _ _ _ ?_);refine wpAny_newFunctionEnv_cells S.kind hkind λenv he s1 x=>?_;subst he;refine⟨lim.keeps x.toInCall.keep,codeAny_func ?_⟩;obtain⟨t,ht,hq⟩:=hbody A outer s H vs Q E (hr.deeper _) hsp;have I:Inv (W3 CX P w K mg base N qual scope f Pb A outer s H E) [] (start N vs) H s1:=UX S hr.hd hr.gd e0 hl r x;refine jK (ht [] s1 (start N vs) H _ I hq) (λfl s' hs=>?_) λe s' hs=>hs;have fin:∀ {X2:St} {H':Hp} {v:V} {u:zg},Inv (W3 CX P w K mg base N qual scope f Pb A outer s H E) [] X2 H' s'->u9 v u->Q v H'->CE outer P w H s Q u s':=
  λ{X2 H' v u} J rv q=>⟨v,H',J.os,J.bare,J.base,J.hok,rv,q⟩
 cases fl with
 |ret u=>
   obtain⟨v,X2,H',J,rv,q⟩:=hs;exact fin J rv q
 |next=>
   obtain⟨X2,H',J,q⟩:=hs;exact fin (v:=V.non) (u:=Value.none) J rfl q
 |brk=>
   obtain⟨_,_,_,q⟩:=hs;exact ya q
 |cont=>
   obtain⟨_,_,_,q⟩:=hs;exact ya q
section
variable{X:Cx}{x:Str}{p pos:Pos}{e:Expr}{es:List Expr}{t:TA}{id T:String}{r:List V->Hp->VK->Prop}
def tCB(r:List V->Hp->VK->Prop)(t:TA):TE:=λU H Q=>t U H λvs H1=>r vs H1 Q
theorem mI(hc:T4 X (.builtin id) r)(hg:Gl X x)(hm:X.mg x=none)(hv:zQ x=some (.builtin id))(ha:PA X (e::es) t)(hn:x≠ "__name__")(hdb:(x==("__debug__" :Str))=false)
 (he:zC (e::es) X.env= (false,eval e X.env)::zC es X.env) (Nx:(yy pos (zC es X.env)).any (·.1)=false):PE X (.Call (.Name x p) (e::es) [] pos) (tCB r t):=by
 intro Ng s U H Q I h;refine xn (MA I hg hm hv ?_ hn hdb);exact PyProof.Rows.callWith_builtin1 (thn (ha pos Ng s U H _ I h) λus s1 Nq=>Nq.elim λvs H1 I1 r1 q1=>hc Ng s1 U H1 vs us Q I1 r1 q1) he Nx
theorem Dm(hc:T4 X (.type T) r)(hg:Gl X x)(hm:X.mg x=none)(hv:zQ x=some (.type T))(ha:PA X (e::es) t)(hn:x≠ "__name__")(hdb:(x==("__debug__" :Str))=false)
 (he:zC (e::es) X.env= (false,eval e X.env)::zC es X.env) (Nx:(yy pos (zC es X.env)).any (·.1)=false):PE X (.Call (.Name x p) (e::es) [] pos) (tCB r t):=by
 intro Ng s U H Q I h;refine xn (MA I hg hm hv ?_ hn hdb);exact yX (thn (ha pos Ng s U H _ I h) λus s1 Nq=>Nq.elim λvs H1 I1 r1 q1=>hc Ng s1 U H1 vs us Q I1 r1 q1) he Nx
end
end L2
namespace HT
open PySem PyProof.Rows
section
open PySem.SeqAt
open PySem.AutoSeq1 (wpAny_loadPart')
open PySem.MeetsSeq PySem.MeetsSeq2 PySem.MeetsSeq3
end
section
theorem cat_tup(ht:IsTup s.heap t vs.toArray)(hb:IsTup s.heap b ws.toArray)(hv:vs≠ [])
 (h1:ws= []->Q (.ref t) s) (h2:ws≠ []->Q (.ref s.heap.objs.size) {s with heap:=s.heap.push {cls:=.type "tuple",data:=.seq (vs++ws).toArray}})
 (hsz:vs.length+ws.length<=ze):zv (zD prog w) A (yg .Add (.ref t) (.ref b)) Q E s:=by
 obtain⟨⟨cls,dd,data,sl⟩,ho,hc,n,hd⟩:=id ht;obtain⟨⟨cls2,dd2,data2,sl2⟩,Qb,hc2,n2,hd2⟩:=id hb;simp only at hc hd hc2 hd2;subst hc hd hc2 hd2;have e:vs.toArray++ws.toArray= (vs++ws).toArray:=by simp
 by_cases hw:ws= []
 · exact concat_meets ⟨_,ho,rfl⟩ ⟨_,Qb,rfl⟩ Jc seq_tuple_add ZK Zz (Zw _ _)
    (tuple_addW1 t b vs.toArray ws.toArray n n2 dd dd2 sl sl2 (by simpa using hv) (by simp[hw])) ⟨ho,Qb,h1 hw⟩
 · refine concat_meets ⟨_,ho,rfl⟩ ⟨_,Qb,rfl⟩ Jc seq_tuple_add ZK Zz (Zw _ _)
    (tuple_addW2 t b vs.toArray ws.toArray n n2 dd dd2 sl sl2 (by simpa using hv) (by simpa using hw) (by rw[zq,zq];exact hsz)) ⟨ho,Qb,?_⟩
   rw[e];exact h2 hw
def sIx(n d:Nat):Option Int->Nat
 |none=>d
 |some v=>if v<0 then (v+(n:Int)).toNat else min v.toNat n
theorem sIx_none(n d:Nat):sIx n d none=d:=rfl
theorem sIx_nat(n d k:Nat):sIx n d (some (k:Int))=min k n:=by show (if (k:Int)<0 then ((k:Int)+(n:Int)).toNat else min (k:Int).toNat n)=min k n;rw[if_neg (by lia),jR]
theorem fP(n d:Nat)(hd:d<=n)(o:Option Int):sIx n d o<=n:=by
 cases o with
 |none=>exact hd
 |some v=>
   show (if v<0 then (v+(n:Int)).toNat else min v.toNat n)<=n;by_cases hv:v<0
   ·rw[if_pos hv];lia
   ·rw[if_neg hv];exact Nat.min_le_right _ _
theorem CN(v:Int)(n d:Nat):(if v<0 then max (v+(n:Int)) 0 else min v (n:Int))= ((sIx n d (some v):Nat):Int):=by
 show (if v<0 then max (v+(n:Int)) 0 else min v (n:Int))= (((if v<0 then (v+(n:Int)).toNat else min v.toNat n):Nat):Int);by_cases hv:v<0
 ·simp only[if_pos hv];lia
 ·simp only[if_neg hv];lia
theorem qg(lo hi:Option Int)(n:Nat):Zg lo hi 1 (n:Int)= (((sIx n 0 lo:Nat):Int),((sIx n n hi:Nat):Int)):=by
 have h1:¬((1:Int)<0):=by lia
 unfold Zg;simp only[h1,if_false];refine Prod.ext ?_ ?_
 · cases lo with
   |none=>rfl
   |some v=>exact CN v n 0
 · cases hi with
   |none=>rfl
   |some v=>exact CN v n n
theorem nX(i j:Nat):xj (i:Int) (j:Int) 1=j-i:=by
 unfold xj;have h1:(1:Int)>0:=by lia
 simp only[h1,if_true,Int.ediv_one];split<;>lia
theorem AJ(p:IsPart v o)(h:Q o s):zv (zD prog w) A (Builtin.Slice.slicePartIndex v) Q E s:=by
 cases p with
 |none=>exact slicePart_none h
 |int i t=>exact slicePart_int h
theorem sliceApplied_gen{sl:Addr}{vl vu:zg}{lo hi:Option Int}{n:Nat}(hs:s.heap.IsSliceOf sl vl vu .none)(pl:IsPart vl lo)(pu:IsPart vu hi)
 (h:Q (((sIx n 0 lo:Nat):Int),1,sIx n n hi-sIx n 0 lo) s):zv (zD prog w) A (YE (.ref sl) (pure (n:Int))) Q E s:=by
 obtain⟨os,hos,hcs,hds⟩:=id hs;unfold YE Builtin.Slice.sliceFields;refine zc (zc (jz hos hds (x:=vl) rfl (zc (jz hos hds (x:=vu) rfl (zc (jz hos hds (x:=.none) rfl (zt ?_)))))));refine zc (slicePart_none ?_);show zv _ _ (if ((1:Int)==0)=true then _ else _) _ _ s;rw[if_neg (by decide)];refine zc (AJ pl (zc (AJ pu (zc (zt ?_)))));show zv _ _ (match Zg lo hi 1 (n:Int) with|(lo,hi)=>pure (lo,(1:Int),xj lo hi 1)) _ _ s;rw[qg lo hi n];show zv _ _ (pure (((sIx n 0 lo:Nat):Int),(1:Int),xj ((sIx n 0 lo:Nat):Int) ((sIx n n hi:Nat):Int) 1)) _ _ s;rw[nX];exact zt h
theorem iY(xs:Array zg)(i k:Nat):((jJ k).filterMap fun(m:Nat)=>xs[((i:Int)+(m:Int)*1).toNat]?).toArray= ((xs.toList.drop i).take k).toArray:=by
 have e:(fun(m:Nat)=>xs[((i:Int)+(m:Int)*1).toNat]?)=λm=>xs[i+m]? :=by
  funext m;have:((i:Int)+(m:Int)*1).toNat=i+m:=by lia
  rw[this]
 rw[e];have:=pick_run xs i k;rw[List.filterMap_map]at this;have e2:((λx=>xs[x]?)∘λx=>i+x)=λm=>xs[i+m]? :=rfl;rw[e2]at this;rw[this]
theorem getItem_tuple_cut{t sl:Addr}{vl vu:zg}{lo hi:Option Int}(ht:IsTup s.heap t items)(hs:s.heap.IsSliceOf sl vl vu .none)(pl:IsPart vl lo)(pu:IsPart vu hi)
 (hw:¬(sIx items.size 0 lo=0/\sIx items.size items.size hi=items.size))
 (h:Q (.ref s.heap.objs.size) {s with heap:=s.heap.push {cls:=.type "tuple",data:=.seq ((items.toList.drop (sIx items.size 0 lo)).take (sIx items.size items.size hi-sIx items.size 0 lo)).toArray}})
 (hsz:items.size<=ze):zv (zD prog w) A (Xu (.ref t) (.ref sl)) Q E s:=by
 have htake:sizeOk (.seq ((items.toList.drop (sIx items.size 0 lo)).take (sIx items.size items.size hi-sIx items.size 0 lo)).toArray):=by show ((items.toList.drop (sIx items.size 0 lo)).take (sIx items.size items.size hi-sIx items.size 0 lo)).toArray.size<=ze;rw[zq,zN,jA,yQ];lia
 have hj:sIx items.size items.size hi<=items.size:=fP _ _ (zk _) hi;obtain⟨os,hos,hcs,hds⟩:=id hs;have hTs:s.TypeIs (.ref sl) "slice":=⟨os,hos,hcs⟩;unfold Xu
 try with_reducible refine yV ?_
 first|refine zc (zt ?_)|skip
 refine zc (wpAny_sequenceKey ht.typeIs (by decide) ?_);refine zc (yx (name:=ym "__getitem__") ht.typeIs jD
  (yF jD ht.typeIs entry_tuple_getitem ?_ (args_tuple_getitem _ _)))
 show zv _ _ (YD (.ref t) >>= _) _ _ s;refine zc (tupleItemsOf_ ht ?_);refine zc (wpAny_typeOf hTs ?_);rw[if_pos (by decide)];refine zc (sliceApplied_gen hs pl pu ?_);have hno:¬((((sIx items.size 0 lo:Nat):Int)==0&&(1:Int)==1&&(sIx items.size items.size hi-sIx items.size 0 lo)==items.size)=true):=by intro q;rw[zP,zP]at q;have q1:((sIx items.size 0 lo:Nat):Int)=0:=eq_of_beq q.1.1;have q2:sIx items.size items.size hi-sIx items.size 0 lo=items.size:=eq_of_beq q.2;exact hw ⟨by lia,by lia⟩
 show zv _ _ (if (((sIx items.size 0 lo:Nat):Int)==0&&(1:Int)==1&&(sIx items.size items.size hi-sIx items.size 0 lo)==items.size)=true then _ else _) _ _ s;rw[if_neg hno,iY]
 first
  |exact zc (m:=xr _) (yw (zt ⟨_,rfl,zt h⟩) htake)
  |exact zc (m:=xr _) (yw (zc (zt (zt ⟨_,rfl,zt h⟩))) htake)
  |exact zc (zc (m:=xr _) (yw (zt (zt ⟨_,rfl,zt h⟩)) htake))
  |exact zc (zc (m:=xr _) (yw (zt ⟨_,rfl,zt h⟩) htake))
end
end HT
namespace L2
open PySem PySem.Spec PyProof.Rows
abbrev TO:=St->Hp->(Option Int->Hp->Prop)->Prop
def PO(X:Cx)(e:Option Expr)(t:TO):Prop:=
 ∀(Ng:PNS) (s:zm) (U:St) (H:Hp) (Q:Option Int->Hp->Prop),Inv X Ng U H s->t U H Q->
  zv (zD X.prog X.w) X.A (evalPart e X.env) (λu s'=>∃o H',Inv X Ng U H' s'/\IsPart u o/\Q o H') X.xe s
def vd:TO:=λ_ H Q=>Q none H
def nR(t:TE):TO:=λU H Q=>t U H λx H1=>∃i,x= .int i/\Q (some i) H1
section
variable{X:Cx}{e:Expr}{te:TE}{lo hi:Option Expr}{tl th:TO}{pos p2:Pos}
theorem eV:PO X none vd:=by intro Ng s U H Q I h;rw[evalPart_none];exact zt ⟨none,H,I,.none,h⟩
theorem Kh(h:PE X e te):PO X (some e) (nR te):=by intro Ng s U H Q I hw;rw[evalPart_some];refine thn (h Ng s U H _ I hw) λu s1 Nq=>Nq.elim λx H1 I1 r1 q1=>?_;obtain⟨i,rfl,q⟩:=q1;obtain⟨t,rfl⟩:=r1;exact⟨some i,H1,I1,.int i t,q⟩
def SlR(X:Cx)(r:V->Option Int->Option Int->Hp->VK->Prop):Prop:=
 ∀(Ng:PNS) (s:zm) (U:St) (H:Hp) (x:V) (v vl vu:zg) (lo hi:Option Int) (sl:Addr) (Q:VK),Inv X Ng U H s->u9 x v->s.heap.IsSliceOf sl vl vu .none->IsPart vl lo->IsPart vu hi->r x lo hi H Q->
  ∃T id,typeLookup (.type T) "__getitem__" =pure (some (.builtin id))/\s.TypeIs v T/\zv (zD X.prog X.w) X.A (Xu v (.ref sl)) (EP X Ng U Q) X.xe s
theorem SlR.or(h:SlR X r)(h':SlR X r'):SlR X (λx lo hi H Q=>r x lo hi H Q\/r' x lo hi H Q):=by
 intro Ng s U H x v vl vu lo hi sl Q I rx hs pl pu q;rcases q with q|q
 ·exact h Ng s U H x v vl vu lo hi sl Q I rx hs pl pu q
 ·exact h' Ng s U H x v vl vu lo hi sl Q I rx hs pl pu q
def tSl(r:V->Option Int->Option Int->Hp->VK->Prop)(te:TE)(tl th:TO):TE:=λU H Q=>te U H λx H1=>tl U H1 λl H2=>th U H2 λu H3=>r x l u H3 Q
theorem qk(hr:SlR X r)(he:PE X e te)(hl:PO X lo tl)(hu:PO X hi th):PE X (.Subscript e (.Slice lo hi none p2) pos) (tSl r te tl th):=by intro Ng s U H Q I h;refine Subscript_ (thn (he Ng s U H _ I h) λv s1 Nq=>Nq.elim λx H1 I1 r1 q1=>?_);refine wpAny_Slice (thn (hl Ng s1 U H1 _ I1 q1) λvl s2 ⟨l,H2,I2,pl,q2⟩=>thn (hu Ng s2 U H2 _ I2 q2) λvu s3 ⟨u,H3,I3,pu,q3⟩=>?_);rw[evalPart_none];refine zt ?_;have I4:Inv X Ng U H3 {s3 with heap:=s3.heap.push {cls:=.type "slice",data:=.fields #[vl,vu,.none]}}:=I3.kept (t':=s3.toks) λb ob q=>zf _ q;obtain⟨T,id,hT,ht,hg⟩:=hr Ng {s3 with heap:=s3.heap.push {cls:=.type "slice",data:=.fields #[vl,vu,.none]}} U H3 x v vl vu l u s3.heap.objs.size Q I4 r1 (Heap.IsSliceOf.new ..) pl pu q3;show zv (zD X.prog X.w) X.A (subscriptTail e (.Slice lo hi none p2) v (.ref s3.heap.objs.size)) (EP X Ng U Q) X.xe {s3 with heap:=s3.heap.push {cls:=.type "slice",data:=.fields #[vl,vu,.none]}};exact tail_any (ops:= [.ref s3.heap.objs.size,v]) ht hT hg (by with_unfolding_all rfl)
def g6(xs:List V)(lo hi:Option Int):List V:=(xs.drop (HT.sIx xs.length 0 lo)).take (HT.sIx xs.length xs.length hi-HT.sIx xs.length 0 lo)
theorem VJ(xs:List V)(lo hi:Option Int):(g6 xs lo hi).length<=xs.length:=by unfold g6;rw[zN,jA];lia
def vQ(K:zd):V->Option Int->Option Int->Hp->VK->Prop:=λx lo hi H Q=>∃a xs,x= .ref a/\SqT K H a xs/\
 ¬(HT.sIx xs.length 0 lo=0/\HT.sIx xs.length xs.length hi=xs.length)/\∀p,H p=none->Q (.ref p) (upd H p (.tup (g6 xs lo hi)))
theorem sl_tup:SlR X (vQ X.K):=by
 intro Ng s U H x v vl vu lo hi sl Q I rx hs pl pu h;obtain⟨a,xs,rfl,hx,hw,q⟩:=h
 cases rx
 obtain⟨Nj,r,ht,hz⟩:=I.tuple hx;have Nm:Nj.toArray.size=xs.length:=by rw[zq];exact r.length.symm
 refine⟨"tuple",_,jD.lookup,ht.typeIs,?_⟩;refine HT.getItem_tuple_cut ht hs pl pu (by rw[Nm];exact hw) ?_ (by rw[Nm];exact hz);rw[Nm];refine⟨.ref s.heap.objs.size,_,I.laid (t':=s.toks) (o:=.tup (g6 xs lo hi)) (λb ob q=>zf _ q) (zk _) ?_,rfl,q _ (I.hok.fresh (zk _))⟩;exact⟨zw (VJ xs lo hi) hz,_,(r.drop (HT.sIx xs.length 0 lo)).take (HT.sIx xs.length xs.length hi-HT.sIx xs.length 0 lo),W6.new _ _⟩
def NR(K:zd):R2:=λx y H Q=>∃a b xs ys,x= .ref a/\y= .ref b/\SqT K H a xs/\SqT K H b ys/\xs≠ []/\xs.length+ys.length<=ze/\
 (ys= []->Q (.ref a) H)/\(ys≠ []->∀p,H p=none->Q (.ref p) (upd H p (.tup (xs++ys))))
theorem t8.nil_iff(r:t8 xs us):us= []↔xs= []:=by
 cases r with
 |nil=>simp
 |cons _ _=>simp
theorem cR:OpR X (yg .Add) (NR X.K):=by
 intro Ng s U H x y v u Q I rx ry h;obtain⟨a,b,xs,ys,rfl,rfl,ha,hb,hx,hz,q1,q2⟩:=h
 cases rx
 cases ry
 obtain⟨Nj,r1,p1,_⟩:=I.tuple ha;obtain⟨Pv,r2,p2,_⟩:=I.tuple hb;refine HT.cat_tup p1 p2 (λz=>hx (r1.nil_iff.mp z)) (λz=>⟨.ref a,H,I,rfl,q1 (r2.nil_iff.mp z)⟩) (λz=>?_) (by rw[<-r1.length,<-r2.length];exact hz);refine⟨.ref s.heap.objs.size,_,I.laid (t':=s.toks) (o:=.tup (xs++ys)) (λb ob q=>zf _ q) (zk _) ?_,rfl,q2 (λw=>z (r2.nil_iff.mpr w)) _ (I.hok.fresh (zk _))⟩;exact⟨by rw[za];exact hz,_,r1.append r2,W6.new _ _⟩
end
def ixN(n:Nat)(i:Int):Option Nat:=if 0<=i then (if i<n then some i.toNat else none)else if -(n:Int)<=i then some (i+n).toNat else none
def atI{α:Type}(xs:List α)(i:Int):Option α:=(ixN xs.length i).bind λj=>xs[j]?
theorem HN(h:ixN n i=some j):seqIndex? i n=some j/\j<n/\ -(n:Int)<=i/\i<n:=by
 unfold ixN at h;by_cases h0:0<=i
 · rw[if_pos h0]at h;by_cases h1:i<n
   ·rw[if_pos h1]at h;have e:i.toNat=j:=js h;exact⟨by rw[seqIndex_of h0 h1,e],by lia,by lia,h1⟩
   ·rw[if_neg h1]at h;cases h
 · rw[if_neg h0]at h;by_cases h1: -(n:Int)<=i
   ·rw[if_pos h1]at h;have e:(i+n).toNat=j:=js h;exact⟨by rw[seqIndex_neg (by lia) h1,e],by lia,h1,by lia⟩
   ·rw[if_neg h1]at h;cases h
theorem CF(h:atI xs i=some v):∃j,seqIndex? i xs.length=some j/\xs[j]? =some v/\j<xs.length/\ -(xs.length:Int)<=i/\i<xs.length:=by
 unfold atI at h
 cases e:ixN xs.length i with
 |none=>rw[e]at h;cases h
 |some j=>
   rw[e]at h;obtain⟨h1,h2,h3,h4⟩:=HN e;exact⟨j,h1,h,h2,h3,h4⟩
theorem atI_nat{xs:List α}{j:Nat}{v:α}(h:xs[j]? =some v):atI xs (j:Int)=some v:=by
 have hj:j<xs.length:=(jG.mp h).1;have e:ixN xs.length (j:Int)=some j:=by unfold ixN;rw[if_pos (by lia),if_pos (by lia)];simp
 unfold atI;rw[e];exact h
theorem Kp(xs:List α)(v:α):atI (xs++[v]) (-1)=some v:=by
 have hl:(xs++[v]).length=xs.length+1:=by simp
 have e:ixN (xs++[v]).length (-1)=some xs.length:=by unfold ixN;rw[hl,if_neg (by decide),if_pos (by lia)];congr 1;lia
 unfold atI;rw[e];show (xs++[v])[xs.length]? =some v;simp
def vF(b:Expr):Prop:=∀o i,subscripted b false o i=operate [o,i] (Xu o i)
def IxR(X:Cx)(r:R2):Prop:=
 ∀(value slice:Expr) (Ng:PNS) (s:zm) (U:St) (H:Hp) (x y:V) (v u:zg) (Q:VK),Inv X Ng U H s->u9 x v->u9 y u->r x y H Q->
  subscripted slice false v u=operate [v,u] (Xu v u)->zv (zD X.prog X.w) X.A (subscriptTail value slice v u) (EP X Ng U Q) X.xe s
def MtR(X:Cx)(id:String)(r:V->List V->Hp->VK->Prop):Prop:=
 ∀(Ng:PNS) (s:zm) (U:St) (H:Hp) (x:V) (xs:List V) (v:zg) (us:List zg) (Q:VK),Inv X Ng U H s->u9 x v->t8 xs us->r x xs H Q->
  zv (zD X.prog X.w) X.A (call (.builtin id) (v::us)) (EP X Ng U Q) X.xe s
section
variable{X:Cx}
theorem IxR.or(h:IxR X r)(h':IxR X r'):IxR X (λx y H Q=>r x y H Q\/r' x y H Q):=by
 intro value slice Ng s U H x y v u Q I rx ry q hs;rcases q with q|q
 ·exact h value slice Ng s U H x y v u Q I rx ry q hs
 ·exact h' value slice Ng s U H x y v u Q I rx ry q hs
theorem MtR.or{id:String}(h:MtR X id r)(h':MtR X id r'):MtR X id (λx xs H Q=>r x xs H Q\/r' x xs H Q):=by
 intro Ng s U H x xs v us Q I rx rs q;rcases q with q|q
 ·exact h Ng s U H x xs v us Q I rx rs q
 ·exact h' Ng s U H x xs v us Q I rx rs q
theorem eS(hr:IxR X r)(ha:PE X a ta)(hb:PE X b tb)(hs:vF b):PE X (.Subscript a b pos) (tOp r ta tb):=by intro Ng s U H Q I h;exact Subscript_ (uG ha hb I h λv u s2 x y H2 I2 rx ry q=>hr a b Ng s2 U H2 x y v u Q I2 rx ry q (hs _ _))
def IW(K:zd):R2:=λx y H Q=>∃p xs i v,x= .ref p/\y= .int i/\SqL K H p xs/\atI xs i=some v/\Q v H
def Kk(K:zd):R2:=λx y H Q=>∃p xs i v,x= .ref p/\y= .int i/\SqT K H p xs/\atI xs i=some v/\Q v H
def Gv:R2:=λx y H Q=>∃z i c,x= .str z/\y= .int i/\z.length<=ze/\atI z.cps.toList i=some c/\Q (.str ⟨#[c]⟩) H
theorem Db:IxR X (IW X.K):=by
 intro value slice Ng s U H x y v u Q I rx ry h hs;obtain⟨p,xs,i,z,rfl,rfl,hq,he,q⟩:=h
 cases rx
 obtain⟨t,rfl⟩:=ry;obtain⟨Nj,r,pl,hz⟩:=I.list hq;obtain⟨j,h1,h2,h3,h4,h5⟩:=CF he;obtain⟨w,ew,rw'⟩:=r.get h2;have hl:=r.length;have hn:=P9;have fin:EP X Ng U Q w s:=⟨z,H,I,rw',q⟩;by_cases h0:0<=i
 · have hj:i.toNat=j:=by
    rw[seqIndex_of h0 h5]at h1;exact js h1
   exact item_listR pl.isList h0 (by lia) (by rw[hj];simpa using ew) fin hs
 · have hj:(i+(Nj.toArray.size:Int)).toNat=j:=by
    rw[seqIndex_neg (by lia) h4]at h1;rw[zq,<-hl];exact js h1
   exact subscriptTail_builtinR (x:=w) pl.isList.typeIs slot_list_getitem.lookup
    (wpAny_getItem_list_neg (Q:=λr s'=>r=w/\EP X Ng U Q r s') pl.isList (by lia) (by rw[zq]<;>lia) (by lia) (by rw[hj];simpa using ew) ⟨rfl,fin⟩) hs
theorem ix_tup:IxR X (Kk X.K):=by
 intro value slice Ng s U H x y v u Q I rx ry h hs;obtain⟨p,xs,i,z,rfl,rfl,hq,he,q⟩:=h
 cases rx
 obtain⟨t,rfl⟩:=ry;obtain⟨Nj,r,pl,hz⟩:=I.tuple hq;obtain⟨j,h1,h2,h3,h4,h5⟩:=CF he;obtain⟨w,ew,rw'⟩:=r.get h2;have hl:=r.length;have hn:=P9;have fin:EP X Ng U Q w s:=⟨z,H,I,rw',q⟩;exact subscriptTail_builtinR (x:=w) pl.typeIs jD.lookup
  (getItem_tuple (j:=j) (Q:=λr s'=>r=w/\EP X Ng U Q r s') pl (by lia) (by lia) (by rw[zq,<-hl];exact h1) (by simpa using ew) ⟨rfl,fin⟩) hs
theorem ix_str:IxR X Gv:=by
 intro value slice Ng s U H x y v u Q I rx ry h hs;obtain⟨z,i,c,rfl,rfl,hz,he,q⟩:=h;obtain⟨t,rfl⟩:=rx;obtain⟨t',rfl⟩:=ry;obtain⟨j,h1,h2,h3,h4,h5⟩:=CF he;have hl:z.cps.toList.length=z.length:=by simp[Str.length]
 rw[hl]at h1 h4 h5;have hn:=P9;exact tail_any (Xj s z t) slot_str_getitem.lookup (getItem_str (c:=c) (by have e1:decide (i < -(2 ^ 63:Int))=false:=decide_eq_false (by lia);have e2:decide (i>=2 ^ 63)=false:=decide_eq_false (by lia);rw[e1,e2,Bool.or_false]) (by rw[h1];simpa using h2) ⟨.str ⟨#[c]⟩,H,I.tok _,⟨_,rfl⟩,q⟩) hs
theorem tS(Nj:List zg)(n j:Nat)(u:zg):Zf (·.setIfInBounds j u) {cls:=.type "list",data:=.seq Nj.toArray n}= {cls:=.type "list",data:=.seq (Nj.set j u).toArray n}:=by simp[Zf]
theorem Inv.lst(I:Inv X Ng U H s)(h:H p=some (.lst xs)):
 ∃(Nj:List zg) (n:Nat),t8 xs Nj/\s.heap.get? p=some {cls:=.type "list",data:=.seq Nj.toArray n}/\xs.length<=ze:=by
 obtain⟨z,Nj,n,r,e⟩:=I.hok p _ h;exact⟨Nj,n,r,e,z⟩
theorem Inv.lstUpd{U:St}{H:Hp}{s:zm}{p:Addr}{xs ys:List V}{Nj its':List zg}{n n':Nat}{f:Obj->Obj}(I:Inv X Ng U H s)(h:H p=some (.lst xs))
 (ho:s.heap.get? p=some {cls:=.type "list",data:=.seq Nj.toArray n}) (hf:f {cls:=.type "list",data:=.seq Nj.toArray n}= {cls:=.type "list",data:=.seq its'.toArray n'}) (r:t8 ys its') (hz:ys.length<=ze) (t:Nat):
 Inv X Ng U (upd H p (.lst ys)) {s with heap:=s.heap.update p f,toks:=t}:=by
 have e:(s.heap.update p f).get? p=some {cls:=.type "list",data:=.seq its'.toArray n'}:=by rw[yi f ho (by rw[hf]<;>rfl),hf]
 refine I.write (x:=p) (e:=p) (by rw[h];trivial) (.inl rfl) (λb u hb q=>(jt _ _ (Ne.symm hb)).trans q) ⟨_,e⟩ ?_;exact⟨hz,its',n',r,e⟩
def DU:V->V->V->Hp->(Hp->Prop)->Prop:=λo i v H Q=>∃p xs k j,o= .ref p/\i= .int k/\H p=some (.lst xs)/\ixN xs.length k=some j/\Q (upd H p (.lst (xs.set j v)))
theorem Hh:iG X DU:=by
 intro Ng s U H o i v ov iv u Q I ro ri rv h;obtain⟨p,xs,k,j,rfl,rfl,hp,hj,q⟩:=h
 cases ro
 obtain⟨t,rfl⟩:=ri;obtain⟨Nj,n,r,ho,hz⟩:=I.lst hp;obtain⟨h1,h2,h3,h4⟩:=HN hj;have hl:=r.length;have hn:=P9;have I':Inv X Ng U (upd H p (.lst (xs.set j v))) {s with heap:=s.heap.update p (Zf (·.setIfInBounds j u))}:=
  I.lstUpd hp ho (tS Nj n j u) (r.set rv j) (by rw[List.length_set];exact hz) s.toks
 by_cases h0:0<=k
 · have hk:k.toNat=j:=by
    rw[seqIndex_of h0 h4]at h1;exact js h1
   exact PySem.W.ki_setAt ho h0 (by lia) (by rw[zq,<-hl];exact h4) (by rw[hk];exact⟨_,I',q⟩)
 · have hk:(k+(Nj.toArray.size:Int)).toNat=j:=by
    rw[seqIndex_neg (by lia) h3]at h1;rw[zq,<-hl];exact js h1
   exact PySem.W.ki_setBack ho (by lia) (by rw[zq,<-hl];exact h3) (by lia) (by rw[hk];exact⟨_,I',q⟩)
theorem OQ(lo hi:Option Int)(n:Nat):(Zt lo hi none n).1= ((HT.sIx n 0 lo:Nat):Int)/\(Zt lo hi none n).2.1= ((HT.sIx n n hi:Nat):Int)/\(Zt lo hi none n).2.2=1:=by
 refine⟨?_,?_,rfl⟩
 · cases lo with
   |none=>simp[Zt,HT.sIx]
   |some i=>
     simp only[Zt,HT.sIx,Option.getD_none,show (1:Int)>0 by decide,if_true];by_cases h:i<0
     ·simp only[h,if_true]<;>lia
     ·simp only[h,if_false]<;>lia
 · cases hi with
   |none=>simp[Zt,HT.sIx]
   |some i=>
     simp only[Zt,HT.sIx,Option.getD_none,show (1:Int)>0 by decide,if_true];by_cases h:i<0
     ·simp only[h,if_true]<;>lia
     ·simp only[h,if_false]<;>lia
theorem HU(Nj:List zg)(lo hi:Option Int):slicePick Nj.toArray lo hi none= ((Nj.drop (HT.sIx Nj.length 0 lo)).take (HT.sIx Nj.length Nj.length hi-HT.sIx Nj.length 0 lo)).toArray:=by obtain⟨h1,h2,h3⟩:=OQ lo hi Nj.toArray.size;unfold slicePick;rw[h1,h2,h3];simp only[sliceRange_one,pick_run,zq]<;>rfl
def HW(K:zd):V->Option Int->Option Int->Hp->VK->Prop:=λx lo hi H Q=>∃a xs,x= .ref a/\SqL K H a xs/\∀p,H p=none->Q (.ref p) (upd H p (.lst (g6 xs lo hi)))
theorem Lm:SlR X (HW X.K):=by
 intro Ng s U H x v vl vu lo hi sl Q I rx hs pl pu h;obtain⟨a,xs,rfl,hx,q⟩:=h
 cases rx
 obtain⟨Nj,r,ht,hz⟩:=I.list hx;have Nm:=r.length;refine⟨"list",_,slot_list_getitem.lookup,ht.isList.typeIs,?_⟩;refine wpAny_getItem_list_slice ht.isList hs pl pu .none (by simp) ?_ (by rw[zq]<;>lia);rw[HU,<-Nm];refine⟨.ref s.heap.objs.size,_,I.laid (t':=s.toks) (o:=.lst (g6 xs lo hi)) (λb ob q=>zf _ q) (zk _) ?_,rfl,q _ (I.hok.fresh (zk _))⟩;exact⟨zw (VJ xs lo hi) hz,_,0,(r.drop (HT.sIx xs.length 0 lo)).take (HT.sIx xs.length xs.length hi-HT.sIx xs.length 0 lo),zy _ rfl⟩
def i6:V->Bool
 | .non=>true
 | .bl _=>true
 | .int _=>true
 | .str _=>true
 |_=>false
def eqV:V->V->Bool
 | .non,.non=>true
 | .bl a,.bl b=>a==b
 | .bl a,.int b=>(if a then 1 else 0)==b
 | .int a,.bl b=>a==(if b then 1 else 0)
 | .int a,.int b=>a==b
 | .str a,.str b=>a==b
 |_,_=>false
theorem Mw(ry:u9 y u)(rx:u9 x v)(fy:i6 y=true)(fx:i6 x=true):yL A s u v (eqV y x):=by
 cases y with
 |non=>
   cases ry
   cases x with
   |non=>cases rx;exact YG _
   |bl b=>cases rx;exact XO b
   |int b=>obtain⟨t,rfl⟩:=rx;exact Jh b t
   |str b=>obtain⟨t,rfl⟩:=rx;exact Jg b t
   |_=>exact absurd (show false=true from fx) zG
 |bl a=>
   cases ry
   cases x with
   |non=>cases rx;exact XQ a
   |bl b=>cases rx;exact XR a b
   |int b=>obtain⟨t,rfl⟩:=rx;exact Jl a b t
   |str b=>obtain⟨t,rfl⟩:=rx;exact Jk a b t
   |_=>exact absurd (show false=true from fx) zG
 |int a=>
   obtain⟨t',rfl⟩:=ry
   cases x with
   |non=>cases rx;exact Ji a t'
   |bl b=>cases rx;exact Jj a t' b
   |int b=>obtain⟨t,rfl⟩:=rx;exact Jr a t' b t
   |str b=>obtain⟨t,rfl⟩:=rx;exact Yi a t' b t
   |_=>exact absurd (show false=true from fx) zG
 |str a=>
   obtain⟨t',rfl⟩:=ry
   cases x with
   |non=>cases rx;exact Je a t'
   |bl b=>cases rx;exact Jf a t' b
   |int b=>obtain⟨t,rfl⟩:=rx;exact Yh a t' b t
   |str b=>obtain⟨t,rfl⟩:=rx;exact Jq a t' b t
   |_=>exact absurd (show false=true from fx) zG
 |_=>exact absurd (show false=true from fy) zG
def eqU(x:V)(u:zg):Bool:=match u with
 | .none=>eqV .non x
 | .bool b=>eqV (.bl b) x
 | .int i _=>eqV (.int i) x
 | .str z _=>eqV (.str z) x
 |_=>false
theorem OL(r:u9 y u)(f:i6 y=true):eqU x u=eqV y x:=by
 cases y with
 |non=>cases r;rfl
 |bl b=>cases r;rfl
 |int i=>obtain⟨t,rfl⟩:=r;rfl
 |str z=>obtain⟨t,rfl⟩:=r;rfl
 |_=>exact absurd (show false=true from f) zG
theorem sE(h:t8 xs us)(f:xs.all i6=true):us.any (eqU x)=xs.any λy=>eqV y x:=by
 induction h with
 |nil=>rfl
 |cons r t ih=>
   rw[jB,zP]at f;rw[yN,yN,OL r f.1,ih f.2]
theorem oC(rx:u9 x v)(fx:i6 x=true):∀ {xs} {us},t8 xs us->xs.all i6=true->∀u∈us,yL A s u v (eqU x u)
 |_,_,.nil,_=>λu hu=>by cases hu
 |y::xs,u::us,.cons r t,f=>λu' hu=>by
   rw[jB,zP]at f;rcases zl.mp hu with rfl|hu
   ·rw[OL r f.1];exact Mw r rx f.1 fx
   ·exact oC rx fx t f.2 u' hu
def inV(x:V)(xs:List V):Bool:=xs.any λy=>eqV y x
def rIn(K:zd)(neg:Bool):R2:=λx y H Q=>∃p xs,y= .ref p/\(SqL K H p xs\/SqT K H p xs)/\i6 x=true/\xs.all i6=true/\Q (.bl (if neg then !inV x xs else inV x xs)) H
theorem tU:OpR X (zY .In) (rIn X.K false):=by
 intro Ng s U H x y v u Q I rx ry h;obtain⟨p,xs,rfl,hq,fx,fs,q⟩:=h
 cases ry
 rcases hq with hq|hq
 ·obtain⟨Nj,r,pl,hz⟩:=I.list hq;refine SeqAt.in_listAt (eqU x) pl.isList (λw hw=>oC rx fx r fs w (by simpa using hw)) ⟨.bl _,H,I,rfl,?_⟩;rw[show Nj.toArray.any (eqU x)=Nj.any (eqU x) by simp,sE r fs];exact q
 ·obtain⟨Nj,r,pl,hz⟩:=I.tuple hq;refine SeqAt.in_tupleAt (eqU x) pl (λw hw=>oC rx fx r fs w (by simpa using hw)) ⟨.bl _,H,I,rfl,?_⟩;rw[show Nj.toArray.any (eqU x)=Nj.any (eqU x) by simp,sE r fs];exact q
theorem AT:OpR X (zY .NotIn) (rIn X.K true):=by
 intro Ng s U H x y v u Q I rx ry h;obtain⟨p,xs,rfl,hq,fx,fs,q⟩:=h
 cases ry
 rcases hq with hq|hq
 ·obtain⟨Nj,r,pl,hz⟩:=I.list hq;refine SeqAt.notIn_listAt (eqU x) pl.isList (λw hw=>oC rx fx r fs w (by simpa using hw)) ⟨.bl _,H,I,rfl,?_⟩;rw[show Nj.toArray.any (eqU x)=Nj.any (eqU x) by simp,sE r fs];exact q
 ·obtain⟨Nj,r,pl,hz⟩:=I.tuple hq;refine SeqAt.notIn_tupleAt (eqU x) pl (λw hw=>oC rx fx r fs w (by simpa using hw)) ⟨.bl _,H,I,rfl,?_⟩;rw[show Nj.toArray.any (eqU x)=Nj.any (eqU x) by simp,sE r fs];exact q
theorem wZ:OpR X (zY .NotIn) (λx y H Q=>∃i j,x= .str i/\y= .str j/\Q (.bl (!(!(ju j i 0 j.length 1).isEmpty))) H):=by intro Ng s U H x y v u Q I rx ry h;obtain⟨i,j,rfl,rfl,q⟩:=h;obtain⟨t,rfl⟩:=rx;obtain⟨t',rfl⟩:=ry;exact notIn_str ⟨.bl _,H,I,rfl,q⟩
theorem bQ:T4 X (.builtin "len") (λxs H Q=>∃p ys,xs= [.ref p]/\(SqL X.K H p ys\/SqT X.K H p ys)/\Q (.int ys.length) H):=by
 intro Ng s U H xs us Q I r h;obtain⟨p,ys,rfl,hq,q⟩:=h;obtain⟨u,rfl,rx⟩:=Z1 r
 cases rx
 have hn:=P9;rcases hq with hq|hq
 ·obtain⟨Nj,r',pl,hz⟩:=I.list hq;have Nm:=r'.length;exact Calls.call_len_list pl.isList (by simp only[zq]<;>lia) ⟨.int ys.length,H,I.tok _,⟨s.toks+1,by rw[zq,Nm]⟩,q⟩
 ·obtain⟨Nj,r',pl,hz⟩:=I.tuple hq;have Nm:=r'.length;exact len_tuple pl (by simp only[zq]<;>lia) ⟨.int ys.length,H,I.tok _,⟨s.toks+1,by rw[zq,Nm]⟩,q⟩
theorem Dp:T4 X (.builtin "len") (λxs H Q=>∃z,xs= [.str z]/\z.length<=ze/\Q (.int z.length) H):=by intro Ng s U H xs us Q I r h;obtain⟨z,rfl,hz,q⟩:=h;obtain⟨u,rfl,t,rfl⟩:=Z1 r;have hn:=P9;exact len_str (by lia) ⟨.int z.length,H,I.tok _,⟨_,rfl⟩,q⟩
theorem T4.or(h:T4 X f r)(h':T4 X f r'):T4 X f (λxs H Q=>r xs H Q\/r' xs H Q):=by
 intro Ng s U H xs us Q I rs q;rcases q with q|q
 ·exact h Ng s U H xs us Q I rs q
 ·exact h' Ng s U H xs us Q I rs q
theorem FW:T4 X (.type "tuple") (λxs H Q=>∃p ys,xs= [.ref p]/\((SqL X.K H p ys/\∀l,H l=none->Q (.ref l) (upd H l (.tup ys)))\/(SqT X.K H p ys/\Q (.ref p) H))):=by
 intro Ng s U H xs us Q I r h;obtain⟨p,ys,rfl,h⟩:=h;obtain⟨u,rfl,rx⟩:=Z1 r
 cases rx
 rcases h with⟨hq,q⟩|⟨hq,q⟩
 · obtain⟨Nj,r',pl,hz⟩:=I.list hq;have Nm:=r'.length;refine call_tuple_list pl.isList (λh' kp=>?_) (by simp only[zq]<;>lia);have I1:Inv X Ng U H {s with heap:=h'}:=I.kept (t':=s.toks) kp;have I2:Inv X Ng U (upd H h'.objs.size (.tup ys)) {s with heap:=h'.push {cls:=.type "tuple",data:=.seq Nj.toArray}}:=
    I1.laid (t':=s.toks) (λb o e=>zf _ e) (zk _) (show N8 X.prog X.w _ _ _ (.tup ys) from⟨hz,Nj,r',W6.new _ _⟩)
   exact⟨.ref h'.objs.size,_,I2,rfl,q _ (I1.hok.fresh (zk _))⟩
 ·obtain⟨Nj,r',pl,hz⟩:=I.tuple hq;exact call_tuple_same pl ⟨.ref p,H,I,rfl,q⟩
def tyV(K:zd)(T:String)(x:V)(H:Hp):Prop:=match x with
 | .str _=>T= "str"
 | .int _=>T= "int"
 | .ref p=>(T= "list"/\∃xs,SqL K H p xs)\/(T= "tuple"/\∃o,K.lookup p=some o/\o.cls= .type "tuple"/\o.dict=none)\/
    (T= "dict"/\((∃Nh,H p=some (.dK Nh))\/∃Nh,H p=some (.dT Nh)))\/(T= "set"/\∃S n,H p=some (.set S n))
 |_=>False
theorem uU(I:Inv X Ng U H s)(r:u9 x v)(ty:tyV X.K T x H):
 s.TypeIs v T/\∀a,v= .ref a->∃ob,s.heap.get? a=some ob/\ob.dict=none:=by
 cases x with
 |str z=>
   obtain⟨t,rfl⟩:=r
   cases (show T= "str" from ty)
   exact⟨Xj s z t,λ_ e=>nomatch e⟩
 |int i=>
   obtain⟨t,rfl⟩:=r
   cases (show T= "int" from ty)
   exact⟨Xk s i t,λ_ e=>nomatch e⟩
 |ref p=>
   cases r
   rcases ty with⟨rfl,xs,hq⟩|⟨rfl,o,hk,hc,hd⟩|⟨rfl,hk⟩|⟨rfl,S,n,hk⟩
   · obtain⟨Nj,_,pl,_⟩:=I.list hq;refine⟨pl.isList.typeIs,λa e=>?_⟩
     cases e
     obtain⟨o,n,e,c,hd,_⟩:=pl;exact⟨o,e,hd⟩
   · refine⟨⟨o,I.kIn p o hk,hc⟩,λa e=>?_⟩
     cases e
     exact⟨o,I.kIn _ o hk,hd⟩
   · have z:∃o,s.heap.get? p=some o/\o.ExactDict:=by
      rcases hk with⟨Nh,hk⟩|⟨Nh,hk⟩
      ·obtain⟨_,_,_,_,o,_,_,e,ex,_⟩:=I.hok p _ hk;exact⟨o,e,ex⟩
      ·obtain⟨_,_,_,_,o,_,_,e,ex,_⟩:=I.hok p _ hk;exact⟨o,e,ex⟩
     obtain⟨o,e,ex⟩:=z;refine⟨⟨o,e,ex.1⟩,λa e2=>?_⟩
     cases e2
     exact⟨o,e,ex.2.1⟩
   · obtain⟨o,_,_,_,e,ex,_⟩:=I.hok p _ hk;refine⟨⟨o,e,ex.1⟩,λa e2=>?_⟩
     cases e2
     exact⟨o,e,ex.2.1⟩
 |_=>exact ya ty
def tBM(K:zd)(T:String)(r:V->List V->Hp->VK->Prop)(to:TE)(t:TA):TE:=λU H Q=>to U H λx H1=>tyV K T x H1/\t U H1 λxs H2=>r x xs H2 Q
variable{o e:Expr}{es:List Expr}{to:TE}{t:TA}{name:Str}{apos cpos:Pos}{T id:String}{r:V->List V->Hp->VK->Prop}
theorem lI(pa:PlainAttrs T)(slot:Slot T name id)(hty:typeOf (.builtin id)=pure (.type "method_descriptor"))(hm:MtR X id r)(ho:PE X o to)(ha:PA X (e::es) t)
 (hbase:Ya o name X.env (eval o X.env)=eval o X.env)
 (hfew:((yy cpos (zC (e::es) X.env)).all (λx=> !x.1)&&(JF cpos (YJ [] X.env)).all (λx=>x.1.isSome)
   && decide ((e::es).length+([]:List Keyword).length+(if ([]:List Keyword).isEmpty then 0 else 1)<30))=true)
 (hline:(apos.endLine==cpos.line)=true) (hs:zC (e::es) X.env= (false,eval e X.env)::zC es X.env) (Pj:(yy cpos (zC es X.env)).any (·.1)=false):
 PE X (.Call (.Attribute o name apos) (e::es) [] cpos) (tBM X.K T r to t):=by
 intro Ng s U H Q I h;refine wpAny_Call_method_late hbase hfew hline rfl (thn (ho Ng s U H _ I h) λv s1 ⟨x,H1,I1,r1,ty,q1⟩=>?_);obtain⟨h1,h2⟩:=uU I1 r1 ty;refine⟨T,id,pa,slot,hty,h1,h2,?_⟩;have hA:=ha cpos Ng s1 U H1 _ I1 q1;rw[hs]at hA ⊢;refine Calls.callWith_builtin (by show (false||(yy cpos (zC es X.env)).any (·.1))=false;rw[Pj]<;>rfl) (JI ?_);exact thn hA λus s2 Nq=>Nq.elim λvs H2 I2 r2 q2=>hm Ng s2 U H2 x vs v us Q I2 r1 r2 q2
end
def MtM(X:Cx)(id:String)(r:V->List V->Hp->VK->Prop):Prop:=
 ∀(Ng:PNS) (s:zm) (U:St) (H:Hp) (x:V) (xs:List V) (v:zg) (us:List zg) (Q:VK),Inv X Ng U H s->u9 x v->t8 xs us->r x xs H Q->
  zv (zD X.prog X.w) X.A (call (.builtin id) (v::us)) (EP X Ng U Q) X.xe s
theorem t8.one(h:t8 [x] us):∃u,us= [u]/\u9 x u:=by
 cases h with
 |cons r t=>cases t;exact⟨_,rfl,r⟩
theorem t8.two(h:t8 [x,y] us):∃u v,us= [u,v]/\u9 x u/\u9 y v:=by
 cases h with
 |cons r t=>
   obtain⟨v,rfl,q⟩:=t8.one t;exact⟨_,v,rfl,r,q⟩
theorem t8.dropLast(h:t8 xs us):t8 xs.dropLast us.dropLast:=by
 induction h with
 |nil=>exact .nil
 |cons r t ih=>
   cases t with
   |nil=>exact .nil
   |cons q t'=>exact .cons r ih
theorem t8.reverse(h:t8 xs us):t8 xs.reverse us.reverse:=by
 induction h with
 |nil=>exact .nil
 |cons r t ih=>rw[YU,YU];exact t8.append ih (.cons r .nil)
section
theorem Inv.lset{Nj its':List zg}{n:Nat}{t':Nat}(I:Inv X Ng U H s)(hH:H l=some (.lst xs))
 (e:s.heap.get? l=some {cls:=.type "list",data:=.seq Nj.toArray n}) (hf:f Nj.toArray=its'.toArray) (hv:t8 ys its') (hz:ys.length<=ze):
 Inv X Ng U (upd H l (.lst ys)) {s with heap:=s.heap.update l (Zf f),toks:=t'}:=by
 have q:=PySem.IsL.update e f;rw[hf]at q;refine I.write (x:=l) (e:=l) (by rw[hH];exact trivial) (.inl rfl) (λb' u hb hu=>(jt s.heap (Zf f) (Ne.symm hb)).trans hu) ⟨_,q⟩ ?_;exact⟨hz,its',_,hv,q⟩
theorem Inv.lnew(I:Inv X Ng U H s)(hv:t8 ys Nj)(hz:ys.length<=ze):
 Inv X Ng U (upd H s.heap.objs.size (.lst ys)) {s with heap:=s.heap.push {cls:=.type "list",data:=.seq Nj.toArray},toks:=t'}:=
 I.laid (λ_ _ q=>zf _ q) (zk _) ⟨hz,Nj,0,hv,zy _ rfl⟩
theorem Inv.fresh(I:Inv X Ng U H s):H s.heap.objs.size=none:=I.hok.fresh (zk _)
theorem Inv.lstM(I:Inv X Ng U H s)(hH:H l=some (.lst xs)):xs.length<=ze/\∃(Nj:List zg) (n:Nat),t8 xs Nj/\xs.length=Nj.length/\s.heap.get? l=some {cls:=.type "list",data:=.seq Nj.toArray n}:=by obtain⟨z,Nj,n,r,e⟩:=I.hok l _ hH;exact⟨z,Nj,n,r,r.length,e⟩
end
section
def EU:V->List V->Hp->VK->Prop:=λx vs H Q=>∃l xs y,x= .ref l/\vs= [y]/\H l=some (.lst xs)/\xs.length<ze/\Q .non (upd H l (.lst (xs++[y])))
theorem GH:MtM X "list.append" EU:=by
 intro Ng s U H x vs v us Q I rx rv h;obtain⟨l,xs,y,rfl,rfl,hH,hz,q⟩:=h
 cases rx
 obtain⟨u,rfl,ru⟩:=rv.one;obtain⟨z,Nj,n,r,hl,e⟩:=I.lstM hH;refine call_meets ZT ⟨_,e,rfl⟩ F.entry_list_append (F.args_list_append_2 _ _) (PySem.list_append l Nj.toArray n u (by rw[zq];lia)) ⟨e,?_⟩;refine⟨.non,_,I.lset (its':=Nj++[u]) hH e (by simp) (r.append (.cons ru .nil)) ?_,rfl,q⟩;rw[za,Yj];lia
def lP:R2:=λx y H Q=>∃l b xs zs,x= .ref l/\y= .ref b/\H l=some (.lst xs)/\H b=some (.lst zs)/\xs.length+zs.length<=ze/\∀p,H p=none->Q (.ref p) (upd H p (.lst (xs++zs)))
theorem fU:OpR X (yg .Add) lP:=by
 intro Ng s U H x y v u Q I rx ry h;obtain⟨l,b,xs,zs,rfl,rfl,hH,hB,hz,q⟩:=h
 cases rx
 cases ry
 obtain⟨z,Nj,n,r,hl,e⟩:=I.lstM hH;obtain⟨z2,Pv,n2,r2,hl2,e2⟩:=I.lstM hB;refine PySem.P.add_list e e2 ?_ (by rw[zq,zq];lia);have ea:Nj.toArray++Pv.toArray= (Nj++Pv).toArray:=by simp
 rw[ea];exact⟨.ref _,_,I.lnew (t':=s.toks) (r.append r2) (by rw[za];lia),rfl,q _ I.fresh⟩
end
section
end
section
end
end L2
namespace Att
open PySem PySem.W PySem.Calls PyProof.Rows
theorem vS:∀ns vs,WellAll P h vs (ns.map WData.int)->IntsAre vs ns:=by
 intro ns
 induction ns with
 |nil=>
   intro vs w;rw[JC]at w
   cases w
   exact .nil
 |cons n ns ih=>
   intro vs w;rw[zE]at w
   cases w with
   |cons a b=>
     cases a
     exact .cons _ _ (ih _ b)
theorem Mg{l:OpenLaw}{n:Nat}(hn:l.most=some n){P:Params}{h:Heap}
 (hpre:l.row.toRowW.claim.pre args=true) (hwl:WellAll P h vals args):
 ∃a vs ns,vals= [Value.ref a]/\args= [WData.list (ns.map WData.int)]/\h.get? a=some {cls:=.type "list",data:=.seq vs.toArray}/\IntsAre vs ns/\ns.length<=n:=by
 have hsh:WShape.hasAll [] args [.list .int]=true:=(pre_splitW hpre).1;have hc:l.pre.holds [] {args:=args}=true:=(pre_splitW hpre).2;obtain⟨d,r,rfl,h1,h2⟩:=hasAllW_cons hsh;obtain rfl:=hasAllW_nil h2;obtain⟨xs,rfl,h3⟩:=hasW_list h1;obtain⟨ns,rfl⟩:=items_int h3;have Nm:ns.length<=n:=by
  unfold OpenLaw.pre at hc;have h4:(WTm.not (.lt (.lit (.int (n:Int))) (.len (.arg 0)))).holds [] {args:= [.list (ns.map .int)]}=true:=by have h4:=(holds_andW hc).1;rw[hn]at h4;exact h4
  have h5:=condW_of h4 (w_not (w_lt w_lit (w_len_list (w_arg rfl))));rw[zn]at h5;refine Nat.le_of_not_lt λq=>?_;have q':(n:Int)<((ns.length:Nat):Int):=by lia
  first
   |(rw[decide_eq_true q']at h5;exact absurd h5 (by decide))
   |(simp at h5;lia)
 cases hwl with
 |cons w1 w2=>
   cases w2
   cases w1 with
   |list ho hall=>exact⟨_,_,ns,rfl,rfl,ho,vS ns _ hall,Nm⟩
theorem LX(l:OpenLaw)(args:List WData):l.row.toRowW.claim.post args (.bool true) args=true:=
 postW_of (r:=l.row.toRowW) (X:=(true==true))
  (show WShape.has [] (.bool true) .bool=true by first|rfl|decide|simp[WShape.has,WShape.arms,WShape.armsAll])
  (show (WTm.eq .res (.lit (.bool true))).value [] {args:=args,res:=some (.bool true),after:=args}=some (.bool (true==true))from w_eq_bool (w_res rfl) w_lit) rfl
theorem attach_call{l:OpenLaw}{n:Nat}{q:zF}{loose:List Str}{d:DefRec}
 (hn:l.most=some n) (hdf:d.params.defaults= [])
 (call:∀(w:zO) (WZ W1:zm) (mg mb:Str->Option zg) (fa:Addr) (o:Obj) (pm cd doc:zg) (a:Addr) (vs:List zg) (ns:List Int),
   Ground q loose [] XP w WZ mg mb W1.heap->YP w W1.heap->
   W1.heap.get? fa=some o->o.data= .func (docDef d.name d.params d.body d.scope pm cd doc)->W1.heap.CodeRec cd d.name->mg d.name=some (.ref fa)->
   W1.heap.get? a=some {cls:=.type "list",data:=.seq vs.toArray}->IntsAre vs ns->ns.length<=n->W1.gens= #[]->
   Yq (zD l.prog w) YR (.call (.ref fa) ⟨[.ref a], []⟩) (λr s'=>r= .ok (.ret (.bool true))/\OldK W1.heap s'.heap/\s'.os=W1.os/\ZG s'.gens) W1):
 WalkO q loose XP YP l.row.toRowW d [] (λf vs=>PySem.call f vs):=by
 intro w WZ W1 mg mb G Y fa o pm cd doc dV kV ho hd hcd hD hmg hg args vals as hpre hlay hrd hwl hlo;obtain rfl:dV= .none:=Dflts.none hD hdf;obtain rfl:kV= .none:=Dflts.noKw hD;obtain⟨a,vs,ns,rfl,rfl,hobj,hints,Nm⟩:=Mg hn hpre hwl;refine enter_call (Xv (call w WZ W1 mg mb fa o pm cd doc a vs ns G Y ho (fd_plain hd) hcd hmg hobj hints Nm hg) λr s' hq=>?_);obtain⟨rfl,h2,h3,h4⟩:=hq;exact⟨.inl ⟨.bool true,.bool true, [],rfl,λ_=>rfl,.bool true,LX l _,λ_=>⟨List.Pairwise.nil,λ_ hm=>(nomatch hm)⟩⟩,h2,h3,h4⟩
section
variable{prog:zF}{w:zO}{A:zV}{s:zm}{K:Frag}
end
end Att
namespace L2
open PySem PySem.Spec PyProof.Rows
theorem BM:∀ {vs} {ns},IntsAre vs ns->t8 (ns.map V.int) vs
 |_,_,.nil=>.nil
 |_,_,.cons n t h=>.cons ⟨t,rfl⟩ (BM h)
def pD(H:Hp):Prop:=∀b,H b=none\/∃o xs,H b=some (.frz o (.lst xs))
theorem GZ{P:zF}{w:zO}{K:zd}{CX:CXT}{k:Nat}{fa a:Addr}{fd:xg}{x:Str}{sp:Sp}{W1:zm}{vs:List zg}{ns:List Int}
 (KX:K.In W1.heap) (hns:W1.heap.Ns zJ mg) (hb:W1.heap.Ns builtinsNs mb) (hbb:∀x:Str,x≠ "__name__"->mb x=zQ x) (hlim:W1.heap.NoLimit) (hg:W1.gens= #[])
 (ha:W1.heap.get? a=some {cls:=.type "list",data:=.seq vs.toArray}) (hi:IntsAre vs ns) (hl:ns.length<=ze) (hr:M7 k YR)
 (F:∀base:Heap,K.In base->base.Ns zJ mg->X4 P w K mg base CX k fa fd [x] sp) (hbind:∀(s:zm) (u:zg),Yu s fd ⟨[u], []⟩ [(x,u)])
 (hsp:∀H:Hp,pD H->SqL K H a (ns.map V.int)->sp [.ref a] H (λv _=>v= .bl true) λ_ _ _=>False)
 (hCX:∀H e s',CX [] H W1 (λ_ _ _=>False) e s'->False):
 Yq (zD P w) YR (.call (.ref fa) ⟨[.ref a], []⟩) (λr s'=>r= .ok (.ret (.bool true))/\OldK W1.heap s'.heap/\s'.os=W1.os/\ZG s'.gens) W1:=by
 have rv:=BM hi;have lenV:=hi.length
 -- from an abstract heap in which nothing but the script may be tracked
 have core:∀H:Hp,pD H->SqL K H a (ns.map V.int)->HOk P w H W1.heap->(∀b,H b≠none->b=a)->(H a≠none->K.lookup a=none)->
  Yq (zD P w) YR (.call (.ref fa) ⟨[.ref a], []⟩) (λr s'=>r= .ok (.ret (.bool true))/\OldK W1.heap s'.heap/\s'.os=W1.os/\ZG s'.gens) W1:=by
  intro H hO hS hok hA hK;have base_of:∀ {b:Addr} {o:Obj},W1.heap.get? b=some o->H b=none->(B7 W1.heap H).get? b=some o:=λe n=>dW e n;have noA:∀ {b:Addr} {o:Obj} {es:Array DictEntry} {ep:Nat},W1.heap.get? b=some o->o.data= .dict es ep->H b=none:=λ{b o es ep} e d=>by
   cases q:H b with
   |none=>rfl
   |some u=>
     have e':b=a:=hA b (by rw[q];simp);subst e';rw[ha]at e;cases e;have d':Data.seq vs.toArray _=Data.dict es ep:=d
     cases d'
  have nsK:∀ {b:Addr} {m:Str->Option zg},W1.heap.Ns b m->(B7 W1.heap H).Ns b m:=λ{b m} ⟨o,es,ep,e,d,r⟩=>⟨o,es,ep,base_of e (noA e d),d,r⟩;have hKb:K.In (B7 W1.heap H):=λb o e=>base_of (KX b o e) (by
   cases q:H b with
   |none=>rfl
   |some u=>
     have e':b=a:=hA b (by rw[q];simp);subst e';rw[hK (by rw[q];simp)]at e;cases e)
  have hM:Mod K mg (B7 W1.heap H):=⟨hKb,nsK hns,⟨mb,nsK hb,hbb⟩,let ⟨mc,h1,h2⟩:=hlim;⟨mc,nsK h1,h2⟩⟩;have e0:lA P w K mg (B7 W1.heap H) YR [] W1 H:=⟨rfl,hM,λb o e=>SQ e,Nat.le_of_eq (Mx _ _),trivial,λb hb=>absurd (show b∈([]:List Addr)from hb) (by simp),hok,.of_eq hg⟩;refine Xv ((F _ hKb (nsK hns)).run YR [] W1 H ⟨[.ref a], []⟩ [.ref a] [.ref a] _ _ hr e0 (hbind W1 (.ref a)) (.cons rfl .nil) (hsp H hO hS)) λr s' h=>?_
  cases r with
  |error e=>exact(hCX H e s' h).elim
  |ok fl=>
    cases fl with
    |next=>exact ya h
    |brk=>exact ya h
    |cont=>exact ya h
    |ret u=>
      obtain⟨v,H',os,bare,un,hok',r',q⟩:=h;have q':v= .bl true:=q;subst q';obtain rfl:u=Value.bool true:=r';refine⟨rfl,OldK.of_keep λb o e=>?_,os,bare⟩
      cases q:H b with
      |none=>exact un.keep b o e q (by intro z;exact absurd (show b∈([]:List Addr)from z) (by simp)) (by simp)
      |some u=>
        rcases hO b with z|⟨ob,xs,z⟩
        ·rw[q]at z;cases z
        ·have z2:=un.frzs b ob _ z;obtain⟨e1,_⟩:=hok b _ z;obtain⟨e2,_⟩:=hok' b _ z2;rw[e]at e1;cases e1;exact e2
 cases hk:K.lookup a with
 |some o=>
   -- the script is one of the module's own objects
   have e:=KX a o hk;rw[ha]at e
   cases e
   refine core (λ_=>none) (λ_=>.inl rfl) (.inr ⟨_,vs.toArray,_,hk,rfl,rfl,rfl,by rw[zq,lenV];exact hl,by simpa using rv⟩) (λb u z=>by have z':(none:Option HO)=some u:=z;cases z') (λb z=>absurd rfl z) λz=>absurd rfl z
 |none=>
   refine core (λb=>if b=a then some (.frz {cls:=.type "list",data:=.seq vs.toArray} (.lst (ns.map V.int)))else none) (λb=>?_) (.inl (.inr ⟨{cls:=.type "list",data:=.seq vs.toArray},if_pos rfl⟩)) (λb u z=>?_) (λb z=>?_) λ_=>hk
   · by_cases hb:b=a
     ·exact .inr ⟨_,_,if_pos hb⟩
     ·exact .inl (if_neg hb)
   · by_cases hb:b=a
     · have z':=(if_pos hb).symm.trans z
       cases z'
       subst hb;exact⟨ha,by rw[zn];exact hl,vs,_,rv,ha⟩
     · have z':=(if_neg hb).symm.trans z
       cases z'
   · by_cases hb:b=a
     ·exact hb
     ·exact absurd (if_neg hb) z
theorem walk_of{l:PySem.W.OpenLaw}{n k:Nat}{q:zF}{loose:List Str}{YP:zO->Heap->Prop}{d:DefRec}{K:Params->zd}{CX:zO->CXT}{sp:zO->Sp}{x:Str}
 (hn:l.most=some n) (hn2:n<=ze) (hdf:d.params.defaults= []) (hr:M7 k YR)
 (hY:∀(w:zO) (h:Heap),YP w h->(K w.params).In h)
 (F:∀(w:zO) (mg:Str->Option zg) (fa:Addr) (h:Heap),(K w.params).In h->h.Ns zJ mg->mg d.name=some (.ref fa)->
   ∃fd:xg,(∀(s:zm) (u:zg),Yu s fd ⟨[u], []⟩ [(x,u)])/\
    ∀base:Heap,(K w.params).In base->base.Ns zJ mg->X4 l.prog w (K w.params) mg base (CX w) k fa fd [x] (sp w))
 (hsp:∀(w:zO) (H:Hp) (a:Addr) (ns:List Int),ns.length<=n->pD H->SqL (K w.params) H a (ns.map V.int)->sp w [.ref a] H (λv _=>v= .bl true) λ_ _ _=>False)
 (hCX:∀(w:zO) (H:Hp) (s:zm) (e:zg) (s':zm),CX w [] H s (λ_ _ _=>False) e s'->False):
 PySem.W.WalkO q loose XP YP l.row.toRowW d [] (λf vs=>PySem.call f vs):=by
 refine Att.attach_call hn hdf λw WZ W1 mg mb fa o pm cd doc a vs ns G Y ho hd hcd hmg hobj hints Nm hg=>?_;have KX:=hY w _ Y;obtain⟨fd,hb,hF⟩:=F w mg fa _ KX G.T.g hmg;exact GZ KX G.T.g G.T.b G.T.builtins G.T.nolimit hg hobj hints (zw Nm hn2) hr hF hb (λH hO hS=>hsp w H a ns Nm hO hS) λH e s'=>hCX w H W1 e s'
def L6(s:Stmt):Arguments:=match s with
 | .FunctionDef _ a _ _ _ _ _ _ _ _=>a
 |_=>{posonlyargs:= [],args:= [],vararg:=none,kwonlyargs:= [],kw_defaults:= [],kwarg:=none,defaults:= []}
def N5(s:Stmt):List Stmt:=match s with
 | .FunctionDef _ _ b _ _ _ _ _ _ _=>b
 |_=> []
def o5(s:Stmt):Scope:=match s with
 | .FunctionDef _ _ _ _ _ _ sc _ _ _=>sc
 |_=>{kind:=.function,names:= [],isGenerator:=false,isCoroutine:=false}
abbrev CX0:CXT:=λ_ _ _ _ _ _=>False
abbrev E0:XK:=λ_ _ _=>False
theorem PM:wB CX0 X E0:=λ_ _ _ _ _ _ _ h=>h.elim
structure Fun(K:zd)(x qual:Str)(st:Stmt)(f:Addr)(fd:xg):Prop where
 ex:∃(oc:zg) (od:Option Addr) (kV doc pm:zg) (an:Option Addr) (Pb ct:zg) (osl:Array (Option zg)),
  fd=yq x qual (L6 st) (N5 st) (o5 st) .none kV doc pm an Pb ct/\K.lookup f=some ⟨oc,od,.func fd,osl⟩/\Zk K Pb qual=true
 kp:jZ K (.ref f)=true
section
variable{P:zF}{w:zO}{K:zd}{mg:Str->Option zg}{base:Heap}
theorem Fun.ok{x qual:Str}{st:Stmt}{f:Addr}{k:Nat}{sp:Sp}(F:Fun K x qual st f fd)(S:M5 N ps (o5 st))(len:∀vs H Q E,sp vs H Q E->vs.length=ps.length)
 (hbody:∀(Pb:zg) (A:zV) (outer:List Env) (s:zm) (H:Hp) (vs:List V) (Q:VK) (E:XK),M7 k (A.deeper (yc qual (o5 st) s.heap.objs.size f Pb))->sp vs H Q E->
   ∃t,PSs (W3 CX0 P w K mg base N qual (o5 st) f Pb A outer s H E).nox (N5 st) t/\t {nx:=λ_ H'=>Q .non H',rt:=Q} (start N vs) H):X4 P w K mg base CX0 (k+1) f fd ps sp:=by
 obtain⟨oc,od,kV,doc,pm,an,Pb,ct,osl,rfl,lk,hcd⟩:=F.ex;refine kJ lk hcd S len λA outer s H vs Q E hr hsp=>?_;obtain⟨t,h,q⟩:=hbody Pb A outer s H vs Q E hr hsp;exact⟨t,h.nox,q⟩
theorem Fun.binds{x qual:Str}{st:Stmt}{f:Addr}(F:Fun K x qual st f fd)
 (h:∀(kV doc pm:zg) (an:Option Addr) (Pb ct:zg) (us:List zg),us.length=ps.length->bindArgs (yq x qual (L6 st) (N5 st) (o5 st) .none kV doc pm an Pb ct) ⟨us, []⟩=pure (ps.zip us)):r6 K fd ps []:=by
 obtain⟨oc,od,kV,doc,pm,an,Pb,ct,osl,rfl,lk,hcd⟩:=F.ex;exact .all (h kV doc pm an Pb ct)
theorem ED{x qual:Str}{st:Stmt}{f:Addr}{oc:zg}{od an:Option Addr}{kV doc pm Pb ct:zg}(l:K.lookup f=some ⟨oc,od,.func (yq x qual (L6 st) (N5 st) (o5 st) .none kV doc pm an Pb ct),osl⟩)
 (c:Zk K Pb qual=true) (k:jZ K (.ref f)=true):Fun K x qual st f (yq x qual (L6 st) (N5 st) (o5 st) .none kV doc pm an Pb ct):=⟨⟨oc,od,kV,doc,pm,an,Pb,ct,osl,rfl,l,c⟩,k⟩
end
section
theorem pv(i:Nat)(hN:X.N[i]? =some x)(hv:Vis X.env.scope x)(hd:(x==("__debug__" :Str))=false)
 (hcd:(x==("__classdict__" :Str))=false):PE X (.Name x pos) (y9 i):=NA hN hv hd hcd
end
def Same(H H':Hp):Prop:=∀b o,H b=some o->H' b=some o
theorem Same.refl(H:Hp):Same H H:=λ_ _ h=>h
theorem Same.trans(a:Same H H1)(b:Same H1 H2):Same H H2:=λc o h=>b c o (a c o h)
theorem Same.free(e:Same H H')(h:H' l=Option.none):H l=Option.none:=by
 cases q:H l with
 |none=>rfl
 |some o=>
   rw[e l o q]at h
   cases h
theorem Same.seq{K:zd}{H H':Hp}{a:Addr}(e:Same H H')(h:SqL K H a xs):SqL K H' a xs:=by
 rcases h with(h|⟨o,h⟩)|h
 ·exact .inl (.inl (e _ _ h))
 ·exact .inl (.inr ⟨o,e _ _ h⟩)
 ·exact .inr h
section
variable[DecidableEq κ]
def u3(Nh:List (κ×V))(k:κ):Option V:=(Nh.find? λkv=>decide (kv.1=k)).map (·.2)
def P3(Nh:List (κ×V))(k:κ)(v:V):List (κ×V):=
 if (Nh.any λkv=>decide (kv.1=k))=true then Nh.map (λkv=>if kv.1=k then (kv.1,v)else kv)else Nh++[(k,v)]
def EJ(Nh:List (κ×V))(k:κ):List (κ×V):=Nh.filter λkv=>decide (kv.1≠k)
theorem bE{k:κ}(e:p.1=k):u3 (p::r) k=some p.2:=by simp[u3,xL,e]
theorem wE{k:κ}(e:¬p.1=k):u3 (p::r) k=u3 r k:=by simp[u3,xL,e]
theorem GK(k:κ):∀Nh:List (κ×V),(Nh.any λkv=>decide (kv.1=k))= (u3 Nh k).isSome
 |[]=>rfl
 |p::r=>by
   rw[yN];by_cases e:p.1=k
   ·simp only[bE e,decide_eq_true e,Bool.true_or,Option.isSome_some]
   ·rw[wE e,decide_eq_false e,Bool.false_or];exact GK k r
theorem OM(Nh:List (κ×V))(k:κ)(v:V):(P3 Nh k v).length<=Nh.length+1:=by
 unfold P3;split
 ·rw[zn];lia
 ·rw[za,zp,ye];lia
theorem A6.isSome_eq(r:A6 o u):o.isSome=u.isSome:=by
 cases o with
 |none=>cases u with
   |none=>rfl
   |some _=>exact(show False from r).elim
 |some _=>cases u with
   |none=>exact(show False from r).elim
   |some _=>rfl
theorem A6.getD(r:A6 o u)(rd:u9 d d'):u9 (o.getD d) (u.getD d'):=by
 cases o with
 |none=>cases u with
   |none=>exact rd
   |some _=>exact(show False from r).elim
 |some _=>cases u with
   |none=>exact(show False from r).elim
   |some _=>exact r
theorem KV.val(r:KV Nh vs)(k:κ):A6 (u3 Nh k) (Jz vs k):=by
 unfold KV at r
 induction r with
 |nil=>exact True.intro
 |@cons p q ps qs h t ih=>
   obtain⟨h1,h2⟩:=h;by_cases e:p.1=k
   · have e':q.1=k:=h1.symm.trans e;have b:Jz (q::qs) k=some q.2:=by simp[Jz,xL,e']
     rw[bE e,b];exact h2
   · have e':¬q.1=k:=λz=>e (h1.trans z);have b:Jz (q::qs) k=Jz qs k:=by simp[Jz,xL,e']
     rw[wE e,b];exact ih
theorem KV.any(r:KV Nh vs)(k:κ):(Nh.any λkv=>decide (kv.1=k))=vs.any λkv=>decide (kv.1=k):=by
 unfold KV at r
 induction r with
 |nil=>rfl
 |cons h t ih=>rw[yN,yN,ih,h.1]
theorem KV.repl(r:KV Nh vs)(k:κ)(ry:u9 y u):
 KV (Nh.map λkv=>if kv.1=k then (kv.1,y)else kv) (vs.map λkv=>if kv.1=k then (kv.1,u)else kv):=by
 unfold KV at r ⊢
 induction r with
 |nil=>exact .nil
 |@cons p q ps qs h t ih=>
   rw[zE,zE];refine .cons ?_ ih;obtain⟨h1,h2⟩:=h;by_cases e:p.1=k
   ·rw[if_pos e,if_pos (h1.symm.trans e)];exact⟨h1,ry⟩
   ·rw[if_neg e,if_neg (λz=>e (h1.trans z))];exact⟨h1,h2⟩
theorem KV.put(r:KV Nh vs)(k:κ)(ry:u9 y u):KV (P3 Nh k y) (stored vs k u):=by
 unfold P3 stored;rw[r.any k];by_cases e:(vs.any λkv=>decide (kv.1=k))=true
 ·rw[if_pos e,if_pos e];exact r.repl k ry
 ·rw[if_neg e,if_neg e];exact Paired.snoc r ⟨rfl,ry⟩
theorem KV.drop(r:KV Nh vs)(k:κ):KV (EJ Nh k) (without vs k):=by
 unfold KV at r ⊢;unfold EJ without
 induction r with
 |nil=>exact .nil
 |@cons p q ps qs h t ih=>
   obtain⟨h1,h2⟩:=h;rw[List.filter_cons,List.filter_cons];by_cases e:p.1=k
   · have a:¬decide (p.1≠k)=true:=by simp[e]
     have b:¬decide (q.1≠k)=true:=by simp[h1.symm.trans e]
     rw[if_neg a,if_neg b];exact ih
   · have e':¬q.1=k:=λz=>e (h1.trans z);have a:decide (p.1≠k)=true:=by simp[e]
     have b:decide (q.1≠k)=true:=by simp[e']
     rw[if_pos a,if_pos b];exact .cons ⟨h1,h2⟩ ih
theorem KV.length(r:KV Nh vs):Nh.length=vs.length:=xc r
end
theorem vE(r:u9 (kV k) u):(M4 P w).is k u=true:=by
 cases k with
 |inl i=>obtain⟨t,e⟩:=(show ∃t,u=Value.int i t from r);subst e;exact fW P w i t
 |inr x=>obtain⟨t,e⟩:=(show ∃t,u=Value.str x t from r);subst e;exact Gw P w x t
theorem IK:∀ {ks} {us},t8 (ks.map kV) us->ItemsAre (M4 P w) ks us
 |[],_,r=>by rw[JC]at r;cases r;exact .nil
 |k::ks,_,r=>by
   rw[zE]at r
   cases r with
   |cons h t=>exact .cons (vE h) (IK t)
abbrev KT(H:Hp):List (List Key×V)->List (List Key×Addr×zg)->Prop:=Paired λp q=>p.1=q.1/\H q.2.1=some (.tup (p.1.map kV))/\u9 p.2 q.2.2
theorem KT.val{H:Hp}(r:KT H Nh xs)(k:List Key):A6 (u3 Nh k) ((atKey xs k).map (·.2)):=by
 induction r with
 |nil=>exact True.intro
 |@cons p q ps qs h t ih=>
   obtain⟨h1,_,h2⟩:=h;by_cases e:p.1=k
   · have e':q.1=k:=h1.symm.trans e;have b:atKey (q::qs) k=some q.2:=by simp[atKey,xL,e']
     rw[bE e,b];exact h2
   · have e':¬q.1=k:=λz=>e (h1.trans z);have b:atKey (q::qs) k=atKey qs k:=by simp[atKey,xL,e']
     rw[wE e,b];exact ih
theorem KT.repl(r:KT H Nh xs)(k:List Key)(ry:u9 y u):
 KT H (Nh.map λkv=>if kv.1=k then (kv.1,y)else kv) (xs.map (putAt k u)):=by
 induction r with
 |nil=>exact .nil
 |@cons p q ps qs h t ih=>
   rw[zE,zE];refine .cons ?_ ih;obtain⟨h1,h2,h3⟩:=h;unfold putAt;by_cases e:p.1=k
   ·rw[if_pos e,if_pos (h1.symm.trans e)];exact⟨h1,h2,ry⟩
   ·rw[if_neg e,if_neg (λz=>e (h1.trans z))];exact⟨h1,h2,h3⟩
theorem KT.put(r:KT H Nh xs)(k:List Key)(hb:H b=some (.tup (k.map kV)))(ry:u9 y u):
 KT H (P3 Nh k y) (storedH xs k b u):=by
 have e:(Nh.any λkv=>decide (kv.1=k))= (atKey xs k).isSome:=by rw[GK,(r.val k).isSome_eq,YH]
 unfold P3 storedH;rw[e];by_cases q:(atKey xs k).isSome=true
 ·rw[if_pos q,if_pos q];exact r.repl k ry
 ·rw[if_neg q,if_neg q];exact Paired.snoc r ⟨rfl,hb,ry⟩
theorem KT.keeps(r:KT H Nh xs)(ht:∀b ys,H b=some (.tup ys)->H' b=some (.tup ys)):KT H' Nh xs:=
 Paired.mapP r λ_ _ z=>⟨z.1,ht _ _ z.2.1,z.2.2⟩
section
theorem nI(ok:HOk P w H h)(e:Rd H a u):N8 P w H h a u:=e.ok ok
theorem HE(ok:HOk P w H h)(e:Rd H a (.dK Nh)):Nh.length<=ze/\(a==xo)=false/\∃vs,KV Nh vs/\h.DictOf (M4 P w) a vs:=
 show N8 P w H h a (.dK Nh)from nI ok e
theorem SH(ok:HOk P w H h)(e:H a=some (.dK Nh)):Nh.length<=ze/\(a==xo)=false/\∃vs,KV Nh vs/\h.DictOf (M4 P w) a vs:=HE ok (.inl e)
theorem FD(ok:HOk P w H h)(e:H a=some (.tup (ks.map kV))):(XZ (M4 P w)).is h ks a:=by obtain⟨_,Nj,r,o,h1,h2,n,h3⟩:=(show N8 P w H h a (.tup (ks.map kV))from ok a _ e);exact⟨o,Nj.toArray,n,h1,h2,(Yc h3).1,by simpa using IK r⟩
theorem qG(ok:HOk P w H h)(e:Rd H a (.dT Nh)):Nh.length<=ze/\(a==xo)=false/\
 ∃xs,KT H Nh xs/\h.DictOfH (XZ (M4 P w)) a xs:=by
 obtain⟨z,y,xs,r,o,es,ep,h1,h2,h3,h4,h5⟩:=(show N8 P w H h a (.dT Nh)from nI ok e);refine⟨z,y,xs,r,o,es,ep,h1,h2,h3,h4,λx hx=>?_,h5⟩;have all:∀ {l:List (List Key×V)} {m:List (List Key×Addr×zg)},KT H l m->∀x∈m,(XZ (M4 P w)).is h x.1 x.2.1:=by
  intro l m q
  induction q with
  |nil=>intro x hx;exact nomatch hx
  |@cons p q ps qs hq t ih=>
    intro x hx;rcases zl.mp hx with e|hx
    ·subst e;exact FD ok (by rw[<-hq.1];exact hq.2.1)
    ·exact ih x hx
 exact all r x hx
theorem LS(ok:HOk P w H h)(e:H a=some (.dT Nh)):Nh.length<=ze/\(a==xo)=false/\
 ∃xs,KT H Nh xs/\h.DictOfH (XZ (M4 P w)) a xs:=qG ok (.inl e)
end
def sA(H:Hp)(a:Addr)(y:V)(r:Option V):Prop:=
 (∃Nh k,Rd H a (.dK Nh)/\y=kV k/\r=u3 Nh k)\/∃Nh k b,Rd H a (.dT Nh)/\y= .ref b/\H b=some (.tup (k.map kV))/\r=u3 Nh k
def RD(H:Hp)(a:Addr)(y v:V)(H':Hp):Prop:=
 (∃Nh k,H a=some (.dK Nh)/\y=kV k/\Nh.length<ze/\H'=upd H a (.dK (P3 Nh k v)))\/
 ∃Nh k b,H a=some (.dT Nh)/\y= .ref b/\H b=some (.tup (k.map kV))/\Nh.length<ze/\H'=upd H a (.dT (P3 Nh k v))
theorem sA.k{k:Key}(e:H a=some (.dK Nh)):sA H a (kV k) (u3 Nh k):=.inl ⟨Nh,k,.inl e,rfl,rfl⟩
theorem RD.k{k:Key}(e:H a=some (.dK Nh))(hl:Nh.length<ze):RD H a (kV k) v (upd H a (.dK (P3 Nh k v))):=.inl ⟨Nh,k,e,rfl,hl,rfl⟩
section
theorem Inv.big(I:Inv X Ng U H s):xo<s.heap.objs.size:=by have h:zJ<s.heap.objs.size:=(I.mod.glob.keeps I.bk).lt;exact Xa (by decide) h
theorem OT(hu:A.units+1<Ze)(I:Inv X Ng U H s)(g:sA H a y o)(ry:u9 y u)(h:∀s',Inv X Ng U H s'->Q (.bool o.isSome) s'):
 zv (zD X.prog X.w) A (zY .In u (.ref a)) Q E s:=by
 rcases g with⟨Nh,k,e,ey,l⟩|⟨Nh,k,b,e,ey,eb,l⟩
 ·subst ey;obtain⟨z,hd,vs,rel,dd⟩:=HE I.hok e;refine wpAny_in_of (vE ry) hd dd.mapOf ?_;rw[<-(rel.val k).isSome_eq,<-l];exact h _ (I.tok _)
 · subst ey
   cases (show u=Value.ref b from ry)
   obtain⟨z,hd,xs,rel,dd⟩:=qG I.hok e;refine wpAny_in_heap (Xl hu) (FD I.hok eb) hd dd ?_;have q:=(rel.val k).isSome_eq;rw[YH]at q;rw[<-q,<-l];exact h _ (I.tok _)
theorem bP(hu:A.units+1<Ze)(I:Inv X Ng U H s)(g:sA H a y o)(ry:u9 y u)(h:∀s',Inv X Ng U H s'->Q (.bool (!o.isSome)) s'):
 zv (zD X.prog X.w) A (zY .NotIn u (.ref a)) Q E s:=by
 rcases g with⟨Nh,k,e,ey,l⟩|⟨Nh,k,b,e,ey,eb,l⟩
 ·subst ey;obtain⟨z,hd,vs,rel,dd⟩:=HE I.hok e;refine wpAny_notIn_of (vE ry) hd dd.mapOf ?_;rw[<-(rel.val k).isSome_eq,<-l];exact h _ (I.tok _)
 · subst ey
   cases (show u=Value.ref b from ry)
   obtain⟨z,hd,xs,rel,dd⟩:=qG I.hok e;refine wpAny_notIn_heap (Xl hu) (FD I.hok eb) hd dd ?_;have q:=(rel.val k).isSome_eq;rw[YH]at q;rw[<-q,<-l];exact h _ (I.tok _)
theorem UI(I:Inv X Ng U H s)(mu:Mut (H a))(hs:xU a s.heap h')(he:∃q,h'.get? a=some q)(new:N8 X.prog X.w (upd H a ob) h' a ob):
 Inv X Ng U (upd H a ob) {s with heap:=h',toks:=t'}:=
 I.write mu (.inl rfl) (λb q hb z=>(hs.2 b hb).trans z) he new
theorem BT(z:Nh.length<=ze)(hd:(a==xo)=false)(rel:KV Nh vs)(dd:h'.DictOf (M4 P w) a vs):
 N8 P w H' h' a (.dK Nh):=⟨z,hd,vs,rel,dd⟩
theorem NZ(hu:A.units+1<Ze)(I:Inv X Ng U H s)(g:RD H a y v H')(ry:u9 y u)(rv:u9 v r)(h:∀s',Inv X Ng U H' s'->Q () s'):
 zv (zD X.prog X.w) A (setItem (.ref a) u r) Q E s:=by
 rcases g with⟨Nh,k,e,ey,l,eH⟩|⟨Nh,k,b,e,ey,eb,l,eH⟩
 · subst ey eH;obtain⟨z,hd,vs,rel,dd⟩:=SH I.hok e;have hz:vs.length<=ze:=by rw[<-rel.length];exact z
   have hl:(P3 Nh k v).length<=ze:=by have:=OM Nh k v;lia
   refine wpAny_setItem_pairs (vE ry) dd λh' dd' hs=>h _ ?_;have he:∃q,h'.get? a=some q:=let ⟨q,_,_,hq,_⟩:=dd';⟨q,hq⟩;exact UI I (by rw[e];exact True.intro) hs he (BT hl hd (rel.put k rv) dd')
 · subst ey eH
   cases (show u=Value.ref b from ry)
   obtain⟨z,hd,xs,rel,dd⟩:=LS I.hok e;have hz:xs.length<=ze:=by rw[<-xc rel];exact z
   have hl:(P3 Nh k v).length<=ze:=by have:=OM Nh k v;lia
   refine wpAny_setItem_heap (Xl hu) (FD I.hok eb) dd λh' dd' hs=>h _ ?_;obtain⟨q,es,ep,hq,h2,h3,h4,_,h5⟩:=dd';refine UI I (by rw[e];exact True.intro) hs ⟨q,hq⟩ ⟨hl,hd,_,(rel.put k eb rv).keeps λc ys ec=>?_,q,es,ep,hq,h2,h3,h4,h5⟩;rw[t6 (uW ec e (λz=>nomatch z))];exact ec
end
section
theorem cU(I:Inv X Ng U H s)(e:Rd H a (.dK Nh))(h:∀t s',Inv X Ng U H s'->Q (.int Nh.length t) s'):zv (zD X.prog X.w) A (call (.builtin "len") [.ref a]) Q E s:=by obtain⟨z,hd,vs,rel,dd⟩:=HE I.hok e;refine call_len_dict hd dd (by rw[<-rel.length];rw[sizeLine_eq]at z;lia) ?_;rw[<-rel.length];exact h _ _ (I.tok _)
end
section
end
theorem qP(h:Heap)(hb:xo<h.objs.size):N8 P w H (h.push {cls:=.type "dict",data:=.dict #[]}) h.objs.size (.dK []):=
 ⟨xa _,beq_eq_false_iff_ne.mpr (Ne.symm (zB hb)), [],.nil,Heap.DictOf.new h⟩
def aW:TE:=λ_ H Q=>∀p,H p=none->Q (.ref p) (upd H p (.dK []))
section
theorem Gz:PE X (.Dict [] [] pos) aW:=λNg s U H Q I h=>
 wpAny_Dict_empty ⟨.ref s.heap.objs.size,_,I.laid (λ_ _ q=>zf _ q) (zk _) (qP s.heap I.big),rfl,h _ (I.hok.fresh (zk _))⟩
end
structure M1(X:Cx)(o:Expr)(m:Str)(apos:Pos)(e:Expr)(cpos:Pos):Prop where
 base:Ya o m X.env (eval o X.env)=eval o X.env
 few:((yy cpos (zC [e] X.env)).all (λx=> !x.1)&&(JF cpos (YJ [] X.env)).all (λx=>x.1.isSome)
  && decide (([e]:List Expr).length+([]:List Keyword).length+(if ([]:List Keyword).isEmpty then 0 else 1)<30))=true
 line:(apos.endLine==cpos.line)=true
 trees:yy cpos (zC [e] X.env)= [(false,eval e X.env)]
structure M2(X:Cx)(o:Expr)(m:Str)(apos:Pos)(e f:Expr)(cpos:Pos):Prop where
 base:Ya o m X.env (eval o X.env)=eval o X.env
 few:((yy cpos (zC [e,f] X.env)).all (λx=> !x.1)&&(JF cpos (YJ [] X.env)).all (λx=>x.1.isSome)
  && decide (([e,f]:List Expr).length+([]:List Keyword).length+(if ([]:List Keyword).isEmpty then 0 else 1)<30))=true
 line:(apos.endLine==cpos.line)=true
 trees:yy cpos (zC [e,f] X.env)= [(false,eval e X.env),(false,eval f X.env)]
section
end
section
end
section
end
section
end
section
theorem vU:T4 X (.builtin "len") (λxs H Q=>∃a Nh,xs= [V.ref a]/\H a=some (.dK Nh)/\Q (.int Nh.length) H):=by
 intro Ng s U H xs us Q I r h;obtain⟨a,Nh,rfl,ha,q⟩:=h;obtain⟨u,rfl,ru⟩:=Z1 r
 cases ru
 exact cU I (.inl ha) λt s' I'=>⟨.int Nh.length,H,I',⟨t,rfl⟩,q⟩
end
section
variable[DecidableEq κ]
end
end L2
namespace DL
open PySem PySem.Spec L2
open PyProof.Rows hiding St
inductive D where
 |non|bl (b:Bool)|int (i:Int)|str (x:Str)|tup (l:List D)|ref (i:Nat)|fn (x:Str)|ty (n:String)
inductive DO where
 |lst (l:List D)|rol (l:List D)|dct (l:List (Key×D))|rod (l:List (Key×D))
abbrev DH:=List DO
abbrev DPP:=D->DH->Prop
abbrev DSt:=List (Option D)
structure Wc where
 K:zd
 mg:Str->Option zg
abbrev wc(X:Cx):Wc:=⟨X.K,X.mg⟩
mutual
def f9(c:Wc)(μ:List Addr)(H:Hp):D->V->Prop
 | .non,v=>v= .non
 | .bl b,v=>v= .bl b
 | .int i,v=>v= .int i
 | .str x,v=>v= .str x
 | .ty n,v=>v= .ty n
 | .fn x,v=>∃a,c.mg x=some (.ref a)/\v= .ref a
 | .ref i,v=>∃a,μ[i]? =some a/\v= .ref a
 | .tup l,v=>∃a vs,v= .ref a/\SqT c.K H a vs/\m9 c μ H l vs
def m9(c:Wc)(μ:List Addr)(H:Hp):List D->List V->Prop
 |[],vs=>vs= []
 |d::ds,vs=>∃v r,vs=v::r/\f9 c μ H d v/\m9 c μ H ds r
end
def W5(c:Wc)(μ:List Addr)(H:Hp):List (Key×D)->List (Key×V)->Prop
 |[],Nh=>Nh= []
 |(k,d)::r,Nh=>∃v t,Nh= (k,v)::t/\f9 c μ H d v/\W5 c μ H r t
structure Ext(μ:List Addr)(H:Hp)(X1:List Addr)(H':Hp):Prop where
 pre:μ <+:X1
 new:∀a∈X1,a∉μ->H a=none
 oth:∀b o,H b=some o->b∉μ->H' b=some o
 tup:∀b xs,H b=some (.tup xs)->H' b=some (.tup xs)
 frz:∀b o u,H b=some (.frz o u)->H' b=some (.frz o u)
theorem Ext.refl(μ:List Addr)(H:Hp):Ext μ H μ H:=⟨Xh _,λa h n=>absurd h n,λ_ _ h _=>h,λ_ _ h=>h,λ_ _ _ h=>h⟩
theorem Ext.trans(a:Ext μ H X0 H1)(b:Ext X0 H1 WX H2):Ext μ H WX H2 where
 pre:=a.pre.trans b.pre
 new:=λx h n=>by
  by_cases h1:x∈X0
  ·exact a.new x h1 n
  · have e1:=b.new x h h1;rcases e:H x with _|o
    ·rfl
    ·rw[a.oth x o e n]at e1;exact QD e1
 oth:=λx o e n=>by refine b.oth x o (a.oth x o e n) λh1=>?_;have:=a.new x h1 n;rw[e]at this;exact QD this
 tup:=λx xs e=>b.tup x xs (a.tup x xs e)
 frz:=λx o u e=>b.frz x o u (a.frz x o u e)
theorem Ext.lay(h:H p=none)(o:HO):Ext μ H μ (upd H p o):=
 ⟨Xh _,λa h n=>absurd h n,λb o' q _=>by rw[t6 (u6 q h)];exact q,λb xs q=>by rw[t6 (u6 q h)];exact q,λb o' u q=>by rw[t6 (u6 q h)];exact q⟩
theorem Ext.add(h:H p=none)(o:HO):Ext μ H (μ++[p]) (upd H p o):=
 ⟨List.prefix_append _ _,λa ha n=>by
  rcases jw.mp ha with z|z
  ·exact absurd z n
  ·rw[zR.mp z];exact h,λb o' q _=>by rw[t6 (u6 q h)];exact q,λb xs q=>by rw[t6 (u6 q h)];exact q,λb o' u q=>by rw[t6 (u6 q h)];exact q⟩
theorem Ext.mut(hp:p∈μ)(h:H p=some o')(n1:∀xs,o'≠ .tup xs)(n2:∀o u,o'≠ .frz o u)(o:HO):Ext μ H μ (upd H p o):=
 ⟨Xh _,λa h n=>absurd h n,λb o2 q n=>by rw[t6 (λe=>n (by rw[e];exact hp))];exact q,λb xs q=>by
  rw[t6 (λe=>by subst e;rw[h]at q;cases q;exact n1 _ rfl)];exact q,
  λb oo u q=>by rw[t6 (λe=>by subst e;rw[h]at q;cases q;exact n2 _ _ rfl)];exact q⟩
theorem Ext.sqT{K:zd}(k:Ext μ H X1 H')(h:SqT K H a xs):SqT K H' a xs:=by
 rcases h with(h|⟨o,h⟩)|h
 ·exact .inl (.inl (k.tup _ _ h))
 ·exact .inl (.inr ⟨o,k.frz _ _ _ h⟩)
 ·exact .inr h
def RoL(K:zd)(H:Hp)(a:Addr)(xs:List V):Prop:=(∃o,H a=some (.frz o (.lst xs)))\/(SqL K (λ_=>none) a xs)
theorem sW{K:zd}(h:SqL K (λ_=>none) a xs):SqL K H a xs:=by
 rcases h with(h|⟨o,h⟩)|h
 ·exact u5 h
 ·exact u5 h
 ·exact .inr h
theorem RoL.sq{K:zd}(h:RoL K H a xs):SqL K H a xs:=by
 rcases h with⟨o,h⟩|h
 ·exact .inl (.inr ⟨o,h⟩)
 ·exact sW h
theorem Ext.roL{K:zd}(k:Ext μ H X1 H')(h:RoL K H a xs):RoL K H' a xs:=by
 rcases h with⟨o,h⟩|h
 ·exact .inl ⟨o,k.frz _ _ _ h⟩
 ·exact .inr h
section
variable{μ X1:List Addr}
theorem IH(h:μ <+:X1){i:Nat}(e:μ[i]? =some a):X1[i]? =some a:=by
 obtain⟨t,rfl⟩:=h;have:i<μ.length:=by
  rcases Yd i μ.length with q|q
  ·exact q
  ·rw[jC q]at e;exact u5 e
 rw[zI this];exact e
mutual
theorem f9.mono(x:Ext μ H X1 H'):∀ {d} {v},f9 c μ H d v->f9 c X1 H' d v
 | .non,_,h=>h
 | .bl _,_,h=>h
 | .int _,_,h=>h
 | .str _,_,h=>h
 | .ty _,_,h=>h
 | .fn _,_,h=>h
 | .ref i,v,h=>by unfold f9 at h ⊢;obtain⟨a,e,r⟩:=h;exact⟨a,IH x.pre e,r⟩
 | .tup l,v,h=>by unfold f9 at h ⊢;obtain⟨a,vs,e,q,r⟩:=h;exact⟨a,vs,e,x.sqT q,m9.mono x r⟩
theorem m9.mono(x:Ext μ H X1 H'):∀ {l} {vs},m9 c μ H l vs->m9 c X1 H' l vs
 |[],_,h=>h
 |d::ds,vs,h=>by unfold m9 at h ⊢;obtain⟨v,r,e,q,t⟩:=h;exact⟨v,r,e,f9.mono x q,m9.mono x t⟩
end
theorem W5.mono(x:Ext μ H X1 H'):∀ {l} {vs},W5 c μ H l vs->W5 c X1 H' l vs
 |[],_,h=>h
 |(_,d)::ds,vs,h=>by obtain⟨v,r,e,q,t⟩:=h;exact⟨v,r,e,f9.mono x q,W5.mono x t⟩
theorem m9.nil:m9 c μ H [] []:=rfl
theorem m9.cons(h:f9 c μ H d v)(t:m9 c μ H ds vs):m9 c μ H (d::ds) (v::vs):=⟨v,vs,rfl,h,t⟩
theorem m9.length:∀ {l} {vs},m9 c μ H l vs->l.length=vs.length
 |[],_,h=>by cases h;rfl
 |_::_,_,h=>by obtain⟨v,r,rfl,_,t⟩:=h;simp[m9.length t]
theorem m9.get:∀ {l} {vs} {i:Nat} {d},m9 c μ H l vs->l[i]? =some d->∃v,vs[i]? =some v/\f9 c μ H d v
 |[],_,_,_,_,e=>by simp at e
 |_::_,_,0,_,h,e=>by obtain⟨v,r,rfl,q,t⟩:=h;simp at e;subst e;exact⟨v,rfl,q⟩
 |_::_,_,i+1,_,h,e=>by obtain⟨v,r,rfl,q,t⟩:=h;simp at e;obtain⟨w,h1,h2⟩:=m9.get t e;exact⟨w,by simpa using h1,h2⟩
theorem m9.append:∀ {l l'} {vs Pd},m9 c μ H l vs->m9 c μ H l' Pd->m9 c μ H (l++l') (vs++Pd)
 |[],_,_,_,h,t=>by cases h;exact t
 |_::_,_,_,_,h,t=>by obtain⟨v,r,rfl,q,u⟩:=h;exact⟨v,r++_,rfl,q,m9.append u t⟩
theorem m9.take:∀n {l} {vs},m9 c μ H l vs->m9 c μ H (l.take n) (vs.take n)
 |0,_,_,_=>rfl
 |_+1, [],_,h=>by cases h;rfl
 |n+1,_::_,_,h=>by obtain⟨v,r,rfl,q,u⟩:=h;exact⟨v,r.take n,rfl,q,m9.take n u⟩
theorem m9.drop:∀n {l} {vs},m9 c μ H l vs->m9 c μ H (l.drop n) (vs.drop n)
 |0,_,_,h=>h
 |_+1, [],_,h=>by cases h;rfl
 |n+1,_::_,_,h=>by obtain⟨v,r,rfl,q,u⟩:=h;exact m9.drop n u
theorem m9.set(hv:f9 c μ H d v):∀n {l} {vs},m9 c μ H l vs->m9 c μ H (l.set n d) (vs.set n v)
 |_, [],_,h=>by cases h;rfl
 |0,_::_,_,h=>by obtain⟨w,r,rfl,q,u⟩:=h;exact⟨v,r,rfl,hv,u⟩
 |n+1,_::_,_,h=>by obtain⟨w,r,rfl,q,u⟩:=h;exact⟨w,r.set n v,rfl,q,m9.set hv n u⟩
theorem m9.reverse:∀ {l} {vs},m9 c μ H l vs->m9 c μ H l.reverse vs.reverse
 |[],_,h=>by cases h;rfl
 |_::_,_,h=>by obtain⟨w,r,rfl,q,u⟩:=h;simp only[YU];exact m9.append (m9.reverse u) ⟨w, [],rfl,q,rfl⟩
theorem m9.dropLast(h:m9 c μ H l vs):m9 c μ H l.dropLast vs.dropLast:=by rw[JO,JO,h.length];exact h.take _
def y4:Option DO->Prop
 |some (.rol _)=>True
 |some (.rod _)=>True
 |_=>False
def l5(c:Wc)(μ:List Addr)(H:Hp)(a:Addr):DO->Prop
 | .lst l=>∃vs,H a=some (.lst vs)/\m9 c μ H l vs
 | .rol l=>∃vs,RoL c.K H a vs/\m9 c μ H l vs
 | .dct l=>∃Nh,H a=some (.dK Nh)/\W5 c μ H l Nh
 | .rod l=>∃Nh o,H a=some (.frz o (.dK Nh))/\W5 c μ H l Nh
structure o8(c:Wc)(μ:List Addr)(G:DH)(H:Hp):Prop where
 len:μ.length=G.length
 inj:∀(i j:Nat) (a:Addr),μ[i]? =some a->μ[j]? =some a->i=j\/y4 G[i]? \/y4 G[j]?
 obj:∀(i:Nat) (o:DO) (a:Addr),G[i]? =some o->μ[i]? =some a->l5 c μ H a o
theorem lt_of_get{α:Type}{l:List α}{x:α}(e:l[i]? =some x):i<l.length:=by
 rcases Yd i l.length with q|q
 ·exact q
 ·rw[jC q]at e;exact u5 e
theorem o8.at(h:o8 c μ G H){i:Nat}(e:G[i]? =some o):∃a,μ[i]? =some a/\l5 c μ H a o:=by
 have q:i<μ.length:=by rw[h.len];exact lt_of_get e
 exact⟨μ[i],zH q,h.obj i o _ e (zH q)⟩
theorem l5.mono(x:Ext μ H X1 H')(h:l5 c μ H a o)(e:H' a=H a\/y4 (some o)):l5 c X1 H' a o:=by
 rcases o with l|l|l|l
 ·
   obtain⟨vs,q,r⟩:=h;rcases e with e|e
   ·exact⟨vs,e.trans q,r.mono x⟩
   ·exact e.elim
 ·obtain⟨vs,q,r⟩:=h;exact⟨vs,x.roL q,r.mono x⟩
 ·
   obtain⟨vs,q,r⟩:=h;rcases e with e|e
   ·exact⟨vs,e.trans q,r.mono x⟩
   ·exact e.elim
 ·obtain⟨vs,o,q,r⟩:=h;exact⟨vs,o,x.frz _ _ _ q,r.mono x⟩
theorem l5.some_of(h:l5 c μ H a o)(n:¬y4 (some o)):∃u,H a=some u/\(∀xs,u≠ .tup xs)/\∀o' u',u≠ .frz o' u':=by
 rcases o with l|l|l|l
 ·obtain⟨vs,q,_⟩:=h;exact⟨_,q,(λ_ z=>nomatch z),(λ_ _ z=>nomatch z)⟩
 ·exact(n trivial).elim
 ·obtain⟨vs,q,_⟩:=h;exact⟨_,q,(λ_ z=>nomatch z),(λ_ _ z=>nomatch z)⟩
 ·exact(n trivial).elim
theorem o8.same(h:o8 c μ G H)(k:Ext μ H μ H')(e:∀a o,H a=some o->(∀xs,o≠ .tup xs)->H' a=some o):o8 c μ G H':=
 ⟨h.len,h.inj,λi o a g m=>by
  have q:=h.obj i o a g m;by_cases hr:y4 (some o)
  ·exact q.mono k (.inr hr)
  ·obtain⟨u,e1,n1,n2⟩:=q.some_of hr;exact q.mono k (.inl ((e a u e1 n1).trans e1.symm))⟩
theorem o8.new{p:Addr}(h:o8 c μ G H)(hp:H p=none)(ho:l5 c (μ++[p]) (upd H p u) p o):o8 c (μ++[p]) (G++[o]) (upd H p u):=by
 have k:Ext μ H (μ++[p]) (upd H p u):=Ext.add hp u;have old:∀(i:Nat) (a:Addr),i<μ.length->(μ++[p])[i]? =some a->μ[i]? =some a:=λi a hi e=>by rw[zI hi]at e;exact e
 refine⟨by simp[h.len],λi j a ei ej=>?_,λi o' a g m=>?_⟩
 · have li:=lt_of_get ei;have lj:=lt_of_get ej;simp only[za,Yj]at li lj;by_cases hi:i<μ.length
   · have mi:=old i a hi ei;have gi:(G++[o])[i]? =G[i]? :=zI (by rw[<-h.len];exact hi);by_cases hj:j<μ.length
     ·have mj:=old j a hj ej;have gj:(G++[o])[j]? =G[j]? :=zI (by rw[<-h.len];exact hj);rw[gi,gj];exact h.inj i j a mi mj
     · -- j is the new one:a=p
       have ej':j=μ.length:=by lia
       subst ej';have ea:a=p:=by simpa using ej.symm
       subst ea;right;left;rw[gi];have hg:i<G.length:=by rw[<-h.len];exact hi
       have q:=h.obj i G[i] a (zH hg) mi;rw[zH hg];refine xt λn=>?_;obtain⟨u',e1,_⟩:=q.some_of n;rw[hp]at e1;exact u5 e1
   · have ei':i=μ.length:=by lia
     by_cases hj:j<μ.length
     · have mj:=old j a hj ej;have gj:(G++[o])[j]? =G[j]? :=zI (by rw[<-h.len];exact hj);subst ei';have ea:a=p:=by simpa using ei.symm
       subst ea;right;right;rw[gj];have hg:j<G.length:=by rw[<-h.len];exact hj
       have q:=h.obj j G[j] a (zH hg) mj;rw[zH hg];refine xt λn=>?_;obtain⟨u',e1,_⟩:=q.some_of n;rw[hp]at e1;exact u5 e1
     ·left;lia
 · have li:=lt_of_get m;simp only[za,Yj]at li;by_cases hi:i<μ.length
   · have mi:=old i a hi m;rw[zI (by rw[<-h.len];exact hi)]at g;have q:=h.obj i o' a g mi;by_cases hr:y4 (some o')
     ·exact q.mono k (.inr hr)
     ·obtain⟨u',e1,_⟩:=q.some_of hr;exact q.mono k (.inl (t6 (u6 e1 hp)))
   · have ei':i=μ.length:=by lia
     subst ei';have ea:a=p:=by simpa using m.symm
     subst ea;rw[h.len]at g;have eo:o'=o:=by simpa using g.symm
     subst eo;exact ho
theorem o8.set{o o':DO}{u:HO}(h:o8 c μ G H)(g:G[i]? =some o)(n:¬y4 (some o))(m:μ[i]? =some a)(k:Ext μ H μ (upd H a u))(n':¬y4 (some o'))(ho:l5 c μ (upd H a u) a o'):o8 c μ (G.set i o') (upd H a u):=by
 have hi:i<G.length:=lt_of_get g;have get:∀j,(G.set i o')[j]? =if i=j then some o' else G[j]? :=λj=>by
  rw[YV];by_cases e:i=j
  ·subst e;simp[hi]
  ·simp[e]
 refine⟨by simp[h.len],λj l b ej el=>?_,λj o2 b gj mj=>?_⟩
 · rcases h.inj j l b ej el with e|e|e
   ·exact .inl e
   · by_cases ij:i=j
     ·subst ij;rw[g]at e;exact(n e).elim
     ·right;left;rw[get,if_neg ij];exact e
   · by_cases ij:i=l
     ·subst ij;rw[g]at e;exact(n e).elim
     ·right;right;rw[get,if_neg ij];exact e
 · rw[get]at gj;by_cases ij:i=j
   · subst ij;rw[if_pos rfl]at gj
     cases gj
     rw[m]at mj
     cases mj
     exact ho
   · rw[if_neg ij]at gj;have q:=h.obj j o2 b gj mj;by_cases hr:y4 (some o2)
     ·exact q.mono k (.inr hr)
     · have nb:b≠a:=λe=>by
        subst e;rcases h.inj i j b m mj with e|e|e
        ·exact ij e
        ·rw[g]at e;exact n e
        ·rw[gj]at e;exact hr e
       exact q.mono k (.inl (t6 nb))
def w5(c:Wc)(μ:List Addr)(H:Hp)(X9:DSt)(U:St):Prop:=X9.length=U.length/\∀(i:Nat) (d:D),X9[i]? =some (some d)->∃v,U[i]? =some (some v)/\f9 c μ H d v
theorem w5.mono(x:Ext μ H X1 H')(h:w5 c μ H X9 U):w5 c X1 H' X9 U:=
 ⟨h.1,λi d e=>let ⟨v,a,b⟩:=h.2 i d e;⟨v,a,b.mono x⟩⟩
theorem w5.put(h:w5 c μ H X9 U)(r:f9 c μ H d v)(i:Nat):w5 c μ H (X9.set i (some d)) (U.set i (some v)):=by
 refine⟨by simp[h.1],λj d' e=>?_⟩;rw[YV]at e ⊢;by_cases ij:i=j
 · subst ij;rw[if_pos rfl]at e ⊢;rw[<-h.1];split at e
   · rename_i hl;rw[if_pos hl]
     cases e
     exact⟨v,rfl,r⟩
   ·exact u5 e
 ·rw[if_neg ij]at e ⊢;exact h.2 j d' e
end
def M(α:Type):=DH->Option (Except Str α×DH)
namespace M
def pure{α:Type}(a:α):M α:=λG=>some (.ok a,G)
def bind{α β:Type}(m:M α)(f:α->M β):M β:=λG=>match m G with
 |none=>none
 |some (.ok a,G1)=>f a G1
 |some (.error x,G1)=>some (.error x,G1)
def stuck{α:Type}:M α:=λ_=>none
end M
instance:Monad M:={pure:=M.pure,bind:=M.bind}
theorem M.bind_eq(m:M α)(f:α->M β)(G:DH):(m >>= f) G=match m G with
 |none=>none
 |some (.ok a,G1)=>f a G1
 |some (.error x,G1)=>some (.error x,G1):=rfl
theorem M.bind_ok{f:α->M β}(h:m G=some (.ok a,G1)):(m >>= f) G=f a G1:=by rw[M.bind_eq,h]
theorem M.bind_assoc(m:M α)(f:α->M β)(g:β->M γ):((m >>= f) >>= g)= (m >>= λa=>f a >>= g):=by
 funext G;simp only[M.bind_eq];rcases m G with _|p
 ·rfl
 ·obtain⟨r,G1⟩:=p;cases r<;>rfl
abbrev XC:=Str->List Addr->DH->Hp->Prop
def ZF:XC:=λ_ _ _ _=>False
def c7{α:Type}(c:Wc)(Z:XC)(μ:List Addr)(H:Hp)(r:Option (Except Str α×DH))(K:α->List Addr->DH->Hp->Prop):Prop:=
 match r with
 |none=>False
 |some (.ok a,G')=>∀ X1 H',Ext μ H X1 H'->o8 c X1 G' H'->K a X1 G' H'
 |some (.error x,G')=>∀ X1 H',Ext μ H X1 H'->o8 c X1 G' H'->Z x X1 G' H'
section
theorem c7.mono{K K':α->List Addr->DH->Hp->Prop}(h:c7 c Z μ H r K)
 (k:∀a X1 G' H',Ext μ H X1 H'->o8 c X1 G' H'->K a X1 G' H'->K' a X1 G' H'):c7 c Z μ H r K':=by
 match r,h with
 |some (.ok a,G'),h=>exact λX1 H' p e=>k a X1 G' H' p e (h X1 H' p e)
 |some (.error x,G'),h=>exact h
theorem c7.from{K:α->List Addr->DH->Hp->Prop}(h:c7 c Z μ H r K)(p:Ext μ H X1 H'):c7 c Z X1 H' r K:=by
 match r,h with
 |some (.ok a,G'),h=>exact λWX H2 p2 e=>h WX H2 (p.trans p2) e
 |some (.error x,G'),h=>exact λWX H2 p2 e=>h WX H2 (p.trans p2) e
theorem c7.bind{m:M α}{K:β->List Addr->DH->Hp->Prop}(h:c7 c Z μ H ((m >>= f) G) K):
 c7 c Z μ H (m G) (λa X1 G' H'=>c7 c Z X1 H' (f a G') K):=by
 rw[M.bind_eq]at h
 match m G,h with
 |some (.ok a,G'),h=>exact λX1 H' p e=>c7.from h p
 |some (.error x,G'),h=>exact h
theorem c7.ok{K:α->List Addr->DH->Hp->Prop}(h:c7 c Z μ H (some (.ok a,G)) K)(e:o8 c μ G H):K a μ G H:=h μ H (Ext.refl _ _) e
end
inductive Fl where
 |nx (U:DSt)|rt (d:D)|bk (U:DSt)|ct (U:DSt)
section
variable(c:Wc)(Z:XC)
def v3(f:DSt->M D):TE:=λU H Q=>∃X9 μ G,w5 c μ H X9 U/\o8 c μ G H/\c7 c Z μ H (f X9 G) λd X1 _ H'=>∀v,f9 c X1 H' d v->Q v H'
def N9(f:DSt->M Bool):TT:=λU H Q=>∃X9 μ G,w5 c μ H X9 U/\o8 c μ G H/\c7 c Z μ H (f X9 G) λb X1 _ H'=>Q b H'
def aC(f:DSt->M (List D)):TA:=λU H Q=>∃X9 μ G,w5 c μ H X9 U/\o8 c μ G H/\c7 c Z μ H (f X9 G) λds X1 _ H'=>∀vs,m9 c X1 H' ds vs->Q vs H'
def F7(E:y6)(fl:Fl)(μ:List Addr)(H:Hp):Prop:=match fl with
 | .nx X9=>∀ U,w5 c μ H X9 U->E.nx U H
 | .rt d=>∀v,f9 c μ H d v->E.rt v H
 | .bk X9=>∀ U,w5 c μ H X9 U->E.bk U H
 | .ct X9=>∀ U,w5 c μ H X9 U->E.ct U H
def w8(f:DSt->M Fl):TS:=λE U H=>∃X9 μ G,w5 c μ H X9 U/\o8 c μ G H/\c7 c Z μ H (f X9 G) λfl X1 _ H'=>F7 c E fl X1 H'
end
theorem v3.elim{P:Prop}{H:Hp}{Q:VK}(h:v3 c Z f U H Q)(k:∀X9 μ G,w5 c μ H X9 U->o8 c μ G H->c7 c Z μ H (f X9 G) (λd X1 _ H'=>∀v,f9 c X1 H' d v->Q v H')->P):P:=by obtain⟨e0,e1,e2,e3,e4,e5⟩:=h;exact k e0 e1 e2 e3 e4 e5
theorem N9.elim{P:Prop}{U:St}{H:Hp}(h:N9 c Z f U H Q)(k:∀X9 μ G,w5 c μ H X9 U->o8 c μ G H->c7 c Z μ H (f X9 G) (λb X1 _ H'=>Q b H')->P):P:=by obtain⟨e0,e1,e2,e3,e4,e5⟩:=h;exact k e0 e1 e2 e3 e4 e5
theorem aC.elim{P:Prop}{U:St}{H:Hp}(h:aC c Z f U H Q)(k:∀X9 μ G,w5 c μ H X9 U->o8 c μ G H->c7 c Z μ H (f X9 G) (λds X1 _ H'=>∀vs,m9 c X1 H' ds vs->Q vs H')->P):P:=by obtain⟨e0,e1,e2,e3,e4,e5⟩:=h;exact k e0 e1 e2 e3 e4 e5
theorem w8.elim{P:Prop}{U:St}{H:Hp}(h:w8 c Z f E U H)(k:∀X9 μ G,w5 c μ H X9 U->o8 c μ G H->c7 c Z μ H (f X9 G) (λfl X1 _ H'=>F7 c E fl X1 H')->P):P:=by obtain⟨e0,e1,e2,e3,e4,e5⟩:=h;exact k e0 e1 e2 e3 e4 e5
structure DE(X:Cx)(Z:XC)(e:Expr)(f:DSt->M D):Prop where
 h:PE X e (v3 (wc X) Z f)
structure DT(X:Cx)(Z:XC)(e:Expr)(f:DSt->M Bool):Prop where
 h:PT X e (N9 (wc X) Z f)
structure DA(X:Cx)(Z:XC)(e:List Expr)(f:DSt->M (List D)):Prop where
 h:PA X e (aC (wc X) Z f)
structure DS(X:Cx)(Z:XC)(e:Stmt)(f:DSt->M Fl):Prop where
 h:PS X e (w8 (wc X) Z f)
structure DB(X:Cx)(Z:XC)(e:List Stmt)(f:DSt->M Fl):Prop where
 h:PSs X e (w8 (wc X) Z f)
theorem PE.mono(h:PE X e t)(k:∀ U H Q,t' U H Q->t U H Q):PE X e t':=λNg s U H Q I q=>h Ng s U H Q I (k U H Q q)
theorem PT.mono(h:PT X e t)(k:∀ U H Q,t' U H Q->t U H Q):PT X e t':=λNg s U H Q I q=>h Ng s U H Q I (k U H Q q)
theorem PW.mono(h:PW X e t)(k:∀ U H Q,t' U H Q->t U H Q):PW X e t':=λwh Ng s U H Q I q=>h wh Ng s U H Q I (k U H Q q)
theorem PA.mono(h:PA X e t)(k:∀ U H Q,t' U H Q->t U H Q):PA X e t':=λpos Ng s U H Q I q=>h pos Ng s U H Q I (k U H Q q)
theorem PS.mono(h:PS X e t)(k:∀E U H,t' E U H->t E U H):PS X e t':=λNg s U H E I q=>h Ng s U H E I (k E U H q)
theorem PSs.mono(h:PSs X e t)(k:∀E U H,t' E U H->t E U H):PSs X e t':=λNg s U H E I q=>h Ng s U H E I (k E U H q)
theorem DE.of(h:PE X e t)(k:∀ U H Q,v3 (wc X) Z f U H Q->t U H Q):DE X Z e f:=⟨PE.mono h k⟩
theorem DT.of(h:PT X e t)(k:∀ U H Q,N9 (wc X) Z f U H Q->t U H Q):DT X Z e f:=⟨PT.mono h k⟩
theorem DA.of(h:PA X e t)(k:∀ U H Q,aC (wc X) Z f U H Q->t U H Q):DA X Z e f:=⟨PA.mono h k⟩
theorem DS.of(h:PS X e t)(k:∀E U H,w8 (wc X) Z f E U H->t E U H):DS X Z e f:=⟨PS.mono h k⟩
theorem DB.of(h:PSs X e t)(k:∀E U H,w8 (wc X) Z f E U H->t E U H):DB X Z e f:=⟨PSs.mono h k⟩
end DL
namespace DL
open PySem PySem.Spec L2
open PyProof.Rows hiding St
def K1:Expr->Bool
 | .Starred ..=>false
 |_=>true
theorem S0(h:K1 e=true):zC (e::es) env= (false,eval e env)::zC es env:=by
 cases e<;>first
  |rfl
  |exact cC h
theorem LD(h:K1 e=true):zC [e] env= [(false,eval e env)]:=S0 h
theorem Hj(h:K1 a=true)(h':K1 b=true):zC [a,b] env= [(false,eval a env),(false,eval b env)]:=by rw[S0 h,LD h']
abbrev Fe:=DSt->M D
def R5(i:Nat):Fe:=λU G=>match U[i]? with
 |some (some d)=>some (.ok d,G)
 |_=>none
def cE(d:D):Fe:=λ_=>pure d
def binE(o:D->D->M D)(a b:Fe):Fe:=λU=>do o (<-a U) (<-b U)
def unE(o:D->M D)(a:Fe):Fe:=λU=>do o (<-a U)
def F0:DSt->M (List D):=λ_=>pure []
def y0(a:Fe)(r:DSt->M (List D)):DSt->M (List D):=λU=>do
 let x <-a U
 let xs <-r U
 pure (x::xs)
def L0(F:List D->M D)(a:DSt->M (List D)):Fe:=λU=>do F (<-a U)
def PD:D->M Bool
 | .bl b=>pure b
 |_=>M.stuck
def ifE(t:DSt->M Bool)(a b:Fe):Fe:=λU=>do if <-t U then a U else b U
section
variable(c:Wc)(Z:XC)
def y8(o:D->D->M D):R2:=λx y H Q=>∃dx dy μ G,f9 c μ H dx x/\f9 c μ H dy y/\o8 c μ G H/\c7 c Z μ H (o dx dy G) λd X1 _ H'=>∀v,f9 c X1 H' d v->Q v H'
def KG(o:D->M D):V->Hp->VK->Prop:=λx H Q=>∃dx μ G,f9 c μ H dx x/\o8 c μ G H/\c7 c Z μ H (o dx G) λd X1 _ H'=>∀v,f9 c X1 H' d v->Q v H'
def pC(F:List D->M D):List V->Hp->VK->Prop:=λxs H Q=>∃ds μ G,m9 c μ H ds xs/\o8 c μ G H/\c7 c Z μ H (F ds G) λd X1 _ H'=>∀v,f9 c X1 H' d v->Q v H'
end
theorem y8.elim{P:Prop}{x:V}{y:V}{Q:VK}(h:y8 c Z o x y H Q)(k:∀dx dy μ G,f9 c μ H dx x->f9 c μ H dy y->o8 c μ G H->c7 c Z μ H (o dx dy G) (λd X1 _ H'=>∀v,f9 c X1 H' d v->Q v H')->P):P:=by obtain⟨e0,e1,e2,e3,e4,e5,e6,e7⟩:=h;exact k e0 e1 e2 e3 e4 e5 e6 e7
theorem KG.elim{P:Prop}{x:V}{Q:VK}(h:KG c Z o x H Q)(k:∀dx μ G,f9 c μ H dx x->o8 c μ G H->c7 c Z μ H (o dx G) (λd X1 _ H'=>∀v,f9 c X1 H' d v->Q v H')->P):P:=by obtain⟨e0,e1,e2,e3,e4,e5⟩:=h;exact k e0 e1 e2 e3 e4 e5
theorem pC.elim{P:Prop}{H:Hp}{Q:VK}(h:pC c Z F xs H Q)(k:∀ds μ G,m9 c μ H ds xs->o8 c μ G H->c7 c Z μ H (F ds G) (λd X1 _ H'=>∀v,f9 c X1 H' d v->Q v H')->P):P:=by obtain⟨e0,e1,e2,e3,e4,e5⟩:=h;exact k e0 e1 e2 e3 e4 e5
structure OpD(X:Cx)(Z:XC)(f:zg->zg->Sem zg)(o:D->D->M D):Prop where
 h:OpR X f (y8 (wc X) Z o)
structure UnD(X:Cx)(Z:XC)(f:zg->Sem zg)(o:D->M D):Prop where
 h:UnR X f (KG (wc X) Z o)
structure U7(X:Cx)(Z:XC)(f:zg)(F:List D->M D):Prop where
 h:T4 X f (pC (wc X) Z F)
theorem OpR.mono(h:OpR X f r)(k:∀x y H Q,r' x y H Q->r x y H Q):OpR X f r':=λNg s U H x y v u Q I rx ry q=>h Ng s U H x y v u Q I rx ry (k x y H Q q)
theorem T4.mono(h:T4 X f r)(k:∀xs H Q,r' xs H Q->r xs H Q):T4 X f r':=λNg s U H xs us Q I rx q=>h Ng s U H xs us Q I rx (k xs H Q q)
theorem OpD.of(h:OpR X f r)(k:∀x y H Q,y8 (wc X) Z o x y H Q->r x y H Q):OpD X Z f o:=⟨OpR.mono h k⟩
theorem U7.of(h:T4 X f r)(k:∀xs H Q,pC (wc X) Z F xs H Q->r xs H Q):U7 X Z f F:=⟨T4.mono h k⟩
section
variable{X:Cx}{Z:XC}{a b c e:Expr}{pos:Pos}
theorem mE(U:St)(H:Hp)(Q:VK)(h:v3 cc Z (binE o fa fb) U H Q):tOp (y8 cc Z o) (v3 cc Z fa) (v3 cc Z fb) U H Q:=by obtain⟨X9,μ,G,s,h,p⟩:=h;exact⟨X9,μ,G,s,h,(c7.bind p).mono λx X0 G1 H1 x' h1 p1 v rv=>⟨X9,X0,G1,s.mono x',h1,(c7.bind p1).mono λy WX G2 H2 x2 h2 p2 u ru=>⟨x,y,WX,G2,rv.mono x2,ru,h2,p2⟩⟩⟩
theorem ww(h:PE X e (y9 i)):DE X Z e (R5 i):=DE.of h λU H Q Nk=>Nk.elim λX9 μ G s h p=>by
 delta R5 at p;rcases he:X9[i]? with _|_|d
 ·rw[he]at p;exact p.elim
 ·rw[he]at p;exact p.elim
 ·rw[he]at p;obtain⟨v,e1,r⟩:=s.2 i d he;exact⟨v,e1,c7.ok p h v r⟩
theorem cD(h:PE X e (tC v))(r:∀ μ H,f9 (wc X) μ H d v):DE X Z e (cE d):=DE.of h λU H Q Nk=>Nk.elim λX9 μ G s h p=>c7.ok p h v (r _ _)
theorem Nc{i j pos}:DE X Z (.Constant (.int i) j pos) (cE (.int i)):=cD MM λ_ _=>by unfold f9;rfl
theorem wY{i j pos}:DE X Z (.Constant (.bool i) j pos) (cE (.bl i)):=cD Lx λ_ _=>by unfold f9;rfl
theorem Fv{i j pos}:DE X Z (.Constant (.str i) j pos) (cE (.str i)):=cD wP λ_ _=>by unfold f9;rfl
theorem lW(i:Nat)(hN:X.N[i]? =some x)(hv:Vis X.env.scope x)(hd:(x==("__debug__" :Str))=false)
 (hcd:(x==("__classdict__" :Str))=false):DE X Z (.Name x pos) (R5 i):=ww (NA hN hv hd hcd)
theorem wx(ho:OpD X Z (yg op) o)(ha:DE X Z a fa)(hb:DE X Z b fb):DE X Z (.BinOp a op b pos) (binE o fa fb):=
 DE.of (dG ho.h ha.h hb.h) mE
theorem Lw(ho:OpD X Z (zY op) o)(ha:DE X Z a fa)(hb:DE X Z b fb)(hm:Xd op b=false):DE X Z (.Compare a [op] [b] pos) (binE o fa fb):=
 DE.of (LP ho.h ha.h hb.h hm) mE
theorem Cp(ho:UnD X Z (unaryOp op) o)(ha:DE X Z a fa):DE X Z (.UnaryOp op a pos) (unE o fa):=
 DE.of (Km ho.h ha.h) λU H Q Nk=>Nk.elim λX9 μ G s h p=>⟨X9,μ,G,s,h,(c7.bind p).mono λx X0 G1 H1 x' h1 p1 v rv=>⟨x,X0,G1,rv,h1,p1⟩⟩
theorem oZ{H:Hp}{d:D}{f:Bool->M α}{G:DH}{K:α->List Addr->DH->Hp->Prop}(p:c7 cc Z μ H ((PD d >>= f) G) K):∃k,d= .bl k/\c7 cc Z μ H (f k G) K:=by
 cases d with
 |bl k=>exact⟨k,rfl,p⟩
 |_=>exact p.elim
theorem fQ{op}(h:DE X Z a f):DE X Z (.BoolOp op [a] pos) f:=⟨Lq h.h⟩
def fA(f:Fe):DSt->M Bool:=λU=>do PD (<-f U)
def u4(a b:DSt->M Bool):DSt->M Bool:=λU=>do if <-a U then b U else pure false
def orT(a b:DSt->M Bool):DSt->M Bool:=λU=>do if <-a U then pure true else b U
def notT(a:DSt->M Bool):DSt->M Bool:=λU=>do pure (!(<-a U))
structure DW(X:Cx)(Z:XC)(e:Expr)(f:DSt->M Bool):Prop where
 h:PW X e (N9 (wc X) Z f)
theorem DW.of(h:PW X e t)(k:∀ U H Q,N9 (wc X) Z f U H Q->t U H Q):DW X Z e f:=⟨PW.mono h k⟩
variable{ta tb:DSt->M Bool}{d7:List Expr}
theorem DW.dt(h:DW X Z a ta):DT X Z a ta:=⟨λNg s U H Q I q=>h.h _ Ng s U H Q I q⟩
theorem Mf(ho:OpD X Z (zY op) o)(ha:DE X Z a fa)(hb:DE X Z b fb)(hm:Xd op b=false):DT X Z (.Compare a [op] [b] pos) (fA (binE o fa fb)):=
 DT.of (Dh ho.h ha.h hb.h hm) λU H Q Nk=>Nk.elim λX9 μ G s h p=>mE U H _ ⟨X9,μ,G,s,h,(c7.bind p).mono λx X0 G1 H1 x' h1 p1 v rv=>by
  cases x with
  |bl k'=>unfold f9 at rv;exact⟨k',rv,c7.ok p1 h1⟩
  |_=>exact p1.elim⟩
theorem HZ(ha:DT X Z a ta):DW X Z (.BoolOp .And [a] pos) ta:=⟨Bz ha.h⟩
theorem nP(ha:DT X Z a ta):DW X Z (.BoolOp .Or [a] pos) ta:=⟨Lk ha.h⟩
theorem rR(ha:DT X Z a ta)(hb:DW X Z (.BoolOp .And (b::d7) pos) tb):DW X Z (.BoolOp .And (a::b::d7) pos) (u4 ta tb):=
 DW.of (cZ ha.h hb.h) λU H Q Nk=>Nk.elim λX9 μ G s h p=>⟨X9,μ,G,s,h,(c7.bind p).mono λx X0 G1 H1 x' h1 p1=>by
  cases x with
  |true=>exact⟨X9,X0,G1,s.mono x',h1,p1⟩
  |false=>exact c7.ok p1 h1⟩
theorem Hz(ha:DT X Z a ta)(hb:DW X Z (.BoolOp .Or (b::d7) pos) tb):DW X Z (.BoolOp .Or (a::b::d7) pos) (orT ta tb):=
 DW.of (HY ha.h hb.h) λU H Q Nk=>Nk.elim λX9 μ G s h p=>⟨X9,μ,G,s,h,(c7.bind p).mono λx X0 G1 H1 x' h1 p1=>by
  cases x with
  |false=>exact⟨X9,X0,G1,s.mono x',h1,p1⟩
  |true=>exact c7.ok p1 h1⟩
theorem Fz(ha:DT X Z a ta):DT X Z (.UnaryOp .Not a pos) (notT ta):=
 DT.of (VW ha.h) λU H Q Nk=>Nk.elim λX9 μ G s h p=>⟨X9,μ,G,s,h,(c7.bind p).mono λx X0 G1 H1 x' h1 p1=>c7.ok p1 h1⟩
theorem Fd(hc:DT X Z c ta)(ha:DE X Z a fa)(hb:DE X Z b fb):DE X Z (.IfExp c a b pos) (ifE ta fa fb):=
 DE.of (qp hc.h ha.h hb.h) λU H Q Nk=>Nk.elim λX9 μ G s h p=>⟨X9,μ,G,s,h,(c7.bind p).mono λx X0 G1 H1 x' h1 p1=>by
  cases x with
  |true=>exact⟨X9,X0,G1,s.mono x',h1,p1⟩
  |false=>exact⟨X9,X0,G1,s.mono x',h1,p1⟩⟩
theorem fV:DA X Z [] F0:=DA.of A9 λU H Q Nk=>Nk.elim λX9 μ G s h p=>c7.ok p h [] rfl
theorem QY(ha:DE X Z e fa)(hr:DA X Z es fs)(hs:zC (e::es) X.env= (false,eval e X.env)::zC es X.env):DA X Z (e::es) (y0 fa fs):=
 DA.of (R9 ha.h hr.h hs) λU H Q Nk=>Nk.elim λX9 μ G s h p=>⟨X9,μ,G,s,h,(c7.bind p).mono λx X0 G1 H1 x' h1 p1 v rv=>
  ⟨X9,X0,G1,s.mono x',h1,(c7.bind p1).mono λxs WX G2 H2 x2 h2 p2 vs rvs=>c7.ok p2 h2 (v::vs) ⟨v,vs,rfl,rv.mono x2,rvs⟩⟩⟩
def S3(fs:DSt->M (List D)):Fe:=λU=>do
 let xs <-fs U
 if xs.length<=ze then pure (.tup xs)else M.stuck
def O1(o:DO):M D:=λG=>some (.ok (.ref G.length),G++[o])
def lstE(fs:DSt->M (List D)):Fe:=λU=>do
 let xs <-fs U
 if xs.length<=ze then O1 (.lst xs)else M.stuck
theorem ID{G:DH}{Q:VK}(h:o8 cc μ G H)(r:m9 cc μ H xs vs)
 (p:c7 cc Z μ H (some (Except.ok (.tup xs),G)) λd X1 _ H'=>∀v,f9 cc X1 H' d v->Q v H') (q:Addr) (hq:H q=none):Q (.ref q) (upd H q (.tup vs)):=by
 have k:Ext μ H μ (upd H q (.tup vs)):=Ext.lay hq _;refine p μ _ k (h.same k λa o e n=>?_) _ ?_
 ·rw[t6 (u6 e hq)];exact e
 ·unfold f9;exact⟨q,vs,rfl,SqT.of v9,r.mono k⟩
theorem h9{G:DH}{Q:VK}(h:o8 cc μ G H)(r:m9 cc μ H xs vs)
 (p:c7 cc Z μ H (O1 (.lst xs) G) λd X1 _ H'=>∀v,f9 cc X1 H' d v->Q v H') (q:Addr) (hq:H q=none):Q (.ref q) (upd H q (.lst vs)):=by
 have k:Ext μ H (μ++[q]) (upd H q (.lst vs)):=Ext.add hq _;refine p (μ++[q]) _ k (h.new hq ⟨vs,v9,r.mono k⟩) _ ?_;unfold f9;exact⟨q,by rw[<-h.len];simp,rfl⟩
theorem Lc{x1}(h:DA X Z es fs):DE X Z (.Tuple es x1 pos) (S3 fs):=
 DE.of (rL h.h) λU H Q Nk=>Nk.elim λX9 μ G s h p=>⟨X9,μ,G,s,h,(c7.bind p).mono λxs X0 G1 H1 x' h1 p1 vs rv=>by
  split at p1
  ·rename_i hz;exact⟨by rw[<-rv.length];exact hz,λq hq=>ID h1 rv p1 q hq⟩
  ·exact p1.elim⟩
theorem OP(h:DA X Z es fs):DE X Z (.List es pos) (lstE fs):=
 DE.of (BG h.h) λU H Q Nk=>Nk.elim λX9 μ G s h p=>⟨X9,μ,G,s,h,(c7.bind p).mono λxs X0 G1 H1 x' h1 p1 vs rv=>by
  split at p1
  ·rename_i hz;exact⟨by rw[<-rv.length];exact hz,λq hq=>h9 h1 rv p1 q hq⟩
  ·exact p1.elim⟩
theorem BN(U:St)(H:Hp)(Q:VK)(h:v3 cc Z (L0 F fs) U H Q):tCB (pC cc Z F) (aC cc Z fs) U H Q:=by obtain⟨X9,μ,G,s,h,p⟩:=h;exact⟨X9,μ,G,s,h,(c7.bind p).mono λx X0 G1 H1 x' h1 p1 vs rv=>⟨x,X0,G1,rv,h1,p1⟩⟩
theorem qU{id:String}(hc:U7 X Z (.builtin id) F)(hg:Gl X x)(hm:X.mg x=none)(hv:zQ x=some (.builtin id))(ha:DA X Z (e::es) fs)(hn:x≠ "__name__")(hdb:(x==("__debug__" :Str))=false)
 (he:zC (e::es) X.env= (false,eval e X.env)::zC es X.env) (Nx:(yy pos (zC es X.env)).any (·.1)=false):DE X Z (.Call (.Name x p) (e::es) [] pos) (L0 F fs):=
 DE.of (mI hc.h hg hm hv ha.h hn hdb he Nx) BN
theorem UQ(hc:U7 X Z (.type T) F)(hg:Gl X x)(hm:X.mg x=none)(hv:zQ x=some (.type T))(ha:DA X Z (e::es) fs)(hn:x≠ "__name__")(hdb:(x==("__debug__" :Str))=false)
 (he:zC (e::es) X.env= (false,eval e X.env)::zC es X.env) (Nx:(yy pos (zC es X.env)).any (·.1)=false):DE X Z (.Call (.Name x p) (e::es) [] pos) (L0 F fs):=
 DE.of (Dm hc.h hg hm hv ha.h hn hdb he Nx) BN
def spD(c:Wc)(n:Nat)(F:List D->M D):Sp:=λvs H Q _=>vs.length=n/\∃ds μ G,m9 c μ H ds vs/\o8 c μ G H/\c7 c ZF μ H (F ds G) λd X1 _ H'=>∀v,f9 c X1 H' d v->Q v H'
def noX{α:Type}(m:M α):M α:=λG=>match m G with
 |some (.ok a,G1)=>some (.ok a,G1)
 |_=>none
theorem eM{H:Hp}{G:DH}{K:α->List Addr->DH->Hp->Prop}(p:c7 cc Z μ H (noX m G) K):c7 cc ZF μ H (m G) K:=by
 unfold noX at p
 match m G,p with
 |some (.ok a,G1),p=>exact p
 |some (.error x,G1),p=>exact p.elim
 |none,p=>exact p.elim
def fnX(n:Nat)(F:List D->M D):List D->M D:=λds=>if ds.length=n then noX (F ds)else M.stuck
theorem wK{H:Hp}{n:Nat}{G:DH}{K:D->List Addr->DH->Hp->Prop}(p:c7 cc Z μ H (fnX n F ds G) K):ds.length=n/\c7 cc ZF μ H (F ds G) K:=by
 unfold fnX at p;split at p
 ·rename_i h;exact⟨h,eM p⟩
 ·exact p.elim
theorem Lj(hF:X4 X.prog X.w X.K X.mg X.base CX0 k f fd ps (spD (wc X) n F))(hr:M7 k X.A)(hg:Gl X x)(hm:X.mg x=some (.ref f))(hk:jZ X.K (.ref f)=true)(hb:r6 X.K fd ps [])
 (ha:DA X Z (e::es) fs)
 (hdb:(x==("__debug__" :Str))=false) (he:zC (e::es) X.env= (false,eval e X.env)::zC es X.env) (Nx:(yy pos (zC es X.env)).any (·.1)=false):
 DE X Z (.Call (.Name x p) (e::es) [] pos) (L0 (fnX n F) fs):=
 DE.of (fL hF hr hg hm hk hb .nil PM ha.h hdb he Nx) λU H Q Nk=>Nk.elim λX9 μ G s h p=>by refine⟨X9,μ,G,s,h,(c7.bind p).mono λds' X0 G1 H1 x' h1 p1 vs rv=>?_⟩;obtain⟨hl,p2⟩:=wK p1;show spD (wc X) n F (vs++[]) H1 Q E0;rw[zX];exact⟨by rw[<-rv.length];exact hl,ds',X0,G1,rv,h1,p2⟩
end
abbrev Fs:=DSt->M Fl
def nextS:Fs:=λU=>pure (.nx U)
def seqS(a b:Fs):Fs:=λU=>do
 match <-a U with
 | .nx X2=>b X2
 |r=>pure r
def retS(f:Fe):Fs:=λU=>do pure (.rt (<-f U))
def nB(f:Fe):Fs:=λU=>do
 let _ <-f U
 pure (.nx U)
def ifS(t:DSt->M Bool)(a b:Fs):Fs:=λU=>do if <-t U then a U else b U
abbrev Fg:=D->DSt->M DSt
abbrev Fgs:=List D->DSt->M DSt
def E1(i:Nat):Fg:=λd U=>pure (U.set i (some d))
def nilG:Fgs:=λds U=>match ds with
 |[]=>pure U
 |_=>M.stuck
def consG(g:Fg)(r:Fgs):Fgs:=λds U=>match ds with
 |d::t=>do r t (<-g d U)
 |[]=>M.stuck
def tupG(n:Nat)(g:Fgs):Fg:=λd U=>match d with
 | .tup l=>if l.length=n then g l U else M.stuck
 |_=>M.stuck
def J1(f:Fe)(g:Fg):Fs:=λU=>do
 let d <-f U
 let X2 <-g d U
 pure (.nx X2)
section
variable(c:Wc)(Z:XC)
def kF(g:Fg):TG:=λv U H Q=>∃d X9 μ G,f9 c μ H d v/\w5 c μ H X9 U/\o8 c μ G H/\c7 c Z μ H (g d X9 G) λWW X1 _ H'=>∀ X2,w5 c X1 H' WW X2->Q X2 H'
def gD(g:Fgs):TGs:=λvs U H Q=>∃ds X9 μ G,m9 c μ H ds vs/\w5 c μ H X9 U/\o8 c μ G H/\c7 c Z μ H (g ds X9 G) λWW X1 _ H'=>∀ X2,w5 c X1 H' WW X2->Q X2 H'
end
theorem kF.elim{P:Prop}{v:V}{U:St}{H:Hp}(h:kF c Z g v U H Q)(k:∀d X9 μ G,f9 c μ H d v->w5 c μ H X9 U->o8 c μ G H->c7 c Z μ H (g d X9 G) (λWW X1 _ H'=>∀ X2,w5 c X1 H' WW X2->Q X2 H')->P):P:=by obtain⟨e0,e1,e2,e3,e4,e5,e6,e7⟩:=h;exact k e0 e1 e2 e3 e4 e5 e6 e7
theorem gD.elim{Z:XC}{P:Prop}{U:St}{H:Hp}(h:gD c Z g vs U H Q)(k:∀ds X9 μ G,m9 c μ H ds vs->w5 c μ H X9 U->o8 c μ G H->c7 c Z μ H (g ds X9 G) (λWW X1 _ H'=>∀ X2,w5 c X1 H' WW X2->Q X2 H')->P):P:=by obtain⟨e0,e1,e2,e3,e4,e5,e6,e7⟩:=h;exact k e0 e1 e2 e3 e4 e5 e6 e7
structure DG(X:Cx)(Z:XC)(tg:Expr)(g:Fg):Prop where
 h:PG X tg (kF (wc X) Z g)
structure DGs(X:Cx)(Z:XC)(tgs:List Expr)(g:Fgs):Prop where
 h:PGs X tgs (gD (wc X) Z g)
theorem PG.mono(h:PG X e t)(k:∀v U H Q,t' v U H Q->t v U H Q):PG X e t':=λNg s U H v u Q I r q=>h Ng s U H v u Q I r (k v U H Q q)
theorem PGs.mono(h:PGs X e t)(k:∀v U H Q,t' v U H Q->t v U H Q):PGs X e t':=λNg s U H v u Q I r q=>h Ng s U H v u Q I r (k v U H Q q)
theorem DG.of(h:PG X e t)(k:∀v U H Q,kF (wc X) Z g v U H Q->t v U H Q):DG X Z e g:=⟨PG.mono h k⟩
theorem DGs.of(h:PGs X e t)(k:∀v U H Q,gD (wc X) Z g v U H Q->t v U H Q):DGs X Z e g:=⟨PGs.mono h k⟩
section
variable{X:Cx}{Z:XC}{st:Stmt}{d7 sa sb:List Stmt}{f g:Fs}
theorem aX:DB X Z [] nextS:=DB.of fX λE U H Nk=>Nk.elim λX9 μ G s h p=>c7.ok p h U s
theorem Gc(h:o8 cc μ G H)
 (p:c7 cc Z μ H ((match fl with| .nx X2=>g X2|r=>pure r:M Fl) G) λfl X1 _ H'=>F7 cc E fl X1 H'):F7 cc {E with nx:=w8 cc Z g E} fl μ H:=by
 cases fl with
 |nx X9=>exact λU s=>⟨X9,μ,G,s,h,p⟩
 |rt d=>exact c7.ok p h
 |bk X9=>exact c7.ok p h
 |ct X9=>exact c7.ok p h
theorem GN(h1:DS X Z st f)(h2:DB X Z d7 g):DB X Z (st::d7) (seqS f g):=
 DB.of (UL h1.h h2.h) λE U H Nk=>Nk.elim λX9 μ G s h p=>⟨X9,μ,G,s,h,(c7.bind p).mono λfl X0 G1 H1 x' h1 p1=>Gc h1 p1⟩
theorem FJ(h1:DS X Z st f):DB X Z [st] f:=⟨bL h1.h⟩
theorem Cj(he:DE X Z e fa)(hs:swapsWith e none pos.line X.env=pure false):DS X Z (.Expr e pos) (nB fa):=
 DS.of (PN he.h hs) λE U H Nk=>Nk.elim λX9 μ G s h p=>⟨X9,μ,G,s,h,(c7.bind p).mono λd X0 G1 H1 x' h1 p1 v rv=>c7.ok p1 h1 U (s.mono x')⟩
theorem kW(he:DE X Z e fa):DS X Z (.Return (some e) pos) (retS fa):=
 DS.of (IU he.h) λE U H Nk=>Nk.elim λX9 μ G s h p=>⟨X9,μ,G,s,h,(c7.bind p).mono λd X0 G1 H1 x' h1 p1 v rv=>c7.ok p1 h1 v rv⟩
theorem RY(hc:DT X Z c t)(ha:DB X Z sa f)(hb:DB X Z sb g):DS X Z (.If c sa sb pos) (ifS t f g):=
 DS.of (BP hc.h ha.h hb.h) λE U H Nk=>Nk.elim λX9 μ G s h p=>⟨X9,μ,G,s,h,(c7.bind p).mono λx X0 G1 H1 x' h1 p1=>by
  cases x with
  |true=>exact⟨X9,X0,G1,s.mono x',h1,p1⟩
  |false=>exact⟨X9,X0,G1,s.mono x',h1,p1⟩⟩
theorem KN{x:Str}(hN:X.N.Nodup)(hi:X.N[i]? =some x)(hx:Loc X.env.scope x)(hf:X.fn x=true\/X.env.scope.names.lookup x=some .local):DG X Z (.Name x pos) (E1 i):=
 DG.of (mM hN hi hx hf) λv U H Q Nk=>Nk.elim λd X9 μ G r s h p=>c7.ok p h _ (s.put r i)
theorem Nb:DGs X Z [] nilG:=DGs.of TY λvs U H Q Nk=>Nk.elim λds X9 μ G r s h p=>by
 cases ds with
 |nil=>cases r;exact⟨rfl,c7.ok p h _ s⟩
 |cons _ _=>exact p.elim
theorem iT(h1:DG X Z e gg)(h2:DGs X Z es gr)(hs:(yW (e::es) X.env).map (·.2)=Yr e X.env::(yW es X.env).map (·.2)):DGs X Z (e::es) (consG gg gr):=
 DGs.of (Bq h1.h h2.h hs) λvs U H Q Nk=>Nk.elim λds X9 μ G r s h p=>by
  cases ds with
  |nil=>exact p.elim
  |cons d t=>
    obtain⟨v,vr,rfl,rv,rt⟩:=r;exact⟨v,vr,rfl,d,X9,μ,G,rv,s,h,(c7.bind p).mono λdσ1 X0 G1 H1 x' h1 p1 WY s1=>⟨t,dσ1,X0,G1,rt.mono x',s1,h1,p1⟩⟩
theorem bT{gs:Fgs}(hc:X.calm=true)(h:DGs X Z es gs)(hn:(yW es X.env).length=n)(hst:(yW es X.env).findIdx? (·.1)=none):DG X Z (.Tuple es k pos) (tupG n gs):=
 DG.of (VO hc h.h hn hst) λv U H Q Nk=>Nk.elim λd X9 μ G r s h p=>by
  cases d with
  |tup l=>
    unfold f9 at r;obtain⟨a,vs,rfl,q,rl⟩:=r;have p':c7 (wc X) Z μ H ((if l.length=n then gs l X9 else M.stuck:M DSt) G) λWW X1 _ H'=>∀ X2,w5 (wc X) X1 H' WW X2->Q X2 H':=p;split at p'
    ·rename_i hl;exact⟨a,vs,rfl,q,by rw[<-rl.length];exact hl,l,X9,μ,G,rl,s,h,p'⟩
    ·exact p'.elim
  |_=>exact p.elim
theorem tP(he:DE X Z e fa)(hg:DG X Z tg gg)(hs:ZY [tg] e pos.line X.env=pure false)(hw:ZZ [tg] e X.env=pure none)
 (h1:(yW [tg] X.env).map (·.2)= [Yr tg X.env]):DS X Z (.Assign [tg] e pos) (J1 fa gg):=
 DS.of (kI he.h hg.h hs hw h1) λE U H Nk=>Nk.elim λX9 μ G s h p=>⟨X9,μ,G,s,h,(c7.bind p).mono λd X0 G1 H1 x' h1 p1 v rv=>
  ⟨d,X9,X0,G1,rv,s.mono x',h1,(c7.bind p1).mono λdσ2 WX G2 H2 x2 h2 p2 σ2 s2=>c7.ok p2 h2 σ2 s2⟩⟩
end
def J0:Nat->(DSt->M Bool)->Fs->Fs
 |0,_,_=>λ_=>M.stuck
 |n+1,t,b=>λU=>do
   if <-t U then
    match <-b U with
    | .nx X2=>J0 n t b X2
    | .ct X2=>J0 n t b X2
    | .bk X2=>pure (.nx X2)
    | .rt d=>pure (.rt d)
   else pure (.nx U)
open Classical in
def V1(t:DSt->M Bool)(b:Fs):Fs:=λU G=>if h:∃n,(J0 n t b U G).isSome=true then J0 (xS h) t b U G else none
theorem M.bind_mono{f g:α->M β}{r:Except Str β×DH}(h:(m >>= f) G=some r)(k:∀a G',f a G'=some r->g a G'=some r):(m >>= g) G=some r:=by
 rw[M.bind_eq]at h ⊢
 match m G,h with
 |some (.ok a,G'),h=>exact k a G' h
 |some (.error x,G'),h=>exact h
theorem gG{t:DSt->M Bool}:∀ {n} {U} {G:DH} {r:Except Str Fl×DH},J0 n t b U G=some r->J0 (n+1) t b U G=some r
 |0,_,_,_,h=>by exact u5 h
 |n+1,U,G,r,h=>by
   unfold J0 at h ⊢;refine M.bind_mono h λc G1 h1=>?_
   cases c with
   |true=>
     refine M.bind_mono h1 λfl G2 h2=>?_
     cases fl with
     |nx X2=>exact gG h2
     |ct X2=>exact gG h2
     |bk X2=>exact h2
     |rt d=>exact h2
   |false=>exact h1
theorem dF(hm:n<=m)(h:J0 n t b U G=some r):J0 m t b U G=some r:=by
 induction hm with
 |refl=>exact h
 |step _ ih=>exact gG ih
section
theorem qM(hp:PassesOwn (zD X.prog X.w) X.A X.env X.xe)(hc:DT X Z c t)(hb:DB X Z body f):DS X Z (.While c body [] pos) (V1 t f):=
 DS.of (Lf hp hc.h hb.h) λE U H Nk=>Nk.elim λX9 μ G s h p=>by
  unfold V1 at p;split at p
  · rename_i ex;refine⟨λm U H=>∃X9 μ G,w5 (wc X) μ H X9 U/\o8 (wc X) μ G H/\c7 (wc X) Z μ H (J0 m t f X9 G) λfl X1 _ H'=>F7 (wc X) E fl X1 H',⟨_,X9,μ,G,s,h,p⟩,?_⟩;rintro m U H ⟨X9,μ,G,s,h,p⟩
    cases m with
    |zero=>exact p.elim
    |succ m=>
      refine⟨X9,μ,G,s,h,(c7.bind p).mono λx X0 G1 H1 x' h1 p1=>?_⟩
      cases x with
      |false=>exact c7.ok p1 h1 U (s.mono x')
      |true=>
        refine⟨λX2 H'=>∃X9 μ G,w5 (wc X) μ H' X9 X2/\o8 (wc X) μ G H'/\c7 (wc X) Z μ H' (J0 m t f X9 G) λfl X1 _ H'=>F7 (wc X) E fl X1 H',λX2 H' w=>⟨m,yY _,w⟩,X9,X0,G1,s.mono x',h1,(c7.bind p1).mono λfl WX G2 H2 x2 h2 p2=>?_⟩
        cases fl with
        |nx WW=>exact λX2 s'=>⟨WW,WX,G2,s',h2,p2⟩
        |ct WW=>exact λX2 s'=>⟨WW,WX,G2,s',h2,p2⟩
        |bk WW=>exact λX2 s'=>c7.ok p2 h2 X2 s'
        |rt d=>exact λv r=>c7.ok p2 h2 v r
  ·exact p.elim
end
def C1(g:Fg)(b:Fs)(ck:DH->Bool):List D->Fs
 |[]=>λU G=>if ck G then some (.ok (.nx U),G)else none
 | d :: r => λU G => if ck G then (do
    match <-b (<-g d U) with
    | .nx X2=>C1 g b ck r X2
    | .ct X2=>C1 g b ck r X2
    | .bk X2=>pure (.nx X2)
    | .rt d=>pure (.rt d):M Fl) G else none
structure Src where
 items:List D
 ck:DH->Bool
def forS(it:DSt->M Src)(g:Fg)(b:Fs):Fs:=λU=>do
 let s <-it U
 C1 g b s.ck s.items U
def ItD(c:Wc)(μ:List Addr)(H:Hp)(J:It)(s:Src):Prop:=∀ X1 G' H',Ext μ H X1 H'->o8 c X1 G' H'->s.ck G'=true->∀i:Nat,
 (∀d,s.items[i]? =some d->J.go i H'/\∀x H2,J.yld i H' x H2->Ext X1 H' X1 H2/\o8 c X1 G' H2/\f9 c X1 H2 d x)/\(s.items.length<=i->J.stop i H')
def oD(c:Wc)(Z:XC)(it:DSt->M Src):TI:=λU H R=>∃X9 μ G,w5 c μ H X9 U/\o8 c μ G H/\c7 c Z μ H (it X9 G) λs X1 _ H'=>∀J,ItD c X1 H' J s->R J H'
theorem oD.elim{P:Prop}{U:St}{H:Hp}(h:oD c Z it U H R)(k:∀X9 μ G,w5 c μ H X9 U->o8 c μ G H->c7 c Z μ H (it X9 G) (λs X1 _ H'=>∀J,ItD c X1 H' J s->R J H')->P):P:=by obtain⟨e0,e1,e2,e3,e4,e5⟩:=h;exact k e0 e1 e2 e3 e4 e5
structure DI(X:Cx)(Z:XC)(tg e:Expr)(it:DSt->M Src):Prop where
 h:PI X tg e (oD (wc X) Z it)
theorem PI.mono(h:PI X tg e t)(k:∀ U H R,t' U H R->t U H R):PI X tg e t':=λNg s U H R I q=>h Ng s U H R I (k U H R q)
theorem DI.of(h:PI X tg e t)(k:∀ U H R,oD (wc X) Z it U H R->t U H R):DI X Z tg e it:=⟨PI.mono h k⟩
section
def Fc(c:Wc)(E:y6)(fl:Fl)(μ:List Addr)(_:DH)(H:Hp):Prop:=F7 c E fl μ H
inductive cJ(c:Wc)(Z:XC)(gg:Fg)(f:Fs)(sr:Src)(E:y6)(X0:List Addr)(H1:Hp)(i:Nat)(U:St)(H:Hp):Prop
 |mk (X9:DSt) (μ:List Addr) (G:DH) (k:Ext X0 H1 μ H) (s:w5 c μ H X9 U) (h:o8 c μ G H) (p:c7 c Z μ H (C1 gg f sr.ck (sr.items.drop i) X9 G) (Fc c E))
theorem DM(hp:PassesOwn (zD X.prog X.w) X.A X.env X.xe)(hc:X.calm=true)(hi:DI X Z tg iter it)(hg:DG X Z tg gg)(hb:DB X Z body f)(hs:∀x,Zd iter X.env x=pure x):
 DS X Z (.For tg iter body [] pos) (forS it gg f):=
 DS.of (vP hp hc hi.h hg.h hb.h hs) λE U H Nk=>Nk.elim λX9 μ G s h p=>⟨X9,μ,G,s,h,(c7.bind p).mono λsr X0 G1 H1 x' h1 p1 J hJ=>by
  refine⟨λi m X2 H'=>m=sr.items.length-i/\i<=sr.items.length/\cJ (wc X) Z gg f sr E X0 H1 i X2 H',
   ⟨sr.items.length,rfl,xa _,X9,X0,G1,Ext.refl _ _,s.mono x',h1,p1⟩,?_⟩
  rintro i m X2 H' ⟨rfl,hi',WW,X1,G',k',s',h',p'⟩;by_cases Nw:i<sr.items.length
  · rw[xE Nw]at p';unfold C1 at p';split at p'
    · rename_i ck;obtain⟨q1,_⟩:=hJ X1 G' H' k' h' ck i;obtain⟨go,yl⟩:=q1 _ (zH Nw);refine .inr ⟨go,λσ2 H2=>cJ (wc X) Z gg f sr E X0 H1 (i+1) σ2 H2,λσ2 H2 w=>⟨sr.items.length-(i+1),Yv _ _ Nw,rfl,Nw,w⟩,λx H2 y=>?_⟩;obtain⟨k2,h2,rx⟩:=yl x H2 y;have p2:=c7.bind (p'.from k2);refine⟨_,WW,X1,G',rx,s'.mono k2,h2,p2.mono λdσ3 μ3 G3 H3 x3 h3 p3 WN s3=>?_⟩;refine⟨dσ3,μ3,G3,s3,h3,(c7.bind p3).mono λfl μ4 G4 H4 x4 h4 p4=>?_⟩
      cases fl with
      |nx dσ4=>exact λσ4 s4=>⟨dσ4,μ4,G4,k'.trans (k2.trans (x3.trans x4)),s4,h4,p4⟩
      |ct dσ4=>exact λσ4 s4=>⟨dσ4,μ4,G4,k'.trans (k2.trans (x3.trans x4)),s4,h4,p4⟩
      |bk dσ4=>exact λσ4 s4=>c7.ok p4 h4 σ4 s4
      |rt d=>exact λv r=>c7.ok p4 h4 v r
    ·exact p'.elim
  · have e:i=sr.items.length:=Nat.le_antisymm hi' (Nat.le_of_not_lt Nw);subst e;rw[List.drop_length]at p';unfold C1 at p';split at p'
    ·rename_i ck;obtain⟨_,q2⟩:=hJ X1 G' H' k' h' ck sr.items.length;exact .inl ⟨q2 (zk _),c7.ok p' h' X2 s'⟩
    ·exact p'.elim⟩
end
def w4(env:Env):List (Str×NameKind)->List (Str×Addr)->List (Str×Addr)
 |[],cs=>cs
 |(n,k)::r,cs=>w4 env r (if k == .free then (match env.cells.lookup n with|some c=>(n,c)::cs|none=>cs)else cs)
theorem FK:∀l cs,(∀p∈l,p.2= .free->∃c,env.cells.lookup p.1=some c)->
 (forIn l cs (fun(x:Str×NameKind) (cs:List (Str×Addr))=>(match x with|(name,kind)=>if (kind==NameKind.free)=true then do let c <-cellOf env name;pure (ForInStep.yield ((name,c)::cs))else pure (ForInStep.yield cs):Sem (ForInStep (List (Str×Addr))))):Sem (List (Str×Addr)))=pure (w4 env l cs)
 |[],cs,_=>rfl
 |(n,k)::r,cs,h=>by
  have ih:=λcs'=>FK r cs' λp hp=>h p (zo _ hp);rw[Xp];unfold w4;rcases hk:(k==NameKind.free)with _|_
  ·
    have e:(match ((n,k):Str×NameKind) with|(name,kind)=>if (kind==NameKind.free)=true then do let c <-cellOf env name;pure (ForInStep.yield ((name,c)::cs))else pure (ForInStep.yield cs):Sem (ForInStep (List (Str×Addr))))=pure (ForInStep.yield cs):=by show (if (k==NameKind.free)=true then _ else _)=_;rw[hk];rfl
    rw[e];exact ih cs
  ·
    obtain⟨c,hc⟩:=h (n,k) zh (by simpa using hk);have hcell:cellOf env n=pure c:=by unfold cellOf;rw[hc]
    have e:(match ((n,k):Str×NameKind) with|(name,kind)=>if (kind==NameKind.free)=true then do let c <-cellOf env name;pure (ForInStep.yield ((name,c)::cs))else pure (ForInStep.yield cs):Sem (ForInStep (List (Str×Addr))))=pure (ForInStep.yield ((n,c)::cs)):=by show (if (k==NameKind.free)=true then (do let c <-cellOf env n;pure (ForInStep.yield ((n,c)::cs)))else _)=_;rw[hk,hcell];rfl
    rw[e,hc];exact ih ((n,c)::cs)
theorem Hb(h:∀p∈scope.names,p.2= .free->∃c,env.cells.lookup p.1=some c):closureFor scope env=pure (w4 env scope.names []):=by have q:=FK scope.names [] h;unfold closureFor;dsimp only;rw[q];rfl
theorem tN:∀l cs,(cs.lookup x=some c->env.cells.lookup x=some c)->(w4 env l cs).lookup x=some c->env.cells.lookup x=some c
 |[],cs,h,e=>h e
 |(n,k)::r,cs,h,e=>by
  unfold w4 at e;refine tN r _ (λe1=>?_) e;split at e1
  · split at e1
    · rename_i c' hc;rw[yz]at e1;split at e1
      · rename_i hx;have hx':x=n:=by simpa using hx
        subst hx'
        cases e1
        exact hc
      ·exact h e1
    ·exact h e1
  ·exact h e1
theorem Q3(h:(w4 env l []).lookup x=some c):env.cells.lookup x=some c:=tN l [] (λz=>by exact u5 z) h
theorem wJ:∀l cs,(∃c,cs.lookup x=some c)->∃c,(w4 env l cs).lookup x=some c
 |[],cs,h=>h
 |(n,k)::r,cs,h=>by
  unfold w4;refine wJ r _ ?_;split
  · split
    · rename_i c' hc;rw[yz];split
      ·exact⟨_,rfl⟩
      ·exact h
    ·exact h
  ·exact h
theorem WG(hc:env.cells.lookup x=some c):∀l cs,(x,NameKind.free)∈l->∃c,(w4 env l cs).lookup x=some c
 |[],cs,h=>by simp at h
 |(n,k)::r,cs,h=>by
  unfold w4;rcases zl.mp h with e|h
  · cases e
    refine wJ r _ ?_;rw[hc];simp
  ·exact WG hc r _ h
section
theorem Hk(I:Nat->zm->Prop)
 (turn:∀n s,I n s->zv (zD prog w) A (Xn it) (λr W1=>match r with
   |none=>R (.ok .next) W1
   | some v => zv (zD prog w) A (xT target it v) (λ_ s₁' => zv (zD prog w) A (Yr target env v) (λ_ s₂ =>
      zv (zD prog w) A (forIn ifs true λc r=>if r=true then do let ok <-isTrue c env (eval c env);pure (ForInStep.yield ok)else pure (ForInStep.yield r)) (λok s₃=>
       if ok=true then zv (zD prog w) A (eval elt env) (λx s₄=>
        zv (zD prog w) A (call (.builtin "list.append") [Nz,x]) (λ_ s₅=>∃m,m<n/\I m s₅) (λ_ _=>False) s₄) (λ_ _=>False) s₃
       else ∃m,m<n/\I m s₃) (λ_ _=>False) s₂) (λ_ _=>False) s₁') (λ_ _=>False) W1) (λ_ _=>False) s)
 (n:Nat) (h:I n s):
 Yq (zD prog w) A (.compLoop (.ListComp elt [⟨target,iter,ifs,0⟩] scope pos) 0 it Nz env) R s:=by
 refine codeAny_loop rfl I (λn s hI=>?_) n h;show zv _ A ((compTurn (.ListComp elt [⟨target,iter,ifs,0⟩] scope pos) 0 it Nz env).onRaise (λx=>do Jb x env;theTreesLotGoes x)) _ _ s;refine wpAny_noted ?_;rw[compTurn_list];refine zc (wpAny_standAt (zc (jK (turn n s hI) (λr W1 h₁=>?_) λ_ _ h'=>h'.elim)));rcases r with _|v
 ·exact zt h₁
 ·
   refine zc (jK h₁ (λ_ s₁' h₁'=>?_) λ_ _ h'=>h'.elim);refine zc (jK h₁' (λ_ s₂ h₂=>zc (jK h₂ (λok s₃ h₃=>?_) λ_ _ h'=>h'.elim)) λ_ _ h'=>h'.elim);rcases ok with _|_
   ·
     exact zt ⟨rfl,h₃⟩
   ·
     exact zc (zc (jK h₃ (λx s₄ h₄=>zc (jK h₄ (λ_ s₅ h₅=>zt (zt ⟨rfl,h₅⟩)) λ_ _ h'=>h'.elim)) λ_ _ h'=>h'.elim))
end
def U4(X:Cx)(scope:Scope)(N:List Str)(C:Addr)(s:zm)(H:Hp)(ex:List Addr):Cx where
 prog:=X.prog
 w:=X.w
 K:=X.K
 mg:=X.mg
 base:=X.base
 A:=X.A
 N:=N
 WZ:=s
 H₀:=H
 env:=compEnvC scope (w4 X.env scope.names []) C X.env
 outer:=X.stack
 stack:=X.stack
 ex:=ex
 fn:=λ_=>false
 calm:=X.calm
 pn:= []
 xe:=λ_ _=>False
structure A5(X:Cx)(scope:Scope)(N:List Str)(caps:List (Option Nat)):Prop where
 kind:scope.kind= .function
 cell:∀y∈scope.names,y.2≠ .cell
 names:∀y∈scope.names,y.2= .local->scope.names.lookup y.1=some .local
 free:∀y∈scope.names,y.2= .free->X.env.kindOf y.1=some .cell\/X.env.kindOf y.1=some .free
 frees:∀y∈scope.names,y.2= .free->scope.names.lookup y.1=some .free
 len:caps.length=N.length
 caps:∀(i j:Nat),caps[i]? =some (some j)->∃x,N[i]? =some x/\X.N[j]? =some x/\(x,NameKind.free)∈scope.names
def Z2{α:Type}(caps:List (Option Nat))(U:List (Option α)):List (Option α):=caps.map λo=>o.bind λj=>(U[j]?).join
theorem LH{env:Env}:∀names:List (Str×NameKind),(names.map fun(n,k)=>if (k==NameKind.free&&env.scope.kind == .function&&env.kindOf n==some .cell)then (n,NameKind.cell)else (n,k)).lookup x=
 (names.lookup x).map λk=>if (k==NameKind.free&&env.scope.kind == .function&&env.kindOf x==some .cell)then NameKind.cell else k
 |[]=>rfl
 |(n,k)::r=>by
  have ih:=LH (env:=env) (x:=x) r;rw[zE];by_cases hx:x=n
  · subst hx;dsimp only;split
    ·rename_i h;simp[yz];simp at h;simp[h]
    ·rename_i h;simp[yz];simp at h;intro a b c;exact absurd c (h a b)
  · have hb:(x==n)=false:=by simpa using hx
    dsimp only;split
    ·rw[yz,yz,hb];exact ih
    ·rw[yz,yz,hb];exact ih
section
variable{X:Cx}{scope:Scope}{N:List Str}{caps:List (Option Nat)}
theorem A5.isFree(k:A5 X scope N caps){x:Str}(h:(relabel scope X.env).names.lookup x=some .cell\/(relabel scope X.env).names.lookup x=some .free):(x,NameKind.free)∈scope.names:=by
 have e:(relabel scope X.env).names.lookup x= (scope.names.lookup x).map λk=>if (k==NameKind.free&&X.env.scope.kind == .function&&X.env.kindOf x==some .cell)then NameKind.cell else k:=LH scope.names;rw[e]at h;rcases hl:scope.names.lookup x with _|kd
 ·rw[hl]at h;rcases h with h|h<;>exact u5 h
 ·
   rw[hl]at h;have hm:=yP hl;have hn:=k.cell _ hm;simp only[Xf]at h
   cases kd with
   |free=>exact hm
   |cell=>exact absurd rfl hn
   |_=>rcases h with h|h<;>simp at h
theorem A5.cells(k:A5 X scope N caps)(ok:X.Ok):∀p∈scope.names,p.2= .free->∃c,X.env.cells.lookup p.1=some c:=λp hp e=>ok.has p.1 (k.free p hp e)
theorem PV(I:Inv X Ng U H s)(k:A5 X scope N caps)(hC:s.heap.objs.size<=C)(Pk:∀b∈ex,Q2 X Ng H b)(Nw:∀b∈ex,b<s.heap.objs.size):(U4 X scope N C s H ex).Ok where
 mod:=I.ok.mod
 kind:=k.kind
 glob:=I.ok.glob
 blt:=I.ok.blt
 above:=hC
 inj:=λx y c h1 h2=>I.ok.inj x y c (Q3 h1) (Q3 h2)
 has:=λx hx=>by have hm:=k.isFree hx;obtain⟨c,hc⟩:=k.cells I.ok _ hm rfl;exact WG hc _ _ hm
 cab:=λx c h=>by exact cC h
 hd:=I.ok.hd
 frames:=I.ok.frames
 stk:=.inl rfl
 exf:=λb hb=>⟨zB (zK (Nw b hb) hC),λx c e=>(Pk b hb).2.2.2.2.1 x c (Q3 e)⟩
 bs:=I.bs
 bsz:=zw I.ok.bsz I.sz
 noex:=λb o e hb=>by
  rcases (Pk b hb).2.2.2.1 with z|z
  ·exact I.ok.noex b o e z
  ·exact absurd (zK (zj (I.ok.bs b o e).1) z) (xk _)
 exfs:=λb hb z=>by
  rcases zl.mp (I.stkSub b z)with e|e
  ·exact(Pk b hb).2.1 e
  ·exact(Pk b hb).2.2.1 e
 funs:=I.stack
 frf:=I.stkFree
 gd:=I.ok.gd
theorem iJ{U:List (Option α)}{i:Nat}(h:(Z2 caps U)[i]? =some (some v)):∃j,caps[i]? =some (some j)/\U[j]? =some (some v):=by
 unfold Z2 at h;rw[jQ]at h;rcases e:caps[i]? with _|o
 ·rw[e]at h;exact u5 h
 ·
   rw[e]at h;rcases o with _|j
   ·cases h
   ·
     refine⟨j,rfl,?_⟩;simp only[Xf,ZI,Zj]at h;rcases e2:U[j]? with _|w
     ·rw[e2]at h;exact u5 h
     ·rw[e2]at h;simp at h;rw[h]
theorem GS{h₁:Heap}{tk:Nat}(I:Inv X Ng U H s)(k:A5 X scope N caps)(hC:s.heap.objs.size<C)(Pk:∀b∈ex,Q2 X Ng H b)(Nw:∀b∈ex,b<s.heap.objs.size)
 (old:∀b o,s.heap.get? b=some o->h₁.get? b=some o) (hns:h₁.Ns C λ_=>none) (Pz:h₁.get? s.heap.objs.size=some {cls:=.type "list",data:=.seq ([]:List zg).toArray 0}):
 Inv (U4 X scope N C s H ex) [] (Z2 caps U) (upd H s.heap.objs.size (.lst [])) {s with heap:=h₁,toks:=tk}:=by
 have hD:H s.heap.objs.size=none:=I.hok.fresh (zk _);refine⟨PV I k (xD hC) Pk Nw,rfl,I.bare,Un.laid old (zk _) hD,⟨_,hns,λi x v h1 h2 h3=>?_⟩,λx c e=>?_,?_,λx c e=>?_,λp hp=>absurd (show p∈([]:PNS)from hp) (by simp),?_,?_⟩
 · obtain⟨j,e1,e2⟩:=iJ h2;obtain⟨y,e3,e4,e5⟩:=k.caps i j e1;have exy:y=x:=by
    have:some y=some x:=e3.symm.trans h1;exact js this
   subst exy;have hk:=k.free _ e5 rfl;obtain⟨m,hn,hl⟩:=I.loc;obtain⟨u,r,l⟩:=hl j y v e4 e2 (by rcases hk with z|z;exact .inr (.inl z);exact .inr (.inr z));refine⟨u,r,.inr ?_⟩;rcases l with⟨z,_⟩|⟨_,c,ec,hc⟩
   ·rcases hk with z'|z'<;>(rw[z]at z';cases z')
   · refine⟨?_,c,?_,?_⟩
     · rcases h3 with h3|h3|h3
       ·exfalso;have e:(relabel scope X.env).names.lookup y= (scope.names.lookup y).map λk=>if (k==NameKind.free&&X.env.scope.kind == .function&&X.env.kindOf y==some .cell)then NameKind.cell else k:=LH scope.names;have h3':(relabel scope X.env).names.lookup y=some .local:=h3;rw[e]at h3';rw[k.frees _ e5 rfl]at h3';simp only[Xf]at h3';split at h3'<;>cases h3'
       ·exact .inl h3
       ·exact .inr h3
     · obtain⟨c',ec'⟩:=WG ec scope.names [] e5;have:=Q3 ec';rw[ec]at this
       cases this
       exact ec'
     ·obtain⟨o,ho,hd⟩:=hc;exact⟨o,old _ _ ho,hd⟩
 ·obtain⟨v,o,ho,hd⟩:=I.cell x c (Q3 e);exact⟨v,o,old _ _ ho,hd⟩
 ·show upd H s.heap.objs.size (.lst []) C=none;rw[t6 (yM hC)];exact I.hok.fresh (xD hC)
 ·obtain⟨v,o,ho,hd⟩:=I.cell x c (Q3 e);rw[t6 (zB (zj ho))];exact I.freeC x c (Q3 e)
 ·exact I.hok.laid old (zk _) ⟨xa _, [],0,.nil,Pz⟩
 ·show (Z2 caps U).length=N.length;unfold Z2;rw[zn];exact k.len
theorem LV(I:Inv X Ng U H s)(Pk:∀b∈ex,Q2 X Ng H b)(hC:s.heap.objs.size<C)
 (I':Inv (U4 X scope N C s H ex) pins' X2 H' s') (sb:xU C s'.heap h'):Inv X Ng U H' {s' with heap:=h'}:=by
 have hos:s'.os=s.os:=I'.os;have hfree:H' C=none:=I'.free;have neC:∀b o,s.heap.get? b=some o->b≠C:=λb o e z=>by have:=zj e;rw[z]at this;exact absurd (Xa hC this) (xk _)
 have hun:Un (frs X.stack) ex H H' s.heap s'.heap:=I'.base;have hun2:Un (frs X.stack) ex H H' s.heap h':=by
  refine⟨λb o e n hb hx=>(sb.2 b (neC b o e)).trans (hun.keep b o e n hb hx),λb o e n hb hx=>?_,hun.free,λb o e hx=>?_,hun.tups,hun.frzs,hun.tbls⟩
  ·obtain⟨sl,q⟩:=hun.slot b o e n hb hx;exact⟨sl,(sb.2 b (neC b o e)).trans q⟩
  ·obtain⟨o',q⟩:=hun.there b o e hx;exact⟨o',(sb.2 b (neC b o e)).trans q⟩
 have hok2:HOk X.prog X.w H' h':=λa o e=>by
  have nc:∀c u,H' c=some u->c≠C:=λc u q z=>by rw[z,hfree]at q;exact u5 q
  refine(I'.hok a o e).stay (λb u hb q=>?_) (λ_ q=>q) λ_ _ q=>q;rcases hb with rfl|hb
  ·exact(sb.2 b (nc b o e)).trans q
  ·exact(sb.2 b (nc b _ hb)).trans q
 obtain⟨hh,g,d,t,os'⟩:=s';obtain rfl:os'=s.os:=hos;have fin:=I.call (d':=d) (t':=t) hun2 hok2 I'.bare λb hb=>⟨(Pk b hb).2.2.2.1,(Pk b hb).2.1,(Pk b hb).2.2.2.2.1,(Pk b hb).2.2.2.2.2⟩;exact fin
end
def hide(q:Addr)(H:Hp):Hp:=λb=>if b=q then none else H b
theorem dB:hide q H q=none:=by unfold hide;rw[if_pos rfl]
theorem O2(h:b≠q):hide q H b=H b:=by unfold hide;rw[if_neg h]
theorem K9(h:hide q H b=some o):b≠q/\H b=some o:=by
 by_cases e:b=q
 ·rw[e,dB]at h;exact u5 h
 ·rw[O2 e]at h;exact⟨e,h⟩
theorem IX(h:H q=some o):upd (hide q H) q o=H:=by
 funext b;by_cases e:b=q
 ·rw[e,v9,h]
 ·rw[t6 e,O2 e]
theorem TC:hide q (upd H q o)=hide q H:=by
 funext b;by_cases e:b=q
 ·rw[e,dB,dB]
 ·rw[O2 e,O2 e,t6 e]
theorem fF(h:H q=none):hide q H=H:=by
 funext b;by_cases e:b=q
 ·rw[e,dB,h]
 ·rw[O2 e]
section
mutual
theorem f9.sq(k:∀a xs,SqT c.K H a xs->SqT c.K H' a xs):∀ {d} {v},f9 c μ H d v->f9 c μ H' d v
 | .non,_,h=>h
 | .bl _,_,h=>h
 | .int _,_,h=>h
 | .str _,_,h=>h
 | .ty _,_,h=>h
 | .fn _,_,h=>h
 | .ref i,v,h=>by unfold f9 at h ⊢;exact h
 | .tup l,v,h=>by unfold f9 at h ⊢;obtain⟨a,vs,e,q,r⟩:=h;exact⟨a,vs,e,k _ _ q,m9.sq k r⟩
theorem m9.sq(k:∀a xs,SqT c.K H a xs->SqT c.K H' a xs):∀ {l} {vs},m9 c μ H l vs->m9 c μ H' l vs
 |[],_,h=>h
 |d::ds,vs,h=>by unfold m9 at h ⊢;obtain⟨v,r,e,q,t⟩:=h;exact⟨v,r,e,f9.sq k q,m9.sq k t⟩
end
theorem W5.sq(k:∀a xs,SqT c.K H a xs->SqT c.K H' a xs):∀ {l} {vs},W5 c μ H l vs->W5 c μ H' l vs
 |[],_,h=>h
 |(_,d)::ds,vs,h=>by obtain⟨v,r,e,q,t⟩:=h;exact⟨v,r,e,f9.sq k q,W5.sq k t⟩
theorem oA(hq:H q=some (.lst vs)){K:zd}(a:Addr)(xs:List V)(h:SqT K H a xs):SqT K (hide q H) a xs:=by
 rcases h with(h|⟨o,h⟩)|h
 ·exact .inl (.inl (by rw[O2 (λe=>by rw[e,hq]at h;cases h)];exact h))
 ·exact .inl (.inr ⟨o,by rw[O2 (λe=>by rw[e,hq]at h;cases h)];exact h⟩)
 ·exact .inr h
theorem IB{K:zd}(a:Addr)(xs:List V)(h:SqT K (hide q H) a xs):SqT K H a xs:=by
 rcases h with(h|⟨o,h⟩)|h
 ·exact .inl (.inl (K9 h).2)
 ·exact .inl (.inr ⟨o,(K9 h).2⟩)
 ·exact .inr h
theorem w5.sq(k:∀a xs,SqT c.K H a xs->SqT c.K H' a xs)(h:w5 c μ H X9 U):w5 c μ H' X9 U:=⟨h.1,λi d e=>let ⟨v,a,b⟩:=h.2 i d e;⟨v,a,b.sq k⟩⟩
theorem Ext.hide(x:Ext μ H X1 H')(n:q∉μ)(hq:H q=some (.lst vs)):H' q=some (.lst vs)/\q∉X1/\Ext μ (DL.hide q H) X1 (DL.hide q H'):=by
 refine⟨x.oth q _ hq n,λh=>?_,x.pre,λa h1 h2=>?_,λb o e nb=>?_,λb xs e=>?_,λb o u e=>?_⟩
 ·have:=x.new q h n;rw[hq]at this;exact QD this
 · by_cases e:a=q
   ·rw[e,dB]
   ·rw[O2 e];exact x.new a h1 h2
 ·obtain⟨e1,e2⟩:=K9 e;rw[O2 e1];exact x.oth b o e2 nb
 ·obtain⟨e1,e2⟩:=K9 e;rw[O2 e1];exact x.tup b xs e2
 ·obtain⟨e1,e2⟩:=K9 e;rw[O2 e1];exact x.frz b o u e2
theorem Ext.unhide(x:Ext μ H X1 (DL.hide q H')):Ext μ H X1 H':=
 ⟨x.pre,x.new,λb o e n=>(K9 (x.oth b o e n)).2,λb xs e=>(K9 (x.tup b xs e)).2,λb o u e=>(K9 (x.frz b o u e)).2⟩
theorem o8.hide(h:o8 c μ G H)(n:q∉μ)(hq:H q=some (.lst vs)):o8 c μ G (DL.hide q H):=
 ⟨h.len,h.inj,λi o a g m=>by
  have na:a≠q:=λe=>n (by rw[<-e];exact yJ m);have r:=h.obj i o a g m
  cases o with
  |lst l=>obtain⟨ws,e,r⟩:=r;exact⟨ws,by rw[O2 na];exact e,r.sq (oA hq)⟩
  |dct l=>obtain⟨ws,e,r⟩:=r;exact⟨ws,by rw[O2 na];exact e,r.sq (oA hq)⟩
  |rod l=>obtain⟨ws,o,e,r⟩:=r;exact⟨ws,o,by rw[O2 na];exact e,r.sq (oA hq)⟩
  |rol l=>
    obtain⟨ws,e,r⟩:=r;refine⟨ws,?_,r.sq (oA hq)⟩;rcases e with⟨o,e⟩|e
    ·exact .inl ⟨o,by rw[O2 na];exact e⟩
    ·exact .inr e⟩
theorem o8.unhide(h:o8 c μ G (DL.hide q H)):o8 c μ G H:=
 ⟨h.len,h.inj,λi o a g m=>by
  have r:=h.obj i o a g m
  cases o with
  |lst l=>obtain⟨ws,e,r⟩:=r;exact⟨ws,(K9 e).2,r.sq IB⟩
  |dct l=>obtain⟨ws,e,r⟩:=r;exact⟨ws,(K9 e).2,r.sq IB⟩
  |rod l=>obtain⟨ws,o,e,r⟩:=r;exact⟨ws,o,(K9 e).2,r.sq IB⟩
  |rol l=>
    obtain⟨ws,e,r⟩:=r;refine⟨ws,?_,r.sq IB⟩;rcases e with⟨o,e⟩|e
    ·exact .inl ⟨o,(K9 e).2⟩
    ·exact .inr e⟩
inductive UH{α:Type}(c:Wc)(q:Addr)(vs:List V)(μ:List Addr)(H:Hp)(K:α->List Addr->DH->Hp->Prop)(a:α)(X1:List Addr)(G':DH)(H':Hp):Prop
 |mk (e:H' q=some (.lst vs)) (n:q∉X1) (h:o8 c X1 G' (DL.hide q H')) (x:Ext μ (DL.hide q H) X1 (DL.hide q H')) (k:K a X1 G' (DL.hide q H'))
theorem c7.unhide{r:Option (Except Str α×DH)}{K:α->List Addr->DH->Hp->Prop}(n:q∉μ)(hq:H q=some (.lst vs))(p:c7 c ZF μ (DL.hide q H) r K):
 c7 c Z μ H r (UH c q vs μ H K):=by
 match r,p with
 |some (.ok a,G'),p=>
   intro X1 H' x h;obtain⟨e1,e2,e3⟩:=x.hide n hq;have h2:=h.hide e2 e1;exact⟨e1,e2,h2,e3,p X1 _ e3 h2⟩
 |some (.error z,G'),p=>
   intro X1 H' x h;obtain⟨e1,e2,e3⟩:=x.hide n hq;exact(p X1 _ e3 (h.hide e2 e1)).elim
theorem o8.mem_lt(I:Inv X Ng U H s)(h:o8 (wc X) μ G H)(ha:a∈μ):a<s.heap.objs.size:=by
 obtain⟨i,hi⟩:=JZ ha;have hl:i<G.length:=by rw[<-h.len];exact lt_of_get hi
 have r:=h.obj i G[i] a (zH hl) hi;rcases e:G[i]with l|l|l|l
 ·rw[e]at r;obtain⟨_,e,_⟩:=r;exact I.hok.lt e
 ·
   rw[e]at r;obtain⟨ws,e,_⟩:=r;rcases e with⟨o,e⟩|e
   ·exact I.hok.lt e
   · rcases e with(e|⟨o,e⟩)|⟨o,Nj,n,e,_⟩
     ·exact u5 e
     ·exact u5 e
     ·exact zj (I.kIn a o e)
 ·rw[e]at r;obtain⟨_,e,_⟩:=r;exact I.hok.lt e
 ·rw[e]at r;obtain⟨_,_,e,_⟩:=r;exact I.hok.lt e
end
def PTs(X:Cx)(ifs:List Expr)(t:TT):Prop:=
 ∀(Ng:PNS) (s:zm) (U:St) (H:Hp) (Q:Bool->Hp->Prop),Inv X Ng U H s->t U H Q->
  zv (zD X.prog X.w) X.A (forIn ifs true λc r=>if r=true then do let ok <-isTrue c X.env (eval c X.env);pure (ForInStep.yield ok)else pure (ForInStep.yield r)) (TP X Ng U Q) X.xe s
structure DTs(X:Cx)(Z:XC)(ifs:List Expr)(f:DSt->M Bool):Prop where
 h:PTs X ifs (N9 (wc X) Z f)
def Z6:DSt->M Bool:=λ_=>pure true
theorem Dw:DTs X Z [] Z6:=⟨λNg s U H Q I Nk=>Nk.elim λX9 μ G sr h p=>wpAny_tests_nil ⟨H,I,c7.ok p h⟩⟩
def M9(g:Fg)(t:DSt->M Bool)(e:Fe)(ck:DH->Bool):List D->DSt->M (List D)
 |[]=>λ_ G=>if ck G then some (.ok [],G)else none
 | d :: r => λU G => if ck G then (do
    let WY <-g d U
    if <-t WY then do
     let y <-e WY
     let ys <-M9 g t e ck r WY
     pure (y::ys)
    else M9 g t e ck r WY:M (List D)) G else none
def T5(it:DSt->M Src)(caps:List (Option Nat))(g:Fg)(t:DSt->M Bool)(e:Fe):Fe:=λU=>do
 let s <-it U
 if s.items.length<=ze then do
  let ys <-noX (M9 g t e s.ck s.items (Z2 caps U))
  O1 (.lst ys)
 else M.stuck
theorem Cv(h:w5 c μ H X9 U):w5 c μ H (Z2 caps X9) (Z2 caps U):=by refine⟨by simp[Z2],λi d e=>?_⟩;obtain⟨j,e1,e2⟩:=iJ e;obtain⟨v,e3,r⟩:=h.2 j d e2;refine⟨v,?_,r⟩;unfold Z2;rw[jQ,e1];simp[e3]
section
set_option maxHeartbeats 1000000 in
def CKV(c:Wc)(Q:VK)(d:D)(X1:List Addr)(_:DH)(H':Hp):Prop:=∀v,f9 c X1 H' d v->Q v H'
def CKR(c:Wc)(Z:XC)(Q:VK)(ys d7:List D)(μ:List Addr)(G:DH)(H:Hp):Prop:=c7 c Z μ H (O1 (.lst (ys++d7)) G) (CKV c Q)
def PL(gg:Fg)(tt:DSt->M Bool)(fe:Fe)(ck:DH->Bool)(items:List D)(U:DSt)(y:D):M (List D):=do let ys <-M9 gg tt fe ck items U;pure (y::ys)
def fK(gg:Fg)(tt:DSt->M Bool)(fe:Fe)(ck:DH->Bool)(items:List D)(U:DSt)(b:Bool):M (List D):=if b=true then (do let y <-fe U;let ys <-M9 gg tt fe ck items U;pure (y::ys))else M9 gg tt fe ck items U
def VU(gg:Fg)(tt:DSt->M Bool)(fe:Fe)(ck:DH->Bool)(items:List D)(U:DSt):M (List D):=do if <-tt U then do {let y <-fe U;let ys <-M9 gg tt fe ck items U;pure (y::ys)}else M9 gg tt fe ck items U
inductive CG(X:Cx)(Z:XC)(Q:VK)(vs:List V)(DD:Addr)(ys:List D)(X1:List Addr)(H5:Hp)(m:DSt->M (List D))(WR:St)(H6:Hp):Prop
 |mk (WU:DSt) (μ6:List Addr) (G6:DH) (s:w5 (wc X) μ6 H6 WU WR) (h:o8 (wc X) μ6 G6 H6) (u:UH (wc X) DD vs X1 H5 (λX9 μ G H=>c7 (wc X) ZF μ H (m X9 G) (CKR (wc X) Z Q ys)) WU μ6 G6 H6)
inductive CT(X:Cx)(Z:XC)(Q:VK)(vs:List V)(DD:Addr)(ys:List D)(WU:DSt)(WR:St)(μ6:List Addr)(H6:Hp)(m:Bool->M (List D))(b:Bool)(H7:Hp):Prop
 |mk (WP:List Addr) (G7:DH) (s:w5 (wc X) WP H7 WU WR) (h:o8 (wc X) WP G7 H7) (u:UH (wc X) DD vs μ6 H6 (λb μ G H=>c7 (wc X) ZF μ H (m b G) (CKR (wc X) Z Q ys)) b WP G7 H7)
inductive CE(X:Cx)(Z:XC)(Q:VK)(vs:List V)(DD:Addr)(ys:List D)(WU:DSt)(WR:St)(WP:List Addr)(H7:Hp)(m:D->M (List D))(v:V)(H8:Hp):Prop
 |mk (y:D) (μ8:List Addr) (G8:DH) (r:f9 (wc X) μ8 H8 y v) (s:w5 (wc X) μ8 H8 WU WR) (h:o8 (wc X) μ8 G8 H8) (u:UH (wc X) DD vs WP H7 (λy μ G H=>c7 (wc X) ZF μ H (m y G) (CKR (wc X) Z Q ys)) y μ8 G8 H8)
inductive EH(Y:Cx)(Z:XC)(Q:VK)(gg:Fg)(tt:DSt->M Bool)(fe:Fe)(src:Src)(fp:List Addr)(tn:Nat->Heap->Prop)(DD:Addr)(WX:List Addr)(H2:Hp)(n:Nat)(s':zm):Prop
 |mk (i:Nat) (ys:List D) (vs:List V) (X2:St) (H':Hp) (WW:DSt) (X1:List Addr) (G':DH) (e:n=src.items.length-i) (hi:i<=src.items.length) (hv:vs.length<=i)
    (I:Inv Y [] X2 H' s') (st:tn i s'.heap) (fr:∀b∈fp,H' b=none) (hs:H' DD=some (.lst vs)) (nD:DD∉X1)
    (x:Ext WX H2 X1 (hide DD H')) (h:o8 (wc Y) X1 G' (hide DD H')) (sr:w5 (wc Y) X1 (hide DD H') WW X2) (rl:m9 (wc Y) X1 (hide DD H') ys vs)
    (p:c7 (wc Y) ZF X1 (hide DD H') (M9 gg tt fe src.ck (src.items.drop i) WW G') (CKR (wc Y) Z Q ys))
theorem PR{Y:Cx}{Q:VK}{src:Src}{tn:Nat->Heap->Prop}{DD it:Addr}{H2:Hp}{J:It}{R:Result->zm->Prop}(hcX:Y.calm=true)(hg:DG Y ZF tg gg)(ht:DTs Y ZF ifs tt)(he:DE Y ZF elt fe)(T:D5 Y.prog Y.w Y.K tg J fp it tn)
 (fpX:∀(H':Hp) (b:Addr),b∈fp->H' b=none->Q2 Y [] H' b) (hJ:ItD (wc Y) WX H2 J src) (Nm:src.items.length<=ze) (fin:∀(H':Hp) (X2:St) (s4:zm),Inv Y [] X2 H' s4->Q (.ref DD) H'->R (.ok .next) s4) (n:Nat) (s':zm) (h:EH Y Z Q gg tt fe src fp tn DD WX H2 n s') {NX:zm->Prop} (nx:∀m s,m<n->EH Y Z Q gg tt fe src fp tn DD WX H2 m s->NX s):
 zv (zD Y.prog Y.w) Y.A (Xn (.ref it)) (λr W1=>match r with
  |none=>R (.ok .next) W1
  | some v => zv (zD Y.prog Y.w) Y.A (xT tg (.ref it) v) (λ_ s₁' => zv (zD Y.prog Y.w) Y.A (Yr tg Y.env v) (λ_ s₂ =>
     zv (zD Y.prog Y.w) Y.A (forIn ifs true λc r=>if r=true then do let ok <-isTrue c Y.env (eval c Y.env);pure (ForInStep.yield ok)else pure (ForInStep.yield r)) (λok s₃=>
      if ok=true then zv (zD Y.prog Y.w) Y.A (eval elt Y.env) (λx s₄=>
       zv (zD Y.prog Y.w) Y.A (call (.builtin "list.append") [.ref DD,x]) (λ_ s₅=>NX s₅) Y.xe s₄) Y.xe s₃
      else NX s₃) Y.xe s₂) Y.xe s₁') Y.xe W1) Y.xe s':=by
 obtain⟨i,ys,vs,X2,H',WW,X1,G',rfl,hi',hvl,I',Nv,fr',hvs,nD',x',h',sr',rl,p'⟩:=h;by_cases Nw:i<src.items.length
 · rw[xE Nw]at p';unfold M9 at p';split at p'
   case isFalse=>exact p'.elim
   rename_i ck;obtain⟨q1,_⟩:=hJ X1 G' H' x'.unhide h'.unhide ck i;obtain⟨go,yl⟩:=q1 _ (zH Nw);refine thn (T.item (Y) rfl rfl rfl hcX i [] s' X2 H' Y.xe I' (λb hb=>fpX H' b hb (fr' b hb)) Nv go) λr s4 z4=>?_;obtain⟨u,rfl,h4⟩:=z4;refine thn h4 λ_ s5 z5=>?_;obtain⟨x,H5,I5,r5,y5,st5,fr5⟩:=z5;obtain⟨k5,h5,rx5⟩:=yl x H5 y5;obtain⟨e5,n5,k5'⟩:=k5.hide nD' hvs;have I5':=I5.pinned (λb hb=>fpX H5 b hb (fr5 b hb)) (T.obj _ _ st5);have keepIt:∀ {WQ:St} {H7:Hp} {s7:zm},Inv (Y) ([]++AC fp s5.heap) WQ H7 s7->Inv (Y) [] WQ H7 s7/\tn (i+1) s7.heap/\∀b∈fp,H7 b=none:=λ{WQ H7 s7} I7=>by refine⟨I7.unpinned,T.keep _ _ _ st5 λb hb o e=>(I7.pin (b,o) (zT _ (zT _ (iE hb e)))).1,λb hb=>?_⟩;obtain⟨o,e,d⟩:=T.obj _ _ st5 b hb;exact(I7.pin (b,o) (zT _ (zT _ (iE hb e)))).2.1
   have p5:=c7.unhide (Z:=ZF) n5 e5 (c7.bind (p'.from k5'));refine thn (hg.h _ s5 X2 H5 x u _ I5' r5 ⟨_,WW,X1,G',rx5,(sr'.mono k5').sq IB,h5,p5.mono λWU μ6 G6 H6 x6 h6 q6 WR sr6=>(⟨WU,μ6,G6,sr6,h6,q6⟩:CG Y Z Q vs DD ys X1 H5 (VU gg tt fe src.ck (src.items.drop (i+1))) WR H6)⟩) λ_ s6 z6=>?_;obtain⟨WR,H6,I6,WU,μ6,G6,sr6,h6,e6,n6,hh6,x6,p6⟩:=z6;have p6':=c7.unhide (Z:=ZF) n6 e6 (c7.bind p6);refine thn (ht.h _ s6 WR H6 (CT Y Z Q vs DD ys WU WR μ6 H6 (fK gg tt fe src.ck (src.items.drop (i+1)) WU)) I6 ⟨WU,μ6,G6,sr6,h6,p6'.mono λb WP G7 H7 x7 h7 q7=>⟨WP,G7,sr6.mono x7,h7,q7⟩⟩) λb s7 z7=>?_;obtain⟨H7,I7,WP,G7,sr7,h7,e7,n7,hh7,x7,p7⟩:=z7;unfold fK at p7;have x27:Ext WX H2 WP (hide DD H7):=x'.trans (k5'.trans (x6.trans x7));have rl7:m9 (wc Y) WP (hide DD H7) ys vs:=rl.mono (k5'.trans (x6.trans x7));rcases b with _|_
   ·
     rw[if_neg zG]at p7 ⊢;obtain⟨I8,st8,fr8⟩:=keepIt I7;exact nx _ _ (Yv _ _ Nw) ⟨i+1,ys,vs,WR,H7,WU,WP,G7,rfl,Nw,Nat.le_succ_of_le hvl,I8,st8,fr8,e7,n7,x27,hh7,sr7.sq (oA e7),rl7,p7⟩
   ·
     rw[if_pos rfl]at p7 ⊢;have p7':=c7.unhide (Z:=ZF) n7 e7 (c7.bind p7);refine thn (he.h _ s7 WR H7 (CE Y Z Q vs DD ys WU WR WP H7 (PL gg tt fe src.ck (src.items.drop (i+1)) WU)) I7 ⟨WU,WP,G7,sr7,h7,p7'.mono λy μ8 G8 H8 x8 h8 q8 v rv=>⟨y,μ8,G8,rv,sr7.mono x8,h8,q8⟩⟩) λyu s8 z8=>?_;obtain⟨yv,H8,I8,ry,y,μ8,G8,ryd,sr8,h8,e8,n8,hh8,x8,p8⟩:=z8;unfold PL at p8;refine thn (GH _ s8 WR H8 (.ref DD) [yv] (.ref DD) [yu] (λ_ H9=>H9=upd H8 DD (.lst (vs++[yv]))) I8 rfl (.cons ry .nil) ⟨DD,vs,yv,rfl,rfl,e8,by lia,rfl⟩) λ_ s9 z9=>?_;obtain⟨_,H9,I9,_,rfl⟩:=z9;obtain⟨I10,st10,fr10⟩:=keepIt I9;have hd9:hide DD (upd H8 DD (.lst (vs++[yv])))=hide DD H8:=TC;refine nx _ _ (Yv _ _ Nw) ⟨i+1,ys++[y],vs++[yv],WR,_,WU,μ8,G8,rfl,Nw,by rw[za];exact Nat.succ_le_succ hvl,I10,st10,fr10,v9,n8,?_,?_,?_,?_,?_⟩
     ·rw[hd9];exact x27.trans x8
     ·rw[hd9];exact hh8
     ·rw[hd9];exact sr8.sq (oA e8)
     ·rw[hd9];exact(rl7.mono x8).append ⟨yv, [],rfl,ryd.sq (oA e8),rfl⟩
     ·rw[hd9];refine(c7.bind p8).mono λd7 μ'' G'' H'' x'' h'' q''=>?_;have q3:=c7.ok q'' h'';show c7 (wc Y) Z μ'' H'' (O1 (.lst (ys++[y]++d7)) G'') (CKV (wc Y) Q);rw[zu];exact q3
 · have e:i=src.items.length:=by lia
   subst e;rw[List.drop_length]at p';unfold M9 at p';split at p'
   case isFalse=>exact p'.elim
   rename_i ck;obtain⟨_,q2⟩:=hJ X1 G' H' x'.unhide h'.unhide ck src.items.length;refine thn (T.done (Y) rfl rfl rfl hcX src.items.length [] s' X2 H' Y.xe I' (λb hb=>fpX H' b hb (fr' b hb)) Nv (q2 (zk _))) λr s4 ⟨hr,I4⟩=>?_;subst hr;have p9:c7 (wc Y) Z X1 (hide DD H') (O1 (.lst (ys++[])) G') (CKV (wc Y) Q):=c7.ok p' h';rw[zX]at p9;have q9:=h9 (q:=DD) h' rl p9 dB;rw[IX hvs]at q9;exact fin H' X2 s4 I4 q9
theorem MW{use:Option (zg->Sem Unit)}{Q:VK}{ps:Pos}{Ng:PNS}{s:zm}{U:St}{H:Hp}{X9:DSt}{G:DH}(hc:X.calm=true)(hi:DI X Z tg iter it)(k:A5 X scope N caps)
 (hg:∀C s H ex,DG (U4 X scope N C s H ex) ZF tg gg) (ht:∀C s H ex,DTs (U4 X scope N C s H ex) ZF ifs tt) (he:∀C s H ex,DE (U4 X scope N C s H ex) ZF elt fe)
 (hs:∀x,Zd iter X.env x=pure x) (I:Inv X Ng U H s) (sr:w5 (wc X) μ H X9 U) (hr:o8 (wc X) μ G H) (p:c7 (wc X) Z μ H (T5 it caps gg tt fe X9 G) λd X1 _ H'=>∀v,f9 (wc X) X1 H' d v->Q v H')
 (fin:∀(DD C:Addr) (s4:zm) (H':Hp) m (o:Flow),s4.heap.Ns C m->(∀h'',xU C s4.heap h''->Inv X Ng U H' {s4 with heap:=h''})->H' C=none->(∀H9:Hp,H9 C=none->Q2 X Ng H9 C)->Q (.ref DD) H'->compPost (zD X.prog X.w) X.A X.xe use PQ (.ref DD) C (.ok o) s4):
 zv (zD X.prog X.w) X.A (comprehension (.ListComp elt [⟨tg,iter,ifs,0⟩] scope pos) scope X.env ps (newList []) false (eval iter X.env) use) PQ X.xe s:=by
 replace p:c7 (wc X) Z μ H (T5 it caps gg tt fe X9 G) (CKV (wc X) Q):=p;have p1:=c7.bind p;refine wpAny_comprehension_free rfl hs (Hb (k.cells I.ok)) k.kind k.names ?_;refine thn (hi.h Ng s U H (λJ H1=>∃src X0 G1,Ext μ H X0 H1/\o8 (wc X) X0 G1 H1/\ItD (wc X) X0 H1 J src/\
  c7 (wc X) Z X0 H1 ((if src.items.length<=ze then (do let ys <-noX (M9 gg tt fe src.ck src.items (Z2 caps X9));O1 (.lst ys))else M.stuck:M D) G1) (CKV (wc X) Q))
  I ⟨X9,μ,G,sr,hr,p1.mono λsrc X0 G1 H1 x1 h1 p1 J hJ=>⟨src,X0,G1,x1,h1,hJ,p1⟩⟩) λv s1 q1=>thn q1 λitv s2 q2=>?_
 obtain⟨itA,fp,tn,J,H2,rfl,I2,T,st2,f2,src,WX,G2,x2,h2,hJ,p2⟩:=q2;split at p2
 case isFalse=>exact p2.elim
 rename_i Nm;have hfp:∀b∈fp,b<s2.heap.objs.size:=λb hb=>by obtain⟨o,e,_⟩:=T.obj _ _ st2 b hb;exact zj e
 refine yw (wpAny_newFunctionEnv k.cell (by intro y hy;simp at hy) (λh₁ hns₁ hsb₁=>?_) k.kind);dsimp only at hns₁ hsb₁ ⊢;generalize hHP:s2.heap.push {cls:=.type "list",dict:=none,data:=.seq ([]:List zg).toArray}=HP at hns₁ hsb₁ ⊢;have hC:HP.objs.size=s2.heap.objs.size+1:=by rw[<-hHP,yT]
 have hCl:s2.heap.objs.size<HP.objs.size:=by rw[hC];exact yY _
 have hDC:s2.heap.objs.size≠HP.objs.size:=zB hCl;have old:∀b o,s2.heap.get? b=some o->h₁.get? b=some o:=λb o e=>hsb₁.extBut b o (by have:=zj e;exact zB (Xa this hCl)) (zf _ (hHP▸zf _ e));have Pz:h₁.get? s2.heap.objs.size=some {cls:=.type "list",data:=.seq ([]:List zg).toArray 0}:=hsb₁.extBut _ _ hDC (zf _ (hHP▸zy _ rfl));have hD:H2 s2.heap.objs.size=none:=I2.hok.fresh (zk _);have nD:s2.heap.objs.size∉WX:=λz=>xk _ (h2.mem_lt I2 z);have st1:tn 0 h₁:=T.keep _ _ _ st2 λb _ o e=>old b o e;have fpX:∀(H':Hp) (b:Addr),b∈fp->H' b=none->Q2 (U4 X scope N HP.objs.size s2 H2 fp) [] H' b:=λH' b hb hn=>
  ⟨hn,zB (Xa (hfp b hb) hCl),λz=>by
   rcases zl.mp (I2.stkSub b z)with e|e
   ·exact(f2 b hb).2.1 e
   ·exact(f2 b hb).2.2.1 e,.inl hb,λx c e=>(f2 b hb).2.2.2.2.1 x c (Q3 e),λp hp=>absurd (show p∈([]:PNS)from hp) (by simp)⟩
 have hcX:(U4 X scope N HP.objs.size s2 H2 fp).calm=true:=hc;have p3:=eM (c7.bind p2);generalize hDD:s2.heap.objs.size=DD at *;have loop:∀s₃:zm,s₃= {s2 with heap:=h₁,toks:=s2.toks+([]:List (Str×zg)).length}->
  Yq (zD X.prog X.w) X.A (.compLoop (.ListComp elt [⟨tg,iter,ifs,0⟩] scope pos) 0 (.ref itA) (.ref DD) (compEnvC scope (w4 X.env scope.names []) HP.objs.size X.env))
   (compPost (zD X.prog X.w) X.A X.xe use PQ (.ref DD) HP.objs.size) s₃:=by
  rintro s₃ rfl;refine Hk (EH (U4 X scope N HP.objs.size s2 H2 fp) Z Q gg tt fe src fp tn DD WX H2) (λn s' h=>PR hcX (hg _ _ _ _) (ht _ _ _ _) (he _ _ _ _) T fpX hJ Nm (λH' X2 s4 I4 q9=>?_) n s' h λm s h1 h2=>⟨m,h1,h2⟩) src.items.length
   ⟨0, [], [],Z2 caps U,upd H2 DD (.lst []),Z2 caps X9,WX,G2,rfl,xa _,zk _,?_,st1,λb hb=>?_,v9,nD,?_,?_,?_,rfl,?_⟩
  ·obtain⟨m,hn,_⟩:=I4.loc;exact fin DD HP.objs.size s4 H' m _ hn (λh'' sb=>LV I2 (λb hb=>f2 b hb) (by rw[hDD];exact hCl) I4 sb) I4.free (λH9 hn9=>I2.fpOk (by rw[hDD];exact xD hCl) hn9) q9
  ·have:=GS (tk:=s2.toks+([]:List (Str×zg)).length) I2 k (by rw[hDD];exact hCl) f2 (λb hb=>by rw[hDD];exact hfp b hb) old hns₁ (by rw[hDD];exact Pz);rw[hDD]at this;exact this
  ·rw[t6 (zB (hfp b hb))];exact(f2 b hb).1
  ·rw[TC,fF hD];exact Ext.refl _ _
  ·rw[TC,fF hD];exact h2
  ·rw[TC,fF hD];exact Cv (sr.mono x2)
  ·rw[TC,fF hD,List.drop_zero];exact p3
 exact codeAny_compStart_list (loop _ rfl) (T.self _ 0 _ _ _ st1 (loop _ rfl))
theorem lZ(hc:X.calm=true)(hi:DI X Z tg iter it)(k:A5 X scope N caps)
 (hg:∀C s H ex,DG (U4 X scope N C s H ex) ZF tg gg) (ht:∀C s H ex,DTs (U4 X scope N C s H ex) ZF ifs tt) (he:∀C s H ex,DE (U4 X scope N C s H ex) ZF elt fe)
 (hs:∀x,Zd iter X.env x=pure x):DE X Z (.ListComp elt [⟨tg,iter,ifs,0⟩] scope pos) (T5 it caps gg tt fe):=⟨by
 intro Ng s U H Q I Nk;refine Nk.elim λX9 μ G sr hr p=>?_;rw[eval_ListComp];exact MW hc hi k hg ht he hs I sr hr p λDD C s4 H' m o hn fin _ _ q9=>⟨m,hn,λh'' sb=>⟨.ref DD,H',fin h'' sb,rfl,q9⟩⟩⟩
end
def K6(r:Nat):M DO:=λG=>match G[r]? with
 |some o=>some (.ok o,G)
 |none=>none
def listOf:DO->M (List D)
 | .lst l=>pure l
 | .rol l=>pure l
 | .dct _=>M.stuck
 | .rod _=>M.stuck
def tT:D->M (List D)
 | .tup l=>pure l
 | .ref r=>K6 r >>= listOf
 |_=>M.stuck
def S1{α:Type}:Option α->M α
 |some a=>pure a
 |none=>M.stuck
section
theorem IxR.mono(h:IxR X r)(k:∀x y H Q,r' x y H Q->r x y H Q):IxR X r':=λva sl Ng s U H x y v u Q I rx ry q hs=>h va sl Ng s U H x y v u Q I rx ry (k x y H Q q) hs
theorem J8{f:DO->M α}{K:α->List Addr->DH->Hp->Prop}(p:c7 c Z μ H ((K6 r >>= f) G) K):∃o,G[r]? =some o/\c7 c Z μ H (f o G) K:=by
 rw[M.bind_eq]at p;unfold K6 at p;rcases e:G[r]? with _|o
 ·rw[e]at p;exact p.elim
 ·rw[e]at p;exact⟨o,rfl,p⟩
theorem U5{r:Option β}{f:β->M α}{K:α->List Addr->DH->Hp->Prop}(p:c7 c Z μ H ((S1 r >>= f) G) K):∃o,r=some o/\c7 c Z μ H (f o G) K:=by
 rcases r with _|o
 ·exact p.elim
 ·exact⟨o,rfl,p⟩
theorem rH{f:List D->M α}{K:α->List Addr->DH->Hp->Prop}(h:o8 c μ G H)(r:f9 c μ H d v)(p:c7 c Z μ H ((tT d >>= f) G) K):
 ∃l a vs,v= .ref a/\m9 c μ H l vs/\c7 c Z μ H (f l G) K/\((d= .tup l/\SqT c.K H a vs)\/(∃i,d= .ref i/\μ[i]? =some a/\((G[i]? =some (.lst l)/\H a=some (.lst vs))\/(G[i]? =some (.rol l)/\RoL c.K H a vs)))):=by
 rcases d with _|_|_|_|l|i|_|_<;>try (exact p.elim;done)
 ·
   unfold f9 at r;obtain⟨a,vs,e,q,rl⟩:=r;exact⟨l,a,vs,e,rl,p,.inl ⟨rfl,q⟩⟩
 ·
   unfold f9 at r;obtain⟨a,m,e⟩:=r;have p':c7 c Z μ H ((K6 i >>= λo=>listOf o >>= f) G) K:=by rw[<-M.bind_assoc];exact p
   obtain⟨o,g,p2⟩:=J8 p';have ro:=h.obj i o a g m;rcases o with l|l|l|l
   ·obtain⟨vs,q,rl⟩:=ro;exact⟨l,a,vs,e,rl,p2,.inr ⟨i,rfl,m,.inl ⟨g,q⟩⟩⟩
   ·obtain⟨vs,q,rl⟩:=ro;exact⟨l,a,vs,e,rl,p2,.inr ⟨i,rfl,m,.inr ⟨g,q⟩⟩⟩
   ·exact p2.elim
   ·exact p2.elim
theorem A1(r:f9 c μ H (.int i) v):v= .int i:=by unfold f9 at r;exact r
theorem A2(r:f9 c μ H (.str i) v):v= .str i:=by unfold f9 at r;exact r
theorem vA(r:f9 c μ H (.bl i) v):v= .bl i:=by unfold f9 at r;exact r
theorem ON(r:f9 c μ H .non v):v= .non:=by unfold f9 at r;exact r
theorem ofI:f9 c μ H (.int i) (.int i):=by unfold f9;rfl
theorem ofS:f9 c μ H (.str i) (.str i):=by unfold f9;rfl
theorem ofB:f9 c μ H (.bl i) (.bl i):=by unfold f9;rfl
theorem ofN:f9 c μ H .non .non:=by unfold f9;rfl
def rA(g:Int->Int->M D):D->D->M D:=λx y=>match x,y with
 | .int i,.int j=>g i j
 |_,_=>M.stuck
theorem BF[∀i j,Decidable (C i j)]{g:Int->Int->Int}(h:OpR X f (rI C λi j=>.int (g i j))):OpD X Z f (rA λi j=>if C i j then pure (.int (g i j))else M.stuck):=
 OpD.of h λx y H Q Nk=>Nk.elim λdx dy μ G rx ry hr p=>by
  rcases dx with _|_|_|_|_|_|_|_<;>rcases dy with _|_|_|_|_|_|_|_<;>first
   |exact p.elim
   |skip
  rename_i i j;unfold rA at p;dsimp only at p;split at p
  ·rename_i hc;exact⟨i,j,A1 rx,A1 ry,hc,c7.ok p hr _ ofI⟩
  ·exact p.elim
theorem qZ{g:Int->Int->Int}(h:OpR X f (L7 λi j=>.int (g i j))):OpD X Z f (rA λi j=>pure (.int (g i j))):=
 OpD.of h λx y H Q Nk=>Nk.elim λdx dy μ G rx ry hr p=>by
  rcases dx with _|_|_|_|_|_|_|_<;>rcases dy with _|_|_|_|_|_|_|_<;>first
   |exact p.elim
   |exact⟨_,_,A1 rx,A1 ry,c7.ok p hr _ ofI⟩
def y3:D->D->M D:=rA λi j=>pure (.int (i-j))
theorem KW:OpD X Z (yg .Sub) y3:=qZ rM
instance (i j:Int):Decidable (E5 i j):=by unfold E5;infer_instance
def FA(_ j:Int):Prop:=0<j/\j<2 ^ 100
instance (i j:Int):Decidable (FA i j):=by unfold FA;infer_instance
theorem qT:OpR X (yg .FloorDiv) (rI FA λi j=>.int (i / j)):=opI λi j _ _ _ _ _ hc q=>by
 have h1:(0:Int)<j:=hc.1;have h2:j<2 ^ 100:=hc.2;refine floordiv_int (by lia) (by rw[Int.fdiv_eq_ediv_of_nonneg i (by lia)];exact q) (.inl (PyProof.noPylong_of_log2 ?_));have h3:j.natAbs<2 ^ 100:=by lia
 have h4:j.natAbs≠0:=by lia
 have:=(Nat.log2_lt h4).mpr h3;lia
def IA:D->D->M D:=rA λi j=>if FA i j then pure (.int (i / j))else M.stuck
theorem Dq:OpD X Z (yg .FloorDiv) IA:=BF qT
def x5:D->D->M D:=rA λi j=>if 0<j then pure (.int (i % j))else M.stuck
theorem KZ:OpD X Z (yg .Mod) x5:=BF qX
instance (i j:Int):Decidable (QA i j):=by unfold QA;infer_instance
def eC:D->D->M D:=rA λi j=>if QA i j then pure (.int (i ^ j.toNat))else M.stuck
theorem OX:OpD X Z (yg .Pow) eC:=BF uN
theorem Bp{w:zO}{s:zm}{t b:Addr}{ws:List zg}(ht:IsTup s.heap t #[])(hb:IsTup s.heap b ws.toArray)
 (h1:Q (.ref b) s):zv (zD prog w) A (yg .Add (.ref t) (.ref b)) Q E s:=by
 obtain⟨⟨cls,dd,data,sl⟩,ho,hc,n,hd⟩:=id ht;obtain⟨⟨cls2,dd2,data2,sl2⟩,Qb,hc2,n2,hd2⟩:=id hb;simp only at hc hd hc2 hd2;subst hc hd hc2 hd2;exact concat_meets ⟨_,ho,rfl⟩ ⟨_,Qb,rfl⟩ Jc seq_tuple_add ZK Zz (Zw _ _)
  (tuple_addW0 t b #[] ws.toArray n n2 dd dd2 sl sl2 (by simp)) ⟨ho,Qb,h1⟩
def rV(K:zd):R2:=λx y H Q=>∃a b ys,x= .ref a/\y= .ref b/\SqT K H a []/\SqT K H b ys/\Q (.ref b) H
theorem iU:OpR X (yg .Add) (rV X.K):=by
 intro Ng s U H x y v u Q I rx ry h;obtain⟨a,b,ys,rfl,rfl,ha,hb,q⟩:=h
 cases rx
 cases ry
 obtain⟨Nj,r,p,_⟩:=I.tuple ha;obtain⟨Pv,r2,p2,_⟩:=I.tuple hb
 cases r
 exact Bp p p2 ⟨.ref b,H,I,rfl,q⟩
def addD:D->D->M D:=λx y=>match x,y with
 | .int i,.int j=>pure (.int (i+j))
 | .str a,.str b=>if a.length+b.length<=ze then pure (.str (a++b))else M.stuck
 | .tup a,.tup b=>if a.length+b.length<=ze then pure (.tup (a++b))else M.stuck
 | .ref i,.ref j=>do
   match <-K6 i,<-K6 j with
   | .lst a,.lst b=>if a.length+b.length<=ze then O1 (.lst (a++b))else M.stuck
   |_,_=>M.stuck
 |_,_=>M.stuck
theorem sG{Q:VK}(h:o8 c μ G H)(q:SqT c.K H a vs)(r:m9 c μ H xs vs)
 (p:c7 c Z μ H (some (Except.ok (.tup xs),G)) λd X1 _ H'=>∀v,f9 c X1 H' d v->Q v H'):Q (.ref a) H:=c7.ok p h _ (by unfold f9;exact⟨a,vs,rfl,q,r⟩)
theorem vR:OpD X Z (yg .Add) addD:=
 OpD.of (OpR.or EW (OpR.or ER (OpR.or cR (OpR.or iU fU)))) λx y H Q Nk=>Nk.elim λdx dy μ G rx ry hr p=>by
  rcases dx with _|_|_|_|_|_|_|_<;>rcases dy with _|_|_|_|_|_|_|_<;>first
   |exact p.elim
   |skip
  ·exact .inl ⟨_,_,A1 rx,A1 ry,c7.ok p hr _ ofI⟩
  · rename_i a b;refine .inr (.inl ?_);unfold addD at p;dsimp only at p;split at p
    ·rename_i hz;exact⟨a,b,A2 rx,A2 ry,hz,c7.ok p hr _ ofS⟩
    ·exact p.elim
  · rename_i a b;unfold f9 at rx ry;obtain⟨ax,vx,rfl,qx,lx⟩:=rx;obtain⟨ay,vy,rfl,qy,ly⟩:=ry;unfold addD at p;dsimp only at p;split at p
    · rename_i hz;by_cases hv:vx= []
      · subst hv;rcases a with _|⟨_,_⟩
        ·exact .inr (.inr (.inr (.inl ⟨ax,ay,vy,rfl,rfl,qx,qy,sG hr qy ly p⟩)))
        ·obtain⟨_,_,z,_⟩:=lx;cases z
      · refine .inr (.inr (.inl ⟨ax,ay,vx,vy,rfl,rfl,qx,qy,hv,by rw[<-lx.length,<-ly.length];exact hz,?_⟩));refine⟨λhy=>?_,λhy q hq=>ID hr (lx.append ly) p q hq⟩;subst hy;refine sG hr qx ?_ p;rcases b with _|⟨_,_⟩
        ·rw[zX];exact lx
        ·obtain⟨_,_,z,_⟩:=ly;cases z
    ·exact p.elim
  · rename_i i j;unfold f9 at rx ry;obtain⟨ax,mx,rfl⟩:=rx;obtain⟨ay,my,rfl⟩:=ry;obtain⟨ox,gx,p⟩:=J8 p;obtain⟨oy,gy,p⟩:=J8 p;have hx:=hr.obj i ox ax gx mx;have hy:=hr.obj j oy ay gy my;rcases ox with _|_|_|_<;>rcases oy with _|_|_|_<;>first
     |exact p.elim
     |skip
    obtain⟨vx,ex,lx⟩:=hx;obtain⟨vy,ey,ly⟩:=hy;dsimp only at p;split at p
    ·rename_i hz;exact .inr (.inr (.inr (.inr ⟨ax,ay,vx,vy,rfl,rfl,ex,ey,by rw[<-lx.length,<-ly.length];exact hz,λq hq=>h9 hr (lx.append ly) p q hq⟩)))
    ·exact p.elim
end
def Q6(G:DH):D->Option (Bool×List D)
 | .tup l=>some (true,l)
 | .ref i=>match G[i]? with
   |some (.lst l)=>some (false,l)
   |some (.rol l)=>some (false,l)
   |_=>none
 |_=>none
def B6:D->Bool
 | .non=>true
 | .bl _=>true
 | .int _=>true
 | .str _=>true
 |_=>false
def eqS:D->D->Option Bool
 | .non,.non=>some true
 | .bl a,.bl b=>some (a==b)
 | .int a,.int b=>some (a==b)
 | .str a,.str b=>some (a==b)
 | .bl a,.int b=>some ((if a then (1:Int)else 0)==b)
 | .int a,.bl b=>some (a==(if b then (1:Int)else 0))
 |x,y=>if B6 x&&B6 y then some false else none
def eqL(f:D->D->Option Bool):List D->List D->Option Bool
 |[], []=>some true
 |[],_::_=>some false
 |_::_, []=>some false
 |x::xs,y::ys=>match f x y,eqL f xs ys with
   |some e,some r=>some (e&&r)
   |_,_=>none
def eqN:Nat->DH->D->D->Option Bool
 |0,_,_,_=>none
 |n+1,G,x,y=>match Q6 G x,Q6 G y with
   |some (k1,a),some (k2,b)=>if k1=k2 then (if k1=false/\a.length≠b.length then some false else eqL (eqN n G) a b)else some false
   |some _,none=>if B6 y then some false else none
   |none,some _=>if B6 x then some false else none
   |none,none=>eqS x y
theorem CA:eqN (n+1) G x y=match Q6 G x,Q6 G y with
 |some (k1,a),some (k2,b)=>if k1=k2 then (if k1=false/\a.length≠b.length then some false else eqL (eqN n G) a b)else some false
 |some _,none=>if B6 y then some false else none
 |none,some _=>if B6 x then some false else none
 |none,none=>eqS x y:=rfl
theorem lG:eqL f (x::xs) (y::ys)=match f x y,eqL f xs ys with
 |some e,some r=>some (e&&r)
 |_,_=>none:=rfl
theorem SL:∀a b r,eqL f a b=some r->(∀j x y,a[j]? =some x->b[j]? =some y->f x y=some (e j))->r= ((jJ (min a.length b.length)).all e&&a.length==b.length)
 |[], [],r,h,_=>by cases h;rfl
 |[],_::_,r,h,_=>by cases h;simp
 |_::_, [],r,h,_=>by cases h;simp
 |x::xs,y::ys,r,h,he=>by
   rw[lG]at h;have h0:=he 0 x y rfl rfl;rw[h0]at h;rcases hr:eqL f xs ys with _|r'
   ·rw[hr]at h;exact u5 h
   ·
     rw[hr]at h;have ih:=SL xs ys r' hr λj x' y' h1 h2=>he (j+1) x' y' (by simpa using h1) (by simpa using h2)
     cases h
     rw[ih];have:min (x::xs).length (y::ys).length=min xs.length ys.length+1:=by simp only[zp];lia
     rw[this,ZV,jB,YW];simp[Bool.and_assoc,Yy]
theorem fG:∀a b r,eqL f a b=some r->∀(j:Nat) x y,a[j]? =some x->b[j]? =some y->∃e,f x y=some e
 |[],_,_,_,_,_,_,h,_=>by simp at h
 |_::_, [],_,_,_,_,_,_,h=>by simp at h
 |x::xs,y::ys,r,h,j,x',y',h1,h2=>by
   rw[lG]at h;rcases hf:f x y with _|e
   ·rw[hf]at h;exact u5 h
   ·
     rcases hr:eqL f xs ys with _|r'
     ·rw[hf,hr]at h;exact u5 h
     ·
       cases j with
       |zero=>simp at h1 h2;subst h1 h2;exact⟨e,hf⟩
       |succ j=>exact fG xs ys r' hr j x' y' (by simpa using h1) (by simpa using h2)
section
def fC(s:zm)(k:Bool)(a:Addr)(Nj:List zg):Prop:=if k then s.heap.IsTuple a Nj.toArray else s.heap.IsList a Nj.toArray
theorem y7(I:Inv X Ng U H s)(h:o8 (wc X) μ G H)(e:Q6 G d=some (k,l))(r:f9 (wc X) μ H d x)(rv:u9 x v):
 ∃a vs Nj,x= .ref a/\v= .ref a/\m9 (wc X) μ H l vs/\t8 vs Nj/\fC s k a Nj/\(if k then SqT X.K H a vs else SqL X.K H a vs):=by
 rcases d with _|_|_|_|l'|i|_|_<;>try (cases e;done)
 ·
   unfold Q6 at e
   cases e
   unfold f9 at r;obtain⟨a,vs,rfl,q,rl⟩:=r;obtain⟨Nj,rr,p,_⟩:=I.tuple q;exact⟨a,vs,Nj,rfl,rv,rl,rr,p,q⟩
 ·
   have e':(match G[i]? with|some (.lst l)=>some (false,l)|some (.rol l)=>some (false,l)|_=>none)=some (k,l):=e;unfold f9 at r;obtain⟨a,m,rfl⟩:=r;have key:∀vs,SqL X.K H a vs->m9 (wc X) μ H l vs->k=false->∃a' vs Nj,V.ref a= .ref a'/\v= .ref a'/\m9 (wc X) μ H l vs/\t8 vs Nj/\fC s k a' Nj/\(if k then SqT X.K H a' vs else SqL X.K H a' vs):=λvs q rl hk=>by subst hk;obtain⟨Nj,rr,p,_⟩:=I.list q;exact⟨a,vs,Nj,rfl,rv,rl,rr,p.isList,q⟩
   generalize g:G[i]? =o at e';rcases o with _|l'|l'|_|_<;>cases e'
   ·obtain⟨vs,q,rl⟩:=h.obj i _ a g m;exact key vs (SqL.of q) rl rfl
   ·obtain⟨vs,q,rl⟩:=h.obj i _ a g m;exact key vs q.sq rl rfl
theorem oN(hs:B6 d=true)(r:f9 c μ H d (.ref a)):False:=by
 cases d<;>first
  |exact absurd (show false=true from hs) zG
  |(unfold f9 at r;cases r)
theorem GM(h:eqS x y=some b):B6 x=true/\B6 y=true:=by
 rcases x with _|_|_|_|_|_|_|_<;>rcases y with _|_|_|_|_|_|_|_<;>first
  |exact⟨rfl,rfl⟩
  |(cases h;done)
theorem hV(h:eqS x y=some b)(rx:f9 c μ H x v)(ry:f9 c μ H y v):b=true:=by
 obtain⟨s1,s2⟩:=GM h;rcases x with _|_|_|_|_|_|_|_<;>rcases y with _|_|_|_|_|_|_|_<;>first
  |(cases s1;done)
  |(cases s2;done)
  |(unfold f9 at rx ry;rw[rx]at ry;cases ry;done)
  |(unfold f9 at rx ry;rw[rx]at ry;cases ry;cases h;first|rfl|simp)
theorem Mh(I:Inv X Ng U H s)(h1:fC s k a Nj)(h2:fC s k' a its'):k=k':=by
 cases k<;>cases k'<;>first
  |rfl
  |exact absurd rfl (Jw h1 h2)
  |exact absurd rfl (Jw h2 h1)
theorem aL:∀l l' vs b,m9 c μ H l vs->m9 c μ H l' vs->(∀d d' v b,v∈vs->f9 c μ H d v->f9 c μ H d' v->f d d'=some b->b=true)->eqL f l l'=some b->b=true
 |[], [],_,b,_,_,_,e=>by cases e;rfl
 |[],_::_,vs,b,r1,r2,_,_=>by cases r1;obtain⟨_,_,z,_⟩:=r2;exact dD z
 |_::_, [],vs,b,r1,r2,_,_=>by cases r2;obtain⟨_,_,z,_⟩:=r1;cases z
 |d::ds,d'::ds',vs,b,r1,r2,k,e=>by
   obtain⟨v0,vr,rfl,q0,t0⟩:=r1;obtain⟨v1,vr',e1,q1,t1⟩:=r2
   cases e1
   rw[lG]at e;rcases hf:f d d' with _|e0
   ·rw[hf]at e;exact u5 e
   ·
     rcases hr:eqL f ds ds' with _|r'
     ·rw[hf,hr]at e;exact u5 e
     ·
       rw[hf,hr]at e
       cases e
       have z1:=k d d' v0 e0 zh q0 q1 hf;have z2:=aL ds ds' vr r' t0 t1 (λa a' v b hm=>k a a' v b (zo _ hm)) hr;rw[z1,z2];rfl
theorem ML(I:Inv X Ng U H s)(h:o8 (wc X) μ G H):∀n {dx dy} {x} {v} {b},f9 (wc X) μ H dx x->f9 (wc X) μ H dy x->u9 x v->eqN n G dx dy=some b->b=true
 |0,_,_,_,_,_,_,_,_,e=>by exact u5 e
 |n+1,dx,dy,x,v,b,rx,ry,rv,e=>by
   rw[CA]at e;rcases hx:Q6 G dx with _|p
   ·
     rw[hx]at e;rcases hy:Q6 G dy with _|p
     ·rw[hy]at e;exact hV e rx ry
     ·
       obtain⟨k,l⟩:=p;rw[hy]at e;dsimp only at e;split at e
       ·rename_i hs;obtain⟨a,_,_,rfl,_⟩:=y7 I h hy ry rv;exact(oN hs rx).elim
       ·exact u5 e
   ·
     obtain⟨k,l⟩:=p;rw[hx]at e;rcases hy:Q6 G dy with _|p'
     ·
       rw[hy]at e;dsimp only at e;split at e
       ·rename_i hs;obtain⟨a,_,_,rfl,_⟩:=y7 I h hx rx rv;exact(oN hs ry).elim
       ·exact u5 e
     ·
       obtain⟨k',l'⟩:=p';rw[hy]at e;dsimp only at e;obtain⟨a,vs,Nj,rfl,rfl,rl,rr,sq,q⟩:=y7 I h hx rx rv;obtain⟨a',Pd,its',ea,_,Pf,rr',sq',q'⟩:=y7 I h hy ry rv
       cases ea
       have hk:k=k':=Mh I sq sq';subst hk;have hvs:vs=Pd:=by
        rcases k with _|_
        ·exact I.list_inj q q'
        ·exact I.tuple_inj q q'
       subst hvs;rw[if_pos rfl,if_neg (by rw[rl.length,Pf.length];simp)]at e;have hv:∀v∈vs,∃u,u9 v u:=λv hv=>by obtain⟨i,hi⟩:=JZ hv;obtain⟨u,_,ru⟩:=rr.get hi;exact⟨u,ru⟩
       exact aL l l' vs b rl Pf (λd d' v b hm r1 r2 ef=>by obtain⟨u,ru⟩:=hv v hm;exact ML I h n r1 r2 ru ef) e
theorem VR(rx:f9 c μ H dx x)(ry:f9 c μ H dy y)(rv:u9 x v)(ru:u9 y u)(e:eqS dx dy=some b):
 Yz A s v u b/\ZS A s v u (!b)/\yL A s v u b:=by
 obtain⟨s1,s2⟩:=GM e;rcases dx with _|i|i|i|_|_|_|_<;>try (cases s1;done)
 ·
   unfold f9 at rx;subst rx;cases rv;rcases dy with _|j|j|j|_|_|_|_<;>try (cases s2;done)
   ·unfold f9 at ry;subst ry;cases ru;cases e;exact⟨SeqAt.RcAt.none_none,SeqAt.RcNeAt.none_none,YG _⟩
   ·unfold f9 at ry;subst ry;cases ru;cases e;exact⟨SeqAt.RcAt.none_bool _,SeqAt.RcNeAt.none_bool _,XO _⟩
   ·unfold f9 at ry;subst ry;obtain⟨t,rfl⟩:=ru;cases e;exact⟨SeqAt.RcAt.none_int _ _,SeqAt.RcNeAt.none_int _ _,Jh _ _⟩
   ·unfold f9 at ry;subst ry;obtain⟨t,rfl⟩:=ru;cases e;exact⟨SeqAt.RcAt.none_str _ _,SeqAt.RcNeAt.none_str _ _,Jg _ _⟩
 ·
   unfold f9 at rx;subst rx;cases rv;rcases dy with _|j|j|j|_|_|_|_<;>try (cases s2;done)
   ·unfold f9 at ry;subst ry;cases ru;cases e;exact⟨SeqAt.RcAt.bool_none _,SeqAt.RcNeAt.bool_none _,XQ _⟩
   ·unfold f9 at ry;subst ry;cases ru;cases e;exact⟨SeqAt.RcAt.bool_bool _ _,SeqAt.RcNeAt.bool_bool _ _,XR _ _⟩
   ·unfold f9 at ry;subst ry;obtain⟨t,rfl⟩:=ru;cases e;exact⟨SeqAt.RcAt.bool_int _ _ _,SeqAt.RcNeAt.bool_int _ _ _,Jl _ _ _⟩
   ·unfold f9 at ry;subst ry;obtain⟨t,rfl⟩:=ru;cases e;exact⟨SeqAt.RcAt.bool_str _ _ _,SeqAt.RcNeAt.bool_str _ _ _,Jk _ _ _⟩
 ·
   unfold f9 at rx;subst rx;obtain⟨t,rfl⟩:=rv;rcases dy with _|j|j|j|_|_|_|_<;>try (cases s2;done)
   ·unfold f9 at ry;subst ry;cases ru;cases e;exact⟨SeqAt.RcAt.int_none _ _,SeqAt.RcNeAt.int_none _ _,Ji _ _⟩
   ·unfold f9 at ry;subst ry;cases ru;cases e;exact⟨SeqAt.RcAt.int_bool _ _ _,SeqAt.RcNeAt.int_bool _ _ _,Jj _ _ _⟩
   ·unfold f9 at ry;subst ry;obtain⟨t,rfl⟩:=ru;cases e;exact⟨SeqAt.RcAt.int_int _ _ _ _,SeqAt.RcNeAt.int_int _ _ _ _,Jr _ _ _ _⟩
   ·unfold f9 at ry;subst ry;obtain⟨t,rfl⟩:=ru;cases e;exact⟨SeqAt.RcAt.int_str _ _ _ _,SeqAt.RcNeAt.int_str _ _ _ _,Yi _ _ _ _⟩
 ·
   unfold f9 at rx;subst rx;obtain⟨t,rfl⟩:=rv;rcases dy with _|j|j|j|_|_|_|_<;>try (cases s2;done)
   ·unfold f9 at ry;subst ry;cases ru;cases e;exact⟨SeqAt.RcAt.str_none _ _,SeqAt.RcNeAt.str_none _ _,Je _ _⟩
   ·unfold f9 at ry;subst ry;cases ru;cases e;exact⟨SeqAt.RcAt.str_bool _ _ _,SeqAt.RcNeAt.str_bool _ _ _,Jf _ _ _⟩
   ·unfold f9 at ry;subst ry;obtain⟨t,rfl⟩:=ru;cases e;exact⟨SeqAt.RcAt.str_int _ _ _ _,SeqAt.RcNeAt.str_int _ _ _ _,Yh _ _ _ _⟩
   ·unfold f9 at ry;subst ry;obtain⟨t,rfl⟩:=ru;cases e;exact⟨SeqAt.RcAt.str_str _ _ _ _,SeqAt.RcNeAt.str_str _ _ _ _,Jq _ _ _ _⟩
theorem FL(hu:A.units<Ze)(sq:fC s k a Nj)(ry:f9 c μ H dy y)(ru:u9 y u)(hs:B6 dy=true):
 (Yz A s (.ref a) u false/\ZS A s (.ref a) u true/\yL A s (.ref a) u false)/\(Yz A s u (.ref a) false/\ZS A s u (.ref a) true/\yL A s u (.ref a) false):=by
 rcases k with _|_
 ·
   rcases dy with _|j|j|j|_|_|_|_<;>try (cases hs;done)
   ·unfold f9 at ry;subst ry;cases ru;exact⟨⟨.list_none sq hu,.list_none sq hu,.list_none sq hu⟩,.none_list sq hu,.none_list sq hu,.none_list sq hu⟩
   ·unfold f9 at ry;subst ry;cases ru;exact⟨⟨.list_bool _ sq hu,.list_bool _ sq hu,.list_bool _ sq hu⟩,.bool_list _ sq hu,.bool_list _ sq hu,.bool_list _ sq hu⟩
   ·unfold f9 at ry;subst ry;obtain⟨t,rfl⟩:=ru;exact⟨⟨.list_int _ _ sq hu,.list_int _ _ sq hu,.list_int _ _ sq hu⟩,.int_list _ _ sq hu,.int_list _ _ sq hu,.int_list _ _ sq hu⟩
   ·unfold f9 at ry;subst ry;obtain⟨t,rfl⟩:=ru;exact⟨⟨.list_str _ _ sq hu,.list_str _ _ sq hu,.list_str _ _ sq hu⟩,.str_list _ _ sq hu,.str_list _ _ sq hu,.str_list _ _ sq hu⟩
 ·
   rcases dy with _|j|j|j|_|_|_|_<;>try (cases hs;done)
   ·unfold f9 at ry;subst ry;cases ru;exact⟨⟨.tuple_none sq hu,.tuple_none sq hu,.tuple_none sq hu⟩,.none_tuple sq hu,.none_tuple sq hu,.none_tuple sq hu⟩
   ·unfold f9 at ry;subst ry;cases ru;exact⟨⟨.tuple_bool _ sq hu,.tuple_bool _ sq hu,.tuple_bool _ sq hu⟩,.bool_tuple _ sq hu,.bool_tuple _ sq hu,.bool_tuple _ sq hu⟩
   ·unfold f9 at ry;subst ry;obtain⟨t,rfl⟩:=ru;exact⟨⟨.tuple_int _ _ sq hu,.tuple_int _ _ sq hu,.tuple_int _ _ sq hu⟩,.int_tuple _ _ sq hu,.int_tuple _ _ sq hu,.int_tuple _ _ sq hu⟩
   ·unfold f9 at ry;subst ry;obtain⟨t,rfl⟩:=ru;exact⟨⟨.tuple_str _ _ sq hu,.tuple_str _ _ sq hu,.tuple_str _ _ sq hu⟩,.str_tuple _ _ sq hu,.str_tuple _ _ sq hu,.str_tuple _ _ sq hu⟩
theorem mD(I:Inv X Ng U H s)(h:o8 (wc X) μ G H):∀n A,A.units+n<Ze->∀ {dx dy} {x y:V} {v u} {b:Bool},f9 (wc X) μ H dx x->f9 (wc X) μ H dy y->u9 x v->u9 y u->eqN n G dx dy=some b->
 Yz A s v u b/\ZS A s v u (!b)/\yL A s v u b
 |0,_,_,_,_,_,_,_,_,_,_,_,_,_,e=>by exact u5 e
 |n+1,A,hu,dx,dy,x,y,v,u,b,rx,ry,rv,ru,e=>by
   have hu0:A.units<Ze:=by lia
   have hu1:A.in1.units+n<Ze:=by show A.units+1+n<Ze;lia
   have e0:=e;rw[CA]at e;rcases hx:Q6 G dx with _|p
   ·
     rw[hx]at e;rcases hy:Q6 G dy with _|p
     ·rw[hy]at e;exact VR rx ry rv ru e
     ·
       obtain⟨k,l⟩:=p;rw[hy]at e;dsimp only at e;split at e
       · rename_i hs
         cases e
         obtain⟨a,vs,Nj,rfl,rfl,_,_,sq,_⟩:=y7 I h hy ry ru;exact(FL hu0 sq rx rv hs).2
       ·exact u5 e
   ·
     obtain⟨k,l⟩:=p;rw[hx]at e;obtain⟨a,vs,Nj,rfl,rfl,rl,rr,sq,q⟩:=y7 I h hx rx rv;rcases hy:Q6 G dy with _|p'
     ·
       rw[hy]at e;dsimp only at e;split at e
       · rename_i hs
         cases e
         exact(FL hu0 sq ry ru hs).1
       ·exact u5 e
     ·
       obtain⟨k',l'⟩:=p';rw[hy]at e;dsimp only at e;obtain⟨a',Pd,its',rfl,rfl,Pf,rr',sq',q'⟩:=y7 I h hy ry ru
       -- the two at one place
       have main:Yz A s (.ref a) (.ref a') b/\ZS A s (.ref a) (.ref a') (!b):=by
        have len1:Nj.toArray.size=l.length:=by rw[zq,<-rr.length,rl.length]
        have len2:its'.toArray.size=l'.length:=by rw[zq,<-rr'.length,Pf.length]
        by_cases hk:k=k'
        · subst hk;rw[if_pos rfl]at e;by_cases Nm:k=false/\l.length≠l'.length
          · rw[if_pos Nm]at e
            cases e
            obtain⟨rfl,Ph⟩:=Nm;have hz:(Nj.toArray.size != its'.toArray.size)=true:=by rw[len1,len2];simpa using Ph
            exact⟨SeqAt.RcAt.lists_lengths sq sq' hz hu0,SeqAt.RcNeAt.lists_lengths sq sq' hz hu0⟩
          · rw[if_neg Nm]at e;have items:∀j (h1:j<Nj.toArray.size) (h2:j<its'.toArray.size),∃e,eqN n G (l.getD j .non) (l'.getD j .non)=some e/\yL A.in1 s Nj.toArray[j] its'.toArray[j] e:=λj h1 h2=>by
             have j1:j<l.length:=by rw[<-len1];exact h1
             have j2:j<l'.length:=by rw[<-len2];exact h2
             have g1:l[j]? =some l[j]:=zH j1;have g2:l'[j]? =some l'[j]:=zH j2;obtain⟨e1,he1⟩:=fG l l' b e j _ _ g1 g2;obtain⟨v1,hv1,r1⟩:=rl.get g1;obtain⟨v2,hv2,r2⟩:=Pf.get g2;obtain⟨u1,hu1',ru1⟩:=rr.get hv1;obtain⟨u2,hu2',ru2⟩:=rr'.get hv2;have w1:Nj.toArray[j]=u1:=by
              have:Nj.toArray[j]? =some u1:=by simpa using hu1'
              rw[yf h1]at this;exact js this
             have w2:its'.toArray[j]=u2:=by
              have:its'.toArray[j]? =some u2:=by simpa using hu2'
              rw[yf h2]at this;exact js this
             rw[w1,w2];refine⟨e1,?_,(mD I h n A.in1 hu1 r1 r2 ru1 ru2 he1).2.2⟩;rw[xy,xy,g1,g2];exact he1
            have hr:=SL (e:=λj=>(eqN n G (l.getD j .non) (l'.getD j .non)).getD false) l l' b e λj x y g1 g2=>by obtain⟨e1,he1⟩:=fG l l' b e j x y g1 g2;rw[xy,xy,g1,g2];simp only[Option.getD_some];rw[he1];rfl
            have he:∀j (h1:j<Nj.toArray.size) (h2:j<its'.toArray.size),yL A.in1 s Nj.toArray[j] its'.toArray[j] ((eqN n G (l.getD j .non) (l'.getD j .non)).getD false):=λj h1 h2=>by obtain⟨e1,he1,hh⟩:=items j h1 h2;rw[he1];exact hh
            rcases k with _|_
            ·
              have hl:l.length=l'.length:=xt λz=>Nm ⟨rfl,z⟩;have hsz:Nj.toArray.size=its'.toArray.size:=by rw[len1,len2,hl]
              have z1:=SeqAt.RcAt.lists sq sq' hsz hu0 he;have z2:=SeqAt.RcNeAt.lists sq sq' hsz hu0 he;have hr2:b= (jJ Nj.toArray.size).all λj=>(eqN n G (l.getD j .non) (l'.getD j .non)).getD false:=by rw[hr,len1,hl];simp
              rw[<-hr2]at z1 z2;exact⟨z1,z2⟩
            ·
              have z1:=SeqAt.RcAt.tuples sq sq' hu0 he;have z2:=SeqAt.RcNeAt.tuples sq sq' hu0 he;rw[len1,len2,<-hr]at z1 z2;exact⟨z1,z2⟩
        · rw[if_neg hk]at e
          cases e
          cases k<;>cases k'<;>first
           |exact absurd rfl hk
           |exact⟨SeqAt.RcAt.list_tuple sq sq' hu0,SeqAt.RcNeAt.list_tuple sq sq' hu0⟩
           |exact⟨SeqAt.RcAt.tuple_list sq sq' hu0,SeqAt.RcNeAt.tuple_list sq sq' hu0⟩
       refine⟨main.1,main.2,?_⟩;by_cases ha:a=a'
       ·subst ha;have:b=true:=ML I h (n+1) rx ry rv e0;rw[this];exact YG _
       ·exact SeqAt.EqAt.of_refs ha main.1
end
section
def eqD:D->D->M D:=λx y G=>match eqN 40 G x y with
 |some b=>some (.ok (.bl b),G)
 |none=>none
def neD:D->D->M D:=λx y G=>match eqN 40 G x y with
 |some b=>some (.ok (.bl (!b)),G)
 |none=>none
theorem MV(hu:X.A.units+64<Ze):OpD X Z (zY .Eq) eqD:=⟨by
 intro Ng s U H x y v u Q I rx ry Nk;refine Nk.elim λdx dy μ G Pm Pp hr p=>?_;unfold eqD at p;rcases e:eqN 40 G dx dy with _|b
 ·rw[e]at p;exact p.elim
 ·
   rw[e]at p;exact(mD I hr 40 X.A (by lia) Pm Pp rx ry e).1 X.prog X.w X.xe _ ⟨.bl b,H,I,rfl,c7.ok p hr _ ofB⟩⟩
theorem Cq(hu:X.A.units+64<Ze):OpD X Z (zY .NotEq) neD:=⟨by
 intro Ng s U H x y v u Q I rx ry Nk;refine Nk.elim λdx dy μ G Pm Pp hr p=>?_;unfold neD at p;rcases e:eqN 40 G dx dy with _|b
 ·rw[e]at p;exact p.elim
 ·
   rw[e]at p;exact(mD I hr 40 X.A (by lia) Pm Pp rx ry e).2.1 X.prog X.w X.xe _ ⟨.bl (!b),H,I,rfl,c7.ok p hr _ ofB⟩⟩
def leD:D->D->M D:=λx y=>match x,y with
 | .int i,.int j=>pure (.bl (decide (i<=j)))
 | .str i,.str j=>pure (.bl (!decide (j.cps.toList<i.cps.toList)))
 |_,_=>M.stuck
def gtD:D->D->M D:=λx y=>match x,y with
 | .int i,.int j=>pure (.bl (decide (j<i)))
 | .str i,.str j=>pure (.bl (decide (j.cps.toList<i.cps.toList)))
 |_,_=>M.stuck
def geD:D->D->M D:=λx y=>match x,y with
 | .int i,.int j=>pure (.bl (decide (j<=i)))
 | .str i,.str j=>pure (.bl (!decide (i.cps.toList<j.cps.toList)))
 |_,_=>M.stuck
theorem gH{op:CmpOp}{fi:Int->Int->Bool}{fs:Str->Str->Bool}(hi:OpR X (zY op) (L7 λi j=>.bl (fi i j)))
 (hs:∀(i j:Str) (t u:Tok) (s:zm) Q E,Q (.bool (fs i j)) s->zv (zD X.prog X.w) X.A (zY op (.str i t) (.str j u)) Q E s)
 (h1:∀i j,o (.int i) (.int j)=pure (.bl (fi i j))) (h2:∀i j,o (.str i) (.str j)=pure (.bl (fs i j)))
 (h3:∀x y,(∀i j,¬(x= .int i/\y= .int j))->(∀i j,¬(x= .str i/\y= .str j))->o x y=M.stuck):OpD X Z (zY op) o:=⟨by
 intro Ng s U H x y v u Q I rx ry Nk;refine Nk.elim λdx dy μ G Pm Pp hr p=>?_;by_cases c1:∃i j,dx= .int i/\dy= .int j
 ·obtain⟨i,j,rfl,rfl⟩:=c1;rw[h1]at p;exact hi Ng s U H x y v u Q I rx ry ⟨i,j,A1 Pm,A1 Pp,c7.ok p hr _ ofB⟩
 · by_cases c2:∃i j,dx= .str i/\dy= .str j
   ·obtain⟨i,j,rfl,rfl⟩:=c2;rw[h2]at p;have e1:=A2 Pm;have e2:=A2 Pp;subst e1 e2;obtain⟨t,rfl⟩:=rx;obtain⟨t',rfl⟩:=ry;exact hs i j t t' s _ _ ⟨.bl (fs i j),H,I,rfl,c7.ok p hr _ ofB⟩
   ·rw[h3 dx dy (λi j z=>c1 ⟨i,j,z⟩) (λi j z=>c2 ⟨i,j,z⟩)]at p;exact p.elim⟩
theorem QU:OpD X Z (zY .LtE) leD:=gH Fp (λ_ _ _ _ _ _ _ q=>PySem.P.le_str q) (λ_ _=>rfl) (λ_ _=>rfl) λx y n1 n2=>by
 rcases x with _|_|_|_|_|_|_|_<;>rcases y with _|_|_|_|_|_|_|_<;>first
  |rfl
  |exact absurd ⟨rfl,rfl⟩ (n1 _ _)
  |exact absurd ⟨rfl,rfl⟩ (n2 _ _)
theorem aS:OpD X Z (zY .Gt) gtD:=gH OR (λ_ _ _ _ _ _ _ q=>PySem.P.gt_str q) (λ_ _=>rfl) (λ_ _=>rfl) λx y n1 n2=>by
 rcases x with _|_|_|_|_|_|_|_<;>rcases y with _|_|_|_|_|_|_|_<;>first
  |rfl
  |exact absurd ⟨rfl,rfl⟩ (n1 _ _)
  |exact absurd ⟨rfl,rfl⟩ (n2 _ _)
theorem vv:OpD X Z (zY .GtE) geD:=gH wq (λ_ _ _ _ _ _ _ q=>PySem.P.ge_str q) (λ_ _=>rfl) (λ_ _=>rfl) λx y n1 n2=>by
 rcases x with _|_|_|_|_|_|_|_<;>rcases y with _|_|_|_|_|_|_|_<;>first
  |rfl
  |exact absurd ⟨rfl,rfl⟩ (n1 _ _)
  |exact absurd ⟨rfl,rfl⟩ (n2 _ _)
def A8:D->M D:=λx=>match x with
 | .int i=>pure (.int (-i))
 |_=>M.stuck
theorem wk:UnD X Z (unaryOp .USub) A8:=⟨by
 intro Ng s U H x v Q I rx Nk;refine Nk.elim λdx μ G Pm hr p=>?_
 cases dx<;>first
  |exact p.elim
  |exact SY Ng s U H x v Q I rx ⟨_,A1 Pm,c7.ok p hr _ ofI⟩⟩
instance (x:Str) (n:Int):Decidable (yH x n):=by unfold yH;infer_instance
def F2:D->D->M D:=λx y=>match x,y with
 | .int i,.int j=>if E5 i j then pure (.int (i*j))else M.stuck
 | .str x,.int n=>if yH x n then pure (.str (yS x n))else M.stuck
 |_,_=>M.stuck
theorem eY:OpR X (yg .Mult) (λx y H Q=>∃z n,x= .str z/\y= .int n/\yH z n/\Q (.str (yS z n)) H):=by intro Ng s U H x y v u Q I rx ry h;obtain⟨z,n,rfl,rfl,hk,q⟩:=h;obtain⟨t,rfl⟩:=rx;obtain⟨t',rfl⟩:=ry;exact PySem.SB.mul hk λt' k=>⟨.str _,H,I.tok _,⟨_,rfl⟩,q⟩
theorem qQ:OpD X Z (yg .Mult) F2:=
 OpD.of (OpR.or GX eY) λx y H Q Nk=>Nk.elim λdx dy μ G Pm Pp hr p=>by
  rcases dx with _|_|_|_|_|_|_|_<;>rcases dy with _|_|_|_|_|_|_|_<;>first
   |exact p.elim
   |skip
  · unfold F2 at p;dsimp only at p;split at p
    ·rename_i hc;exact .inl ⟨_,_,A1 Pm,A1 Pp,hc,c7.ok p hr _ ofI⟩
    ·exact p.elim
  · unfold F2 at p;dsimp only at p;split at p
    ·rename_i hc;exact .inr ⟨_,_,A2 Pm,A1 Pp,hc,c7.ok p hr _ ofS⟩
    ·exact p.elim
end
def NH(A:zV)(s:zm)(y x:zg)(b:Bool):Prop:=
 ∀(prog:zF) (w:zO) (E:VSP) (Q:VSP),Q (.bool b) s->zv (zD prog w) A (Jp .Lt y x) Q E s
inductive LtR(A:zV)(s:zm):List zg->List zg->Bool->Prop
 |nil:LtR A s [] [] false
 |nilc {y ys}:LtR A s [] (y::ys) true
 |cnil {x xs}:LtR A s (x::xs) [] false
 |eq {x y xs ys b}:yL A s x y true->LtR A s xs ys b->LtR A s (x::xs) (y::ys) b
 |ne {x y xs ys b}:yL A s x y false->NH A s x y b->LtR A s (x::xs) (y::ys) b
section
open PySem.SeqAt
open PySem.AutoSeq1 (wpAny_loadPart')
open PySem.MeetsSeq PySem.MeetsSeq2 PySem.MeetsSeq3
theorem eR(l b:Addr)(items Np:Array zg)(n n2:Nat)(dd dd2:Option Addr)(sl sl2:Array (Option zg))(k:Bool):
 Meets (Yt.«tuple.__lt__» ⟨[.ref l,.ref b], []⟩)
  (λA R s=>s.heap.get? l=some {cls:=.type "tuple",dict:=dd,data:=.seq items n,slots:=sl}/\s.heap.get? b=some {cls:=.type "tuple",dict:=dd2,data:=.seq Np n2,slots:=sl2}/\
    LtR A.in1 s items.toList Np.toList k/\R (.ok (.ret (.bool k))) s):=
 .of_wp λprog w A R s h=>by
  obtain⟨hp,g,d,tk,os⟩:=s;obtain⟨hl,hb,hk,h⟩:=h;have f2:=AutoSeq1.sub_tuple_tuple
  wp_walk using jx hl,jx hb,wpAny_forIn_list _ (λd7 b s'=>b.1=none/\s'= ⟨hp,g,d,tk,os⟩/\∃(vs ws:List zg),d7=vs.zip ws/\
   vs.length+Np.size=ws.length+items.size/\LtR A.in1 ⟨hp,g,d,tk,os⟩ vs ws k) _
  case turn=>
   rintro⟨y,x⟩ d7 b s' ⟨Qc,rfl,vs,ws,hz,Nm,hR⟩
   cases hR with
   |nil=>exact pI hz
   |nilc=>exact pI hz
   |cnil=>exact pI hz
   |eq he hR'=>
     rw[Zv]at hz;injection hz with hyx hrest;injection hyx with hy hx;subst hy hx;refine zc (he prog w _ _ ?_)
     wp_walk
     simp only[zp]at Nm;exact⟨rfl,rfl,_,_,hrest,by lia,hR'⟩
   |ne he hc=>
     rw[Zv]at hz;injection hz with hyx hrest;injection hyx with hy hx;subst hy hx;refine zc (he prog w _ _ ?_);have hri:=hc prog w
     wp_walk using hri
     exact⟨_,rfl,h⟩
  case fin=>
   rintro⟨b1,b2⟩ s' ⟨Qc,rfl,vs,ws,hz,Nm,hR⟩;simp only at Qc;subst Qc;have hv:k=decide (items.size<Np.size):=by
    cases hR with
    |nil=>simp only[ye]at Nm;exact(decide_eq_false (by lia)).symm
    |nilc=>simp only[ye,zp]at Nm;exact(decide_eq_true (by lia)).symm
    |cnil=>simp only[ye,zp]at Nm;exact(decide_eq_false (by lia)).symm
    |eq _ _=>rw[Zv]at hz;exact dD hz
    |ne _ _=>rw[Zv]at hz;exact dD hz
   rw[hv]at h
   wp_walk
   exact⟨_,rfl,by simpa [Builtin.Tuple.tupleCompareSizes]using h⟩
  case h=>
   exact⟨rfl,rfl,items.toList,Np.toList,rfl,by simp;lia,hk⟩
theorem DZ(l b:Addr)(items Np:Array zg)(n n2:Nat)(dd dd2:Option Addr)(sl sl2:Array (Option zg))(k:Bool):∀vs ws i,items.toList.drop i=vs->Np.toList.drop i=ws->i<=items.size->i<=Np.size->
 Meets (Yt.«list.__eq__.loop» ⟨[.ref l,.ref b,xJ i,xJ 0], []⟩)
  (λA R s=>s.heap.get? l=some {cls:=.type "list",dict:=dd,data:=.seq items n,slots:=sl}/\s.heap.get? b=some {cls:=.type "list",dict:=dd2,data:=.seq Np n2,slots:=sl2}/\
    LtR A.in1 s vs ws k/\R (.ok (.ret (.bool k))) s):=by
 have dropn:∀(a:Array zg) (i:Nat),a.toList.drop i= []->i<=a.size->i=a.size:=λa i e hi=>by have:=List.drop_eq_nil_iff.mp e;simp at this;lia
 have dropc:∀(a:Array zg) (i:Nat) (v:zg) (r:List zg),a.toList.drop i=v::r->i<a.size/\a[((i:Nat):Int).toNat]? =some v/\a.toList.drop (i+1)=r:=λa i v r e=>by
  have Nw:i<a.toList.length:=by
   rcases Yd i a.toList.length with q|q
   ·exact q
   ·rw[ZX q]at e;exact dD e
  rw[xE Nw]at e;injection e with e1 e2;refine⟨by simpa using Nw,?_,e2⟩;simp at Nw;simp[Nw];simpa using e1
 intro vs
 induction vs with
 |nil=>
   intro ws i hv hw hi hi2 prog w A R s h;obtain⟨hp,g,d,tk,os⟩:=s;obtain⟨hl,hb,he,h⟩:=h;have e1:=dropn items i hv hi
   wp_walk using jx hl,jx hb
   have hi1:items[((i:Nat):Int).toNat]? =none:=by simp;lia
   rw[hi1];rcases ws with _|⟨y,ys⟩
   ·
     have e2:=dropn Np i hw hi2
     cases he
     wp_walk using jx hl,jx hb
     show R (.ok (.ret (.bool (decide (items.size<Np.size))))) _;rw[decide_eq_false (by lia)];exact h
   ·
     obtain⟨Nw,_,_⟩:=dropc Np i y ys hw
     cases he
     wp_walk using jx hl,jx hb
     show R (.ok (.ret (.bool (decide (items.size<Np.size))))) _;rw[decide_eq_true (by lia)];exact h
 |cons x xs ih=>
   intro ws i hv hw hi hi2 prog w A R s h;obtain⟨hp,g,d,tk,os⟩:=s;obtain⟨hl,hb,he,h⟩:=h;obtain⟨Nw,g1,d1⟩:=dropc items i x xs hv
   wp_walk using jx hl,jx hb
   rcases ws with _|⟨y,ys⟩
   ·
     have e2:=dropn Np i hw hi2;have hi2':Np[((i:Nat):Int).toNat]? =none:=by simp;lia
     rw[g1,hi2']
     cases he
     wp_walk using jx hl,jx hb
     show R (.ok (.ret (.bool (decide (items.size<Np.size))))) _;rw[decide_eq_false (by lia)];exact h
   ·
     obtain⟨hlt2,g2,d2⟩:=dropc Np i y ys hw;have hc:((i:Int)+1)= ((i+1:Nat):Int):=by push_cast;rfl
     rw[g1,g2]
     cases he with
     |eq he he'=>
       refine zc (he prog w _ _ ?_)
       wp_walk
       rw[hc];exact⟨Zp plain_eq_loop _,xv entry_eq_loop (by rw[yG plain_eq_loop _];exact ih ys (i+1) d1 d2 (by lia) (by lia) prog w A R _ ⟨hl,hb,he',h⟩)⟩
     |ne he hcmp=>
       refine zc (he prog w _ _ ?_);have hri:=hcmp prog w
       wp_walk using jx hl,jx hb
       rw[g1,g2]
       wp_walk using hri
       exact h
theorem Hv(l b:Addr)(items Np:Array zg)(n n2:Nat)(dd dd2:Option Addr)(sl sl2:Array (Option zg))(k:Bool):
 Meets (Yt.«list.__lt__» ⟨[.ref l,.ref b], []⟩)
  (λA R s=>s.heap.get? l=some {cls:=.type "list",dict:=dd,data:=.seq items n,slots:=sl}/\s.heap.get? b=some {cls:=.type "list",dict:=dd2,data:=.seq Np n2,slots:=sl2}/\
    LtR A.in1 s items.toList Np.toList k/\R (.ok (.ret (.bool k))) s):=by
 intro prog w A R s h;obtain⟨hp,g,d,tk,os⟩:=s;obtain⟨hl,hb,he,h⟩:=h;have f3:=AutoSeq1.sub_list_list
 wp_walk using jx hl,jx hb
 exact⟨Zp plain_eq_loop _,xv entry_eq_loop (by rw[yG plain_eq_loop _];exact DZ l b items Np n n2 dd dd2 sl sl2 k items.toList Np.toList 0 rfl rfl (xa _) (xa _) prog w A R _ ⟨hl,hb,he,h⟩)⟩
end
def ltS:D->D->Option Bool
 | .int a,.int b=>some (decide (a<b))
 | .str a,.str b=>some (decide (a.cps.toList<b.cps.toList))
 | .bl a,.bl b=>some (decide (b2i a<b2i b))
 |_,_=>none
def ltL(eq lt:D->D->Option Bool):List D->List D->Option Bool
 |[], []=>some false
 |[],_::_=>some true
 |_::_, []=>some false
 |x::xs,y::ys=>match eq x y with
   |some true=>ltL eq lt xs ys
   |some false=>lt x y
   |none=>none
def ltN:Nat->DH->D->D->Option Bool
 |0,_,_,_=>none
 |n+1,G,x,y=>match Q6 G x,Q6 G y with
   |some (k1,a),some (k2,b)=>if k1=k2 then ltL (eqN n G) (ltN n G) a b else none
   |none,none=>ltS x y
   |_,_=>none
theorem vW:ltN (n+1) G x y=match Q6 G x,Q6 G y with
 |some (k1,a),some (k2,b)=>if k1=k2 then ltL (eqN n G) (ltN n G) a b else none
 |none,none=>ltS x y
 |_,_=>none:=rfl
section
theorem FT(rx:f9 c μ H dx x)(ry:f9 c μ H dy y)(rv:u9 x v)(ru:u9 y u)(e:ltS dx dy=some b):NH A s v u b:=by
 intro prog w E Q hq;rcases dx with _|_|_|_|_|_|_|_<;>rcases dy with _|_|_|_|_|_|_|_<;>first
  |(cases e;done)
  |skip
 · cases e
   unfold f9 at rx ry;subst rx ry;cases rv;cases ru;exact(lt_bool hq:zv (zD prog w) A (zY .Lt _ _) Q E s)
 · cases e
   unfold f9 at rx ry;subst rx ry;obtain⟨t,rfl⟩:=rv;obtain⟨t',rfl⟩:=ru;exact(lt_int hq:zv (zD prog w) A (zY .Lt _ _) Q E s)
 · cases e
   unfold f9 at rx ry;subst rx ry;obtain⟨t,rfl⟩:=rv;obtain⟨t',rfl⟩:=ru;exact(lt_str hq:zv (zD prog w) A (zY .Lt _ _) Q E s)
theorem lt_at(I:Inv X Ng U H s)(h:o8 (wc X) μ G H):∀n A,A.units+n<Ze->∀ {dx dy} {x y} {v u} {b},f9 (wc X) μ H dx x->f9 (wc X) μ H dy y->u9 x v->u9 y u->ltN n G dx dy=some b->NH A s v u b
 |0,_,_,_,_,_,_,_,_,_,_,_,_,_,e=>by exact u5 e
 |n+1,A,hu,dx,dy,x,y,v,u,b,rx,ry,rv,ru,e=>by
   have hu0:A.units<Ze:=by lia
   have hu1:A.in1.units+n<Ze:=by show A.units+1+n<Ze;lia
   rw[vW]at e;rcases hx:Q6 G dx with _|p
   ·
     rw[hx]at e;rcases hy:Q6 G dy with _|p
     ·rw[hy]at e;exact FT rx ry rv ru e
     ·rw[hy]at e;exact u5 e
   ·
     obtain⟨k,l⟩:=p;rw[hx]at e;rcases hy:Q6 G dy with _|p'
     ·rw[hy]at e;exact u5 e
     ·
       obtain⟨k',l'⟩:=p';rw[hy]at e;dsimp only at e;split at e
       case isFalse=>exact u5 e
       rename_i hk;subst hk;obtain⟨a,vs,Nj,rfl,rfl,rl,rr,sq,q⟩:=y7 I h hx rx rv;obtain⟨a',Pd,its',rfl,rfl,Pf,rr',sq',q'⟩:=y7 I h hy ry ru;have main:∀(l l':List D) (vs Pd:List V) (Nj its':List zg),m9 (wc X) μ H l vs->m9 (wc X) μ H l' Pd->t8 vs Nj->t8 Pd its'->ltL (eqN n G) (ltN n G) l l'=some b->LtR A.in1 s Nj its' b:=by
        intro l
        induction l with
        |nil=>
          intro l' vs Pd Nj its' r r' q q' e
          cases r;cases q
          rcases l' with _|⟨_,_⟩
          ·cases r';cases q';cases e;exact .nil
          ·
            obtain⟨_,_,rfl,_,_⟩:=r'
            cases q'
            cases e
            exact .nilc
        |cons d ds ih=>
          intro l' vs Pd Nj its' r r' q q' e;obtain⟨v0,vr,rfl,r0,rt⟩:=r
          cases q with
          |cons q0 qt=>
            rcases l' with _|⟨d',ds'⟩
            ·cases r';cases q';cases e;exact .cnil
            ·
              obtain⟨v1,vr',rfl,r1,rt'⟩:=r'
              cases q' with
              |cons q1 qt'=>
                unfold ltL at e;rcases he:eqN n G d d' with _|b0
                ·rw[he]at e;exact u5 e
                ·
                  rw[he]at e;have hE:=(mD I h n A.in1 hu1 r0 r1 q0 q1 he).2.2;rcases b0 with _|_
                  ·exact .ne hE (lt_at I h n A.in1 hu1 r0 r1 q0 q1 e)
                  ·exact .eq hE (ih ds' vr vr' _ _ rt rt' qt qt' e)
       have hR:=main l l' vs Pd Nj its' rl Pf rr rr' e;intro prog w E Q hq;rcases k with _|_
       ·
         obtain⟨⟨cls,dd,data,sl⟩,ho,hc,m,hd⟩:=id sq;obtain⟨⟨cls2,dd2,data2,sl2⟩,Qb,hc2,m2,hd2⟩:=id sq';simp only at hc hd hc2 hd2;subst hc hd hc2 hd2;exact richCompare_meets_room ⟨_,ho,rfl⟩ ⟨_,Qb,rfl⟩ PySem.F.slot_list_lt PySem.F.entry_list_lt (PySem.F.args_list_lt_2 _ _) (Hv a a' Nj.toArray its'.toArray m m2 dd dd2 sl sl2 b)
          ⟨ho,Qb,hR,show Value.bool b≠Value.notImplemented/\Q (.bool b) s from⟨(λx=>nomatch x),hq⟩⟩ hu0
       ·
         obtain⟨⟨cls,dd,data,sl⟩,ho,hc,m,hd⟩:=id sq;obtain⟨⟨cls2,dd2,data2,sl2⟩,Qb,hc2,m2,hd2⟩:=id sq';simp only at hc hd hc2 hd2;subst hc hd hc2 hd2;exact richCompare_meets_room ⟨_,ho,rfl⟩ ⟨_,Qb,rfl⟩ PySem.F.slot_tuple_lt PySem.F.entry_tuple_lt (PySem.F.args_tuple_lt_2 _ _) (eR a a' Nj.toArray its'.toArray m m2 dd dd2 sl sl2 b)
          ⟨ho,Qb,hR,show Value.bool b≠Value.notImplemented/\Q (.bool b) s from⟨(λx=>nomatch x),hq⟩⟩ hu0
def ltD:D->D->M D:=λx y G=>match ltN 40 G x y with
 |some b=>some (.ok (.bl b),G)
 |none=>none
theorem Mz(hu:X.A.units+64<Ze):OpD X Z (zY .Lt) ltD:=⟨by
 intro Ng s U H x y v u Q I rx ry Nk;refine Nk.elim λdx dy μ G Pm Pp hr p=>?_;unfold ltD at p;rcases e:ltN 40 G dx dy with _|b
 ·rw[e]at p;exact p.elim
 ·
   rw[e]at p;exact lt_at I hr 40 X.A (by lia) Pm Pp rx ry e X.prog X.w X.xe _ ⟨.bl b,H,I,rfl,c7.ok p hr _ ofB⟩⟩
end
def B5:D->Bool
 | .non=>true
 | .bl _=>true
 | .int _=>true
 | .str _=>true
 |_=>false
def toV:D->V
 | .bl b=>.bl b
 | .int i=>.int i
 | .str x=>.str x
 |_=>.non
def SA:D->Option Key
 | .int i=>some (.inl i)
 | .str x=>some (.inr x)
 |_=>none
def C7(l:List (Key×D))(k:Key):Option D:=(l.find? λkv=>decide (kv.1=k)).map (·.2)
def inB(x y:D)(G:DH):Option Bool:=match y with
 | .str j=>match x with
   | .str i=>some (!(ju j i 0 j.length 1).isEmpty)
   |_=>none
 | .ref r=>match G[r]? with
   |some (.dct l)=>(SA x).map λk=>(C7 l k).isSome
   |some (.rod _)=>none
   |some (.lst l)=>if B5 x&&l.all B5 then some (inV (toV x) (l.map toV))else none
   |some (.rol l)=>if B5 x&&l.all B5 then some (inV (toV x) (l.map toV))else none
   |none=>none
 | .tup l=>if B5 x&&l.all B5 then some (inV (toV x) (l.map toV))else none
 |_=>none
def inD:D->D->M D:=λx y G=>match inB x y G with
 |some b=>some (.ok (.bl b),G)
 |none=>none
section
theorem vK(f:B5 d=true)(r:f9 c μ H d v):v=toV d/\i6 v=true:=by
 cases d<;>first
  |exact absurd (show false=true from f) zG
  |(unfold f9 at r;subst r;exact⟨rfl,rfl⟩)
theorem oO:∀ {l} {vs},l.all B5=true->m9 c μ H l vs->vs=l.map toV/\vs.all i6=true
 |[],_,_,r=>by cases r;exact⟨rfl,rfl⟩
 |d::ds,_,f,r=>by obtain⟨v,t,rfl,q,rt⟩:=r;rw[jB,zP]at f;obtain⟨e1,e2⟩:=vK f.1 q;obtain⟨e3,e4⟩:=oO f.2 rt;refine⟨by rw[zE,<-e1,<-e3],?_⟩;rw[jB,e2,e4];rfl
theorem VI(e:SA d=some k)(r:f9 c μ H d v):v=kV k:=by
 cases d<;>first
  |(cases e;unfold f9 at r;exact r)
  |exact u5 e
theorem rK:∀ {l} {Nh},W5 c μ H l Nh->match C7 l k with|some d=>∃v,u3 Nh k=some v/\f9 c μ H d v|none=>u3 Nh k=none
 |[],_,r=>by cases r;exact rfl
 |(k',d)::t,_,r=>by
  obtain⟨v,kt,rfl,q,rt⟩:=r;by_cases e:k'=k
  · have h1:C7 ((k',d)::t) k=some d:=by unfold C7;simp[e]
    rw[h1];exact⟨v,bE e,q⟩
  · have h1:C7 ((k',d)::t) k=C7 t k:=by unfold C7;simp[e]
    rw[h1];have ih:=rK (k:=k) rt;rw[wE e];exact ih
theorem TQ(r:W5 c μ H l Nh):(C7 l k).isSome= (u3 Nh k).isSome:=by
 have q:=rK (k:=k) r;rcases e:C7 l k with _|d
 ·rw[e]at q;rw[q];rfl
 ·rw[e]at q;obtain⟨v,q,_⟩:=q;rw[q];rfl
theorem Bm(hu:X.A.units+64<Ze)(I:Inv X Ng U H s)(hr:o8 (wc X) μ G H)(Pm:f9 (wc X) μ H dx x)(Pp:f9 (wc X) μ H dy y)(rx:u9 x v)(ry:u9 y u)
 (e:inB dx dy G=some b):
 (Q (.bl b) H->zv (zD X.prog X.w) X.A (zY .In v u) (EP X Ng U Q) X.xe s)/\(Q (.bl (!b)) H->zv (zD X.prog X.w) X.A (zY .NotIn v u) (EP X Ng U Q) X.xe s):=by
 have seq:∀(p:Addr) (l:List D) (vs:List V),y= .ref p->(SqL X.K H p vs\/SqT X.K H p vs)->m9 (wc X) μ H l vs->(if (B5 dx&&l.all B5)=true then some (inV (toV dx) (l.map toV))else none)=some b->
  (Q (.bl b) H->zv (zD X.prog X.w) X.A (zY .In v u) (EP X Ng U Q) X.xe s)/\(Q (.bl (!b)) H->zv (zD X.prog X.w) X.A (zY .NotIn v u) (EP X Ng U Q) X.xe s):=by
  intro p l vs hy hq rl e;split at e
  · rename_i hf;rw[zP]at hf
    cases e
    obtain⟨e1,e2⟩:=vK hf.1 Pm;obtain⟨e3,e4⟩:=oO hf.2 rl;rw[<-e1,<-e3];exact⟨λq=>tU Ng s U H x y v u Q I rx ry ⟨p,vs,hy,hq,e2,e4,q⟩,λq=>AT Ng s U H x y v u Q I rx ry ⟨p,vs,hy,hq,e2,e4,q⟩⟩
  ·exact u5 e
 rcases dy with _|_|_|j|l|i|_|_<;>try (cases e;done)
 ·
   rcases dx with _|_|_|i|_|_|_|_<;>try (cases e;done)
   ·
     cases e
     have e1:=A2 Pm;have e2:=A2 Pp;exact⟨λq=>kj Ng s U H x y v u Q I rx ry ⟨i,j,e1,e2,q⟩,λq=>wZ Ng s U H x y v u Q I rx ry ⟨i,j,e1,e2,q⟩⟩
 ·
   unfold f9 at Pp;obtain⟨a,vs,hy,q,rl⟩:=Pp;exact seq a l vs hy (.inr q) rl e
 ·
   unfold f9 at Pp;obtain⟨a,m,hy⟩:=Pp;rcases g:G[i]? with _|o
   ·unfold inB at e;simp only[g]at e;exact u5 e
   ·
     have ro:=hr.obj i o a g m;rcases o with l|l|l|l
     ·
       obtain⟨vs,q,rl⟩:=ro;unfold inB at e;simp only[g]at e;exact seq a l vs hy (.inl (SqL.of q)) rl e
     ·
       obtain⟨vs,q,rl⟩:=ro;unfold inB at e;simp only[g]at e;exact seq a l vs hy (.inl q.sq) rl e
     ·
       obtain⟨Nh,q,rk⟩:=ro;unfold inB at e;simp only[g]at e;rcases hk:SA dx with _|k
       ·rw[hk]at e;exact u5 e
       ·
         rw[hk]at e
         cases e
         have ek:=VI hk Pm;have dg:sA H a x (u3 Nh k):=by rw[ek];exact sA.k q
         subst hy
         cases ry
         dsimp only;rw[TQ rk];exact⟨λq=>OT (by lia) I dg rx λs' I'=>⟨.bl _,H,I',rfl,q⟩,λq=>bP (by lia) I dg rx λs' I'=>⟨.bl _,H,I',rfl,q⟩⟩
     ·unfold inB at e;simp only[g]at e;exact u5 e
theorem Bf(hu:X.A.units+64<Ze):OpD X Z (zY .In) inD:=⟨by
 intro Ng s U H x y v u Q I rx ry Nk;refine Nk.elim λdx dy μ G Pm Pp hr p=>?_;unfold inD at p;rcases e:inB dx dy G with _|b
 ·rw[e]at p;exact p.elim
 ·rw[e]at p;exact(Bm hu I hr Pm Pp rx ry e).1 (c7.ok p hr _ ofB)⟩
inductive Ty where
 |int|bool|str|tuple|list|dict
 deriving DecidableEq
def Ty.name:Ty->String
 | .int=> "int"| .bool=> "bool"| .str=> "str"| .tuple=> "tuple"| .list=> "list"| .dict=> "dict"
def Ty.of(n:String):Option Ty:=if n= "int" then some .int else if n= "bool" then some .bool else if n= "str" then some .str else if n= "tuple" then some .tuple else if n= "list" then some .list else if n= "dict" then some .dict else none
theorem Ty.of_name{n:String}{T:Ty}(h:Ty.of n=some T):n=T.name:=by
 unfold Ty.of at h;split at h
 ·rename_i e;cases h;exact e
 split at h
 ·rename_i e;cases h;exact e
 split at h
 ·rename_i e;cases h;exact e
 split at h
 ·rename_i e;cases h;exact e
 split at h
 ·rename_i e;cases h;exact e
 split at h
 ·rename_i e;cases h;exact e
 ·exact u5 h
inductive Kd where
 |non|bool|int|str|tuple|list|dict
def Kd.is:Kd->Ty->Bool
 | .bool,.int=>true
 | .bool,.bool=>true
 | .int,.int=>true
 | .str,.str=>true
 | .tuple,.tuple=>true
 | .list,.list=>true
 | .dict,.dict=>true
 |_,_=>false
def Kd.name:Kd->String
 | .non=> "NoneType"| .bool=> "bool"| .int=> "int"| .str=> "str"| .tuple=> "tuple"| .list=> "list"| .dict=> "dict"
def dA(G:DH):D->Option Kd
 | .non=>some .non
 | .bl _=>some .bool
 | .int _=>some .int
 | .str _=>some .str
 | .tup _=>some .tuple
 | .ref i=>match G[i]? with
   |some (.lst _)=>some .list
   |some (.rol _)=>some .list
   |some (.dct _)=>some .dict
   |some (.rod _)=>some .dict
   |none=>none
 |_=>none
def RA:List D->Option (List Ty)
 |[]=>some []
 | .ty n::r=>match Ty.of n,RA r with
   |some T,some Ts=>some (T::Ts)
   |_,_=>none
 |_=>none
def T7:List D->M D:=λds G=>match ds with
 |[d,.ty n]=>match dA G d,Ty.of n with
   |some k,some T=>some (.ok (.bl (k.is T)),G)
   |_,_=>none
 |[d,.tup l]=>match dA G d,RA l with
   |some k,some Ts=>some (.ok (.bl (Ts.any k.is)),G)
   |_,_=>none
 |_=>none
theorem tZ(K:zd)(k:Kd)(T:Ty):jY K (.type k.name) (.type T.name)=some (k.is T):=by
 cases k<;>cases T<;>rfl
theorem iM{A:zV}{E:VSP}{Ng:PNS}{U:St}{s:zm}{d:D}{x:V}{v:zg}{k:Kd}(I:Inv X Ng U H s)(hr:o8 (wc X) μ G H)(r:f9 (wc X) μ H d x)(rv:u9 x v)(e:dA G d=some k):
 ∃HH:Heap->Prop,PySem.W.KitX X.K v (.type k.name) HH/\HH s.heap/\v≠ .builtin "__main__.__loader__#opaque":=by
 rcases d with _|b|b|b|l|i|_|_<;>try (cases e;done)
 ·cases e;unfold f9 at r;subst r;cases rv;exact⟨_,PySem.W.kitx_none,True.intro,λz=>nomatch z⟩
 ·cases e;unfold f9 at r;subst r;cases rv;exact⟨_,PySem.W.kitx_bool,True.intro,λz=>nomatch z⟩
 ·cases e;unfold f9 at r;subst r;obtain⟨t,rfl⟩:=rv;exact⟨_,PySem.W.kitx_int,True.intro,λz=>nomatch z⟩
 ·cases e;unfold f9 at r;subst r;obtain⟨t,rfl⟩:=rv;exact⟨_,PySem.W.kitx_str,True.intro,λz=>nomatch z⟩
 ·
   cases e
   unfold f9 at r;obtain⟨a,vs,rfl,q,_⟩:=r
   cases rv
   obtain⟨Nj,_,⟨o,h1,h2,_⟩,_⟩:=I.tuple q;exact⟨_,PySem.W.kitx_tuple,⟨o,h1,h2⟩,λz=>nomatch z⟩
 ·
   unfold f9 at r;obtain⟨a,m,rfl⟩:=r
   cases rv
   unfold dA at e;rcases g:G[i]? with _|o
   ·simp only[g]at e;exact u5 e
   ·
     have ro:=hr.obj i o a g m;simp only[g]at e;rcases o with l|l|l|l
     ·
       cases e
       obtain⟨vs,q,_⟩:=ro;obtain⟨Nj,_,⟨o,n,h1,h2,_⟩,_⟩:=I.list (SqL.of q);exact⟨_,JT,⟨o,h1,h2⟩,λz=>nomatch z⟩
     ·
       cases e
       obtain⟨vs,q,_⟩:=ro;obtain⟨Nj,_,⟨o,n,h1,h2,_⟩,_⟩:=I.list q.sq;exact⟨_,JT,⟨o,h1,h2⟩,λz=>nomatch z⟩
     ·
       cases e
       obtain⟨Nh,q,_⟩:=ro;obtain⟨_,_,vs,_,o,es,ep,h1,h2,_⟩:=(show N8 X.prog X.w H s.heap a (.dK Nh)from I.hok a _ q);exact⟨_,JU,⟨o,h1,h2.1⟩,λz=>nomatch z⟩
     ·
       cases e
       obtain⟨Nh,ob,q,_⟩:=ro;obtain⟨_,_,_,vs,_,o,es,ep,h1,h2,_⟩:=(show N8 X.prog X.w H s.heap a (.frz ob (.dK Nh))from I.hok a _ q);exact⟨_,JU,⟨o,h1,h2.1⟩,λz=>nomatch z⟩
theorem nN:∀ {l:List D} {vs:List V} {us:List zg} {Ts:List Ty},RA l=some Ts->m9 c μ H l vs->t8 vs us->us=Ts.map λT=>.type T.name
 |[],_,_,_,e,r,q=>by cases e;cases r;cases q;rfl
 |d::ds,_,_,Ts,e,r,q=>by
   obtain⟨v,t,rfl,r0,rt⟩:=r
   cases q with
   |cons q0 qt=>
     rcases d with _|_|_|_|_|_|_|n<;>try (cases e;done)
     ·
       replace e:(match Ty.of n,RA ds with|some T,some Ts=>some (T::Ts)|_,_=>none)=some Ts:=e;rcases h1:Ty.of n with _|T
       ·rw[h1]at e;exact u5 e
       ·
         rcases h2:RA ds with _|Ts'
         ·rw[h1,h2]at e;exact u5 e
         ·
           rw[h1,h2]at e
           cases e
           unfold f9 at r0;subst r0;rw[nN h2 rt qt,zE,show _=Value.type n from q0,Ty.of_name h1]
theorem OO(K:zd)(k:Kd):∀Ts:List Ty,yO K (.type k.name) (Ts.map λT=>.type T.name)=some (Ts.any k.is)
 |[]=>rfl
 |T::Ts=>by
   have ih:=OO K k Ts
   cases k<;>cases T<;>first
    |rfl
    |exact ih
theorem Fx:U7 X Z (.builtin "isinstance") T7:=⟨by
 intro Ng s U H xs us Q I r Nk;obtain⟨ds,μ,G,rl,hr,p⟩:=Nk;rcases ds with _|⟨d,_|⟨_|_|_|_|l|_|_|n,_|⟨_,_⟩⟩⟩<;>try exact p.elim
 all_goals (delta T7 at p;dsimp only at p)
 · obtain⟨v,t,rfl,r0,v1,t1,rfl,r1,e⟩:=rl
   cases e
   obtain⟨u,u',rfl,ru,ru'⟩:=aA r;unfold f9 at r1;obtain⟨a,vs,rfl,q,rll⟩:=r1
   cases ru'
   rcases hk:dA G d with _|k
   ·rw[hk]at p;exact p.elim
   ·
     rcases hT:RA l with _|Ts
     ·rw[hk,hT]at p;exact p.elim
     ·
       rw[hk,hT]at p;obtain⟨HH,kx,hh,Ph⟩:=iM (A:=X.A) (E:=X.xe) I hr r0 ru hk;obtain⟨Nj,rr,⟨⟨cls,dd,data,sl⟩,h1,h2,n,h3⟩,_⟩:=I.tuple q;simp only at h2 h3;subst h2 h3;exact PySem.W.kia_tup kx I.kIn hh h1 (by rw[nN hT rll rr];exact OO X.K k Ts) Ph λtk=>⟨.bl _,H,I.tok tk,rfl,c7.ok p hr _ ofB⟩
 · obtain⟨v,t,rfl,r0,v1,t1,rfl,r1,e⟩:=rl
   cases e
   obtain⟨u,u',rfl,ru,ru'⟩:=aA r;unfold f9 at r1;subst r1
   cases ru'
   rcases hk:dA G d with _|k
   ·rw[hk]at p;exact p.elim
   ·
     rcases hT:Ty.of n with _|T
     ·rw[hk,hT]at p;exact p.elim
     ·
       rw[hk,hT]at p;rw[Ty.of_name hT];obtain⟨HH,kx,hh,Ph⟩:=iM (A:=X.A) (E:=X.xe) I hr r0 ru hk;exact YX kx I.kIn hh (tZ X.K k T) Ph λtk=>⟨.bl _,H,I.tok tk,rfl,c7.ok p hr _ ofB⟩⟩
end
theorem MN{c:Wc}{μ:List Addr}{H:Hp}{l:List D}{vs:List V}{i:Int}{d:D}(r:m9 c μ H l vs)(e:atI l i=some d):∃v,atI vs i=some v/\f9 c μ H d v:=by
 unfold atI at e ⊢;rw[<-r.length]
 cases h:ixN l.length i with
 |none=>rw[h]at e;cases e
 |some j=>
   rw[h]at e;obtain⟨v,h1,h2⟩:=r.get e;exact⟨v,h1,h2⟩
def ixD:D->D->M D:=λx y=>match x,y with
 | .tup l,.int i=>S1 (atI l i)
 | .str z,.int i=>if z.length<=ze then do
    let c <-S1 (atI z.cps.toList i)
    pure (.str ⟨#[c]⟩)
   else M.stuck
 | .ref r,.int i=>do
   let l <-K6 r >>= listOf
   S1 (atI l i)
 |_,_=>M.stuck
section
variable{X:Cx}{Z:XC}{a b e:Expr}{fa fb:Fe}{pos:Pos}
def IxD(X:Cx)(Z:XC)(o:D->D->M D):Prop:=IxR X (y8 (wc X) Z o)
theorem gP{o:D->D->M D}(ho:IxD X Z o)(ha:DE X Z a fa)(hb:DE X Z b fb)(hs:vF b):DE X Z (.Subscript a b pos) (binE o fa fb):=DE.of (eS ho ha.h hb.h hs) mE
theorem VN{c:Wc}{μ:List Addr}{H:Hp}{G:DH}{r:Option D}{K:D->List Addr->DH->Hp->Prop}(h:o8 c μ G H)(p:c7 c Z μ H (S1 r G) K):∃d,r=some d/\K d μ G H:=by
 cases r with
 |none=>exact p.elim
 |some d=>exact⟨d,rfl,c7.ok p h⟩
theorem DX:IxD X Z ixD:=IxR.mono (Db.or (ix_tup.or ix_str)) λx y H Q Nk=>Nk.elim λdx dy μ G rx ry hr p=>by
 rcases dx with _|_|_|_|_|_|_|_<;>rcases dy with _|_|_|_|_|_|_|_<;>first
  |exact p.elim
  |skip
 · rename_i z i;refine .inr (.inr ?_);unfold ixD at p;dsimp only at p;split at p
   ·rename_i hz;obtain⟨c,ec,p2⟩:=U5 p;exact⟨z,i,c,A2 rx,A1 ry,hz,ec,c7.ok p2 hr _ ofS⟩
   ·exact p.elim
 ·rename_i l i;refine .inr (.inl ?_);unfold f9 at rx;obtain⟨a,vs,rfl,q,rl⟩:=rx;obtain⟨d,ed,k⟩:=VN hr p;obtain⟨v,ev,rv⟩:=MN rl ed;exact⟨a,vs,i,v,rfl,A1 ry,q,ev,k v rv⟩
 · rename_i r i;refine .inl ?_;obtain⟨l,a,vs,rfl,rl,p2,hq⟩:=rH hr rx p;obtain⟨d,ed,k⟩:=VN hr p2;obtain⟨v,ev,rv⟩:=MN rl ed;rcases hq with⟨z,_⟩|⟨_,_,_,⟨_,q⟩|⟨_,q⟩⟩
   ·cases z
   ·exact⟨a,vs,i,v,rfl,A1 ry,SqL.of q,ev,k v rv⟩
   ·exact⟨a,vs,i,v,rfl,A1 ry,q.sq,ev,k v rv⟩
theorem UR(ha:DE X Z a fa)(hb:DE X Z b fb)(hs:vF b):DE X Z (.Subscript a b pos) (binE ixD fa fb):=gP DX ha hb hs
def cutD(xs:List D)(lo hi:Option Int):List D:=(xs.drop (HT.sIx xs.length 0 lo)).take (HT.sIx xs.length xs.length hi-HT.sIx xs.length 0 lo)
abbrev Fo:=DSt->M (Option Int)
def noPart:Fo:=λ_=>pure none
def partO(f:Fe):Fo:=λU=>do
 match <-f U with
 | .int i=>pure (some i)
 |_=>M.stuck
def OD(c:Wc)(Z:XC)(f:Fo):TO:=λU H Q=>∃X9 μ G,w5 c μ H X9 U/\o8 c μ G H/\c7 c Z μ H (f X9 G) λo _ _ H'=>Q o H'
theorem OD.elim{c:Wc}{Z:XC}{P:Prop}{f:Fo}{U:St}{H:Hp}{Q:Option Int->Hp->Prop}(h:OD c Z f U H Q)(k:∀X9 μ G,w5 c μ H X9 U->o8 c μ G H->c7 c Z μ H (f X9 G) (λo _ _ H'=>Q o H')->P):P:=by obtain⟨e0,e1,e2,e3,e4,e5⟩:=h;exact k e0 e1 e2 e3 e4 e5
structure DOp(X:Cx)(Z:XC)(e:Option Expr)(f:Fo):Prop where
 h:PO X e (OD (wc X) Z f)
theorem PO.mono{e:Option Expr}{t t':TO}(h:PO X e t)(k:∀ U H Q,t' U H Q->t U H Q):PO X e t':=λNg s U H Q I q=>h Ng s U H Q I (k U H Q q)
theorem DOp.of{e:Option Expr}{f:Fo}{t:TO}(h:PO X e t)(k:∀ U H Q,OD (wc X) Z f U H Q->t U H Q):DOp X Z e f:=⟨PO.mono h k⟩
theorem DV:DOp X Z none noPart:=DOp.of eV λU H Q Nk=>Nk.elim λX9 μ G s h p=>c7.ok p h
theorem Hf(h:DE X Z e fa):DOp X Z (some e) (partO fa):=DOp.of (Kh h.h) λU H Q Nk=>Nk.elim λX9 μ G s h p=>⟨X9,μ,G,s,h,(c7.bind p).mono λd X0 G1 H1 x1 h1 p1 v rv=>by
 cases d with
 |int i=>exact⟨i,A1 rv,c7.ok p1 h1⟩
 |_=>exact p1.elim⟩
def slD:D->Option Int->Option Int->M D:=λx lo hi=>match x with
 | .tup l=>pure (.tup (cutD l lo hi))
 | .ref r=>do
   let l <-K6 r >>= listOf
   O1 (.lst (cutD l lo hi))
 |_=>M.stuck
def SlD(X:Cx)(Z:XC)(o:D->Option Int->Option Int->M D):Prop:=
 SlR X λx lo hi H Q=>∃dx μ G,f9 (wc X) μ H dx x/\o8 (wc X) μ G H/\c7 (wc X) Z μ H (o dx lo hi G) λd X1 _ H'=>∀v,f9 (wc X) X1 H' d v->Q v H'
theorem SlR.mono{r r':V->Option Int->Option Int->Hp->VK->Prop}(h:SlR X r)(k:∀x lo hi H Q,r' x lo hi H Q->r x lo hi H Q):SlR X r':=λNg s U H x v vl vu lo hi sl Q I rx hs pl pu q=>h Ng s U H x v vl vu lo hi sl Q I rx hs pl pu (k x lo hi H Q q)
theorem Gg{prog:zF}{w:zO}{A:zV}{E:VSP}{s:zm}{t sl:Addr}{items:Array zg}{vl vu:zg}{lo hi:Option Int}{Q:VSP}(ht:IsTup s.heap t items)(hs:s.heap.IsSliceOf sl vl vu .none)(pl:IsPart vl lo)(pu:IsPart vu hi)
 (hw:HT.sIx items.size 0 lo=0/\HT.sIx items.size items.size hi=items.size) (h:Q (.ref t) s):zv (zD prog w) A (Xu (.ref t) (.ref sl)) Q E s:=by
 obtain⟨os,hos,hcs,hds⟩:=id hs;have hTs:s.TypeIs (.ref sl) "slice":=⟨os,hos,hcs⟩;unfold Xu
 try with_reducible refine yV ?_
 first|refine zc (zt ?_)|skip
 refine zc (wpAny_sequenceKey ht.typeIs (by decide) ?_);refine zc (yx ht.typeIs jD
  (yF jD ht.typeIs entry_tuple_getitem ?_ (args_tuple_getitem _ _)))
 show zv _ _ (YD (.ref t) >>= _) _ _ s;refine zc (tupleItemsOf_ ht ?_);refine zc (wpAny_typeOf hTs ?_);rw[if_pos (by decide)];refine zc (HT.sliceApplied_gen hs pl pu ?_);have hyes:(((HT.sIx items.size 0 lo:Nat):Int)==0&&(1:Int)==1&&(HT.sIx items.size items.size hi-HT.sIx items.size 0 lo)==items.size)=true:=by rw[hw.1,hw.2];simp
 show zv _ _ (if (((HT.sIx items.size 0 lo:Nat):Int)==0&&(1:Int)==1&&(HT.sIx items.size items.size hi-HT.sIx items.size 0 lo)==items.size)=true then _ else _) _ _ s;rw[if_pos hyes];unfold Builtin.Tuple.tupleIsExact;refine zc (zc (wpAny_typeOf ht.typeIs (zt ?_)));rw[if_pos (by decide)];exact zc (JE (zt ⟨_,rfl,zt h⟩))
def SO(K:zd):V->Option Int->Option Int->Hp->VK->Prop:=λx lo hi H Q=>∃a xs,x= .ref a/\SqT K H a xs/\(HT.sIx xs.length 0 lo=0/\HT.sIx xs.length xs.length hi=xs.length)/\Q (.ref a) H
theorem BX:SlR X (SO X.K):=by
 intro Ng s U H x v vl vu lo hi sl Q I rx hs pl pu h;obtain⟨a,xs,rfl,hx,hw,q⟩:=h
 cases rx
 obtain⟨Nj,r,ht,hz⟩:=I.tuple hx;have Nm:Nj.toArray.size=xs.length:=by rw[zq];exact r.length.symm
 exact⟨"tuple",_,jD.lookup,ht.typeIs,Gg ht hs pl pu (by rw[Nm];exact hw) ⟨.ref a,H,I,rfl,q⟩⟩
theorem TH{c:Wc}{μ:List Addr}{H:Hp}{l:List D}{vs:List V}(r:m9 c μ H l vs)(lo hi:Option Int):m9 c μ H (cutD l lo hi) (g6 vs lo hi):=by unfold cutD g6;rw[r.length];exact(r.drop _).take _
theorem gU:SlD X Z slD:=SlR.mono (sl_tup.or (BX.or Lm)) λx lo hi H Q ⟨dx,μ,G,rx,hr,p⟩=>by
 rcases dx with _|_|_|_|l|r|_|_<;>try (exact p.elim;done)
 ·
   unfold f9 at rx;obtain⟨a,vs,rfl,q,rl⟩:=rx;by_cases hw:HT.sIx vs.length 0 lo=0/\HT.sIx vs.length vs.length hi=vs.length
   · refine .inr (.inl ⟨a,vs,rfl,q,hw,sG hr q ?_ p⟩);have e:g6 vs lo hi=vs:=by unfold g6;rw[hw.1,hw.2];simp
     have:=TH rl lo hi;rw[e]at this;exact this
   ·exact .inl ⟨a,vs,rfl,q,hw,λp' hp=>ID hr (TH rl lo hi) p p' hp⟩
 ·
   obtain⟨l,a,vs,rfl,rl,p2,hq⟩:=rH hr rx p;have hs:SqL (wc X).K H a vs:=by
    rcases hq with⟨z,_⟩|⟨_,_,_,⟨_,q⟩|⟨_,q⟩⟩
    ·cases z
    ·exact SqL.of q
    ·exact q.sq
   exact .inr (.inr ⟨a,vs,rfl,hs,λp' hp=>h9 hr (TH rl lo hi) p2 p' hp⟩)
variable{lo hi:Option Expr}{fl fh:Fo}{p2:Pos}
end
def f8(r:Nat)(o:DO):M Unit:=λG=>some (.ok (),G.set r o)
def L8(l:List (Key×D))(k:Key)(d:D):List (Key×D):=if l.any (λkv=>decide (kv.1=k))then l.map (λkv=>if kv.1=k then (kv.1,d)else kv)else l++[(k,d)]
def F9:D->D->D->M Unit:=λo i d=>match o with
 | .ref r=>do
   match <-K6 r with
   | .lst l=>match i with
     | .int k=>match ixN l.length k with
       |some j=>f8 r (.lst (l.set j d))
       |none=>M.stuck
     |_=>M.stuck
   | .dct l=>match SA i with
     |some k=>if l.length<ze then f8 r (.dct (L8 l k d))else M.stuck
     |none=>M.stuck
   | .rol _=>M.stuck
   | .rod _=>M.stuck
 |_=>M.stuck
def P5(fo fi:Fe):Fg:=λd U=>do
 let o <-fo U
 let i <-fi U
 let _ <-F9 o i d
 pure U
section
variable{X:Cx}{Z:XC}{μ:List Addr}{H:Hp}{G:DH}
theorem Hm(rv:f9 c μ H d v):∀ {l} {Nh},W5 c μ H l Nh->W5 c μ H (L8 l k d) (P3 Nh k v):=by
 have any_eq:∀ {l:List (Key×D)} {Nh:List (Key×V)},W5 c μ H l Nh->(l.any λkv=>decide (kv.1=k))= (Nh.any λkv=>decide (kv.1=k)):=by
  intro l
  induction l with
  |nil=>intro Nh r;cases r;rfl
  |cons p t ih=>
    intro Nh r;obtain⟨v',kt,rfl,_,rt⟩:=r;rw[yN,yN,ih rt]
 have map_eq:∀ {l:List (Key×D)} {Nh:List (Key×V)},W5 c μ H l Nh->W5 c μ H (l.map λkv=>if kv.1=k then (kv.1,d)else kv) (Nh.map λkv=>if kv.1=k then (kv.1,v)else kv):=by
  intro l
  induction l with
  |nil=>intro Nh r;cases r;rfl
  |cons p t ih=>
    intro Nh r;obtain⟨k',d'⟩:=p;obtain⟨v',kt,rfl,q,rt⟩:=r;rw[zE,zE];by_cases e:k'=k
    ·simp only[e,if_true];exact⟨v,_,rfl,rv,ih rt⟩
    ·simp only[e,if_false];exact⟨v',_,rfl,q,ih rt⟩
 have app_eq:∀ {l:List (Key×D)} {Nh:List (Key×V)},W5 c μ H l Nh->W5 c μ H (l++[(k,d)]) (Nh++[(k,v)]):=by
  intro l
  induction l with
  |nil=>intro Nh r;cases r;exact⟨v, [],rfl,rv,rfl⟩
  |cons p t ih=>
    intro Nh r;obtain⟨v',kt,rfl,q,rt⟩:=r;exact⟨v',_,rfl,q,ih rt⟩
 intro l Nh r;unfold L8 P3;rw[any_eq r];split
 ·exact map_eq r
 ·exact app_eq r
theorem W5.length:∀ {l} {Nh},W5 c μ H l Nh->l.length=Nh.length
 |[],_,r=>by cases r;rfl
 |_::_,_,r=>by obtain⟨_,_,rfl,_,t⟩:=r;simp[W5.length t]
theorem SN{Q:List Addr->DH->Hp->Prop}(h:o8 c μ G H)(g:G[r]? =some o)(n:¬y4 (some o))(m:μ[r]? =some a)(n':¬y4 (some o'))(ho:∀x:Ext μ H μ (upd H a u),l5 c μ (upd H a u) a o')
 (p:c7 c Z μ H (f8 r o' G) λ_ X1 G' H'=>Q X1 G' H'):Q μ (G.set r o') (upd H a u):=by
 obtain⟨u',e,n1,n2⟩:=(h.obj r o a g m).some_of n;have x:Ext μ H μ (upd H a u):=Ext.mut (yJ m) e n1 n2 u;exact p μ _ x (h.set g n m x n' (ho x))
def PH(c:Wc)(Z:XC)(f:D->D->D->M Unit):TSet:=λo i v H Q=>∃d1 d2 d3 μ G,f9 c μ H d1 o/\f9 c μ H d2 i/\f9 c μ H d3 v/\o8 c μ G H/\c7 c Z μ H (f d1 d2 d3 G) λ_ _ _ H'=>Q H'
theorem PH.elim{P:Prop}{o:V}{i:V}{v:V}{H:Hp}(h:PH c Z f o i v H Q)(k:∀d1 d2 d3 μ G,f9 c μ H d1 o->f9 c μ H d2 i->f9 c μ H d3 v->o8 c μ G H->c7 c Z μ H (f d1 d2 d3 G) (λ_ _ _ H'=>Q H')->P):P:=by obtain⟨e0,e1,e2,e3,e4,e5,e6,e7,e8,e9⟩:=h;exact k e0 e1 e2 e3 e4 e5 e6 e7 e8 e9
theorem Gj(hu:X.A.units+64<Ze):iG X (PH (wc X) Z F9):=by
 intro Ng s U H o i v ov iv u Q I ro ri rv Nk;obtain⟨d1,d2,d3,μ,G,r1,r2,r3,hr,p⟩:=Nk;rcases d1 with _|_|_|_|_|r|_|_<;>try (exact p.elim;done)
 ·
   unfold f9 at r1;obtain⟨a,m,rfl⟩:=r1;obtain⟨ob,g,p1⟩:=J8 p;have rob:=hr.obj r ob a g m;rcases ob with l|l|l|l
   ·
     obtain⟨vs,ea,rl⟩:=rob;rcases d2 with _|_|k|_|_|_|_|_<;>try (exact p1.elim;done)
     ·
       dsimp only at p1;rcases hk:ixN l.length k with _|j
       ·simp only[hk]at p1;exact p1.elim
       ·
         simp only[hk]at p1;exact Hh Ng s U H (.ref a) i v ov iv u Q I ro ri rv ⟨a,vs,k,j,rfl,A1 r2,ea,by rw[<-rl.length];exact hk,SN (o':=.lst (l.set j d3)) hr g (λz=>z) m (λz=>z) (λx=>⟨_,v9,(rl.mono x).set (r3.mono x) j⟩) p1⟩
   ·exact p1.elim
   ·
     obtain⟨Nh,ea,rk⟩:=rob;dsimp only at p1;rcases hk:SA d2 with _|k
     ·simp only[hk]at p1;exact p1.elim
     ·
       simp only[hk]at p1;split at p1
       · rename_i hz;have ei:=VI hk r2;subst ei
         cases ro
         refine NZ (by lia) I (RD.k ea (by rw[<-rk.length];exact hz)) ri rv λs' I'=>⟨_,I',?_⟩;exact SN (o':=.dct (L8 l k d3)) hr g (λz=>z) m (λz=>z) (λx=>⟨_,v9,Hm (r3.mono x) (rk.mono x)⟩) p1
       ·exact p1.elim
   ·exact p1.elim
variable{a b e o i:Expr}{fa fb fo fi:Fe}
theorem PX(hu:X.A.units+64<Ze)(ho:DE X Z o fo)(hi:DE X Z i fi)
 (ha:∀v,Yr (.Subscript o i pos) X.env v= (do
   let ov <-YQ [v] (eval o X.env)
   let iv <-YQ [v,ov] (eval i X.env)
   standAt pos
   YQ [v,ov,iv] (setItem ov iv v)
   release [v,ov,iv] [])):DG X Z (.Subscript o i pos) (P5 fo fi):=
 DG.of (Lb ho.h hi.h (Gj hu) ha) λv U H Q Nk=>Nk.elim λd X9 μ G r s h p=>⟨X9,μ,G,s,h,(c7.bind p).mono λd1 X0 G1 H1 x1 h1 p1 v1 r1=>
  ⟨X9,X0,G1,s.mono x1,h1,(c7.bind p1).mono λd2 WX G2 H2 x2 h2 p2 v2 r2=>⟨d1,d2,d,WX,G2,r1.mono x2,r2,r.mono (x1.trans x2),h2,(c7.bind p2).mono λ_ μ3 G3 H3 x3 h3 p3=>c7.ok p3 h3 U (s.mono (x1.trans (x2.trans x3)))⟩⟩⟩
def UF:Fe:=λ_=>O1 (.dct [])
theorem gZ:DE X Z (.Dict [] [] pos) UF:=DE.of Gz λU H Q Nk=>Nk.elim λX9 μ G s h p q hq=>by have k:Ext μ H (μ++[q]) (upd H q (.dK [])):=Ext.add hq _;refine p (μ++[q]) _ k (h.new hq ⟨[],v9,rfl⟩) _ ?_;unfold f9;exact⟨q,by rw[<-h.len];simp,rfl⟩
def lB:D->M Unit:=λx=>match x with
 | .ref r=>do
   match <-K6 r with
   | .lst _=>pure ()
   |_=>M.stuck
 |_=>M.stuck
def mtE(t:D->M Unit)(m:D->List D->M D)(fo:Fe)(fs:DSt->M (List D)):Fe:=λU=>do
 let x <-fo U
 let _ <-t x
 let xs <-fs U
 m x xs
def lstM(r:Nat):M (List D):=do
 match <-K6 r with
 | .lst l=>pure l
 |_=>M.stuck
def aD:D->List D->M D:=λx xs=>match x,xs with
 | .ref r, [y]=>do
   let l <-lstM r
   if l.length<ze then do
    let _ <-f8 r (.lst (l++[y]))
    pure .non
   else M.stuck
 |_,_=>M.stuck
theorem BR{a:Addr}{f:List D->M α}{K:α->List Addr->DH->Hp->Prop}(h:o8 c μ G H)(m:μ[r]? =some a)(p:c7 c Z μ H ((lstM r >>= f) G) K):
 ∃l vs,G[r]? =some (.lst l)/\H a=some (.lst vs)/\m9 c μ H l vs/\c7 c Z μ H (f l G) K:=by
 have p':c7 c Z μ H ((K6 r >>= λo=>(match o with| .lst l=>pure l|_=>M.stuck:M (List D)) >>= f) G) K:=by rw[<-M.bind_assoc];exact p
 obtain⟨o,g,p2⟩:=J8 p';have ro:=h.obj r o a g m;rcases o with l|_|_|_<;>try (exact p2.elim;done)
 ·obtain⟨vs,e,rl⟩:=ro;exact⟨l,vs,g,e,rl,p2⟩
def MtD(X:Cx)(Z:XC)(id:String)(m:D->List D->M D):Prop:=
 MtR X id λx xs H Q=>∃d ds μ G,f9 (wc X) μ H d x/\m9 (wc X) μ H ds xs/\o8 (wc X) μ G H/\c7 (wc X) Z μ H (m d ds G) λd X1 _ H'=>∀v,f9 (wc X) X1 H' d v->Q v H'
theorem CU{r:Nat}{a:Addr}{f:M α}{K:α->List Addr->DH->Hp->Prop}(h:o8 c μ G H)(g:G[r]? =some (.lst l))(m:μ[r]? =some a)(rl:∀x:Ext μ H μ (upd H a (.lst Pd)),m9 c μ (upd H a (.lst Pd)) l' Pd)
 (p:c7 c Z μ H ((f8 r (.lst l') >>= λ_=>f) G) K):Ext μ H μ (upd H a (.lst Pd))/\o8 c μ (G.set r (.lst l')) (upd H a (.lst Pd))/\c7 c Z μ (upd H a (.lst Pd)) (f (G.set r (.lst l'))) K:=by
 obtain⟨u',e,n1,n2⟩:=(h.obj r _ a g m).some_of (λz=>z);have x:Ext μ H μ (upd H a (.lst Pd)):=Ext.mut (yJ m) e n1 n2 _;have h':o8 c μ (G.set r (.lst l')) (upd H a (.lst Pd)):=h.set g (λz=>z) m x (λz=>z) ⟨Pd,v9,rl x⟩;exact⟨x,h',c7.from p x⟩
theorem KQ:MtD X Z "list.append" aD:=by
 intro Ng s U H x xs v us Q I rx rs Nk;obtain⟨d,ds,μ,G,rd,rds,hr,p⟩:=Nk;rcases d with _|_|_|_|_|r|_|_<;>try (exact p.elim;done)
 ·
   unfold f9 at rd;obtain⟨a,m,rfl⟩:=rd;rcases ds with _|⟨y,t⟩
   ·exact p.elim
   ·
     rcases t with _|⟨_,_⟩
     ·
       obtain⟨yv,tv,rfl,ry,e⟩:=rds
       cases e
       obtain⟨l,vs,g,ea,rl,p1⟩:=BR hr m p;split at p1
       ·rename_i hz;obtain⟨x1,h1,p2⟩:=CU hr g m (λx=>(rl.mono x).append (m9.cons (ry.mono x) m9.nil)) p1;exact GH Ng s U H (.ref a) [yv] v us Q I rx rs ⟨a,vs,yv,rfl,rfl,ea,by rw[<-rl.length];exact hz,c7.ok p2 h1 _ ofN⟩
       ·exact p1.elim
     ·exact p.elim
variable{es:List Expr}{fs:DSt->M (List D)}{name:Str}{apos cpos:Pos}{id:String}{mm:D->List D->M D}
theorem BY{f:Unit->M α}{K:α->List Addr->DH->Hp->Prop}(h:o8 c μ G H)(r:f9 c μ H d v)(p:c7 c Z μ H ((lB d >>= f) G) K):tyV c.K "list" v H/\c7 c Z μ H (f () G) K:=by
 rcases d with _|_|_|_|_|i|_|_<;>try (exact p.elim;done)
 ·
   unfold f9 at r;obtain⟨a,m,rfl⟩:=r;have p':c7 c Z μ H ((K6 i >>= λo=>(match o with| .lst _=>pure ()|_=>M.stuck:M Unit) >>= f) G) K:=by rw[<-M.bind_assoc];exact p
   obtain⟨o,g,p2⟩:=J8 p';have ro:=h.obj i o a g m;rcases o with l|_|_|_<;>try (exact p2.elim;done)
   ·obtain⟨vs,e,rl⟩:=ro;exact⟨.inl ⟨rfl,vs,SqL.of e⟩,p2⟩
theorem wd(slot:Slot "list" name id)(hty:typeOf (.builtin id)=pure (.type "method_descriptor"))(hm:MtD X Z id mm)(ho:DE X Z o fo)(ha:DA X Z (e::es) fs)
 (hbase:Ya o name X.env (eval o X.env)=eval o X.env)
 (hfew:((yy cpos (zC (e::es) X.env)).all (λx=> !x.1)&&(JF cpos (YJ [] X.env)).all (λx=>x.1.isSome)
   && decide ((e::es).length+([]:List Keyword).length+(if ([]:List Keyword).isEmpty then 0 else 1)<30))=true)
 (hline:(apos.endLine==cpos.line)=true) (hs:zC (e::es) X.env= (false,eval e X.env)::zC es X.env) (Pj:(yy cpos (zC es X.env)).any (·.1)=false):
 DE X Z (.Call (.Attribute o name apos) (e::es) [] cpos) (mtE lB mm fo fs):=
 DE.of (lI XS slot hty hm ho.h ha.h hbase hfew hline hs Pj) λU H Q Nk=>Nk.elim λX9 μ G s h p=>⟨X9,μ,G,s,h,(c7.bind p).mono λd X0 G1 H1 x1 h1 p1 v rv=>by obtain⟨ty,p2⟩:=BY h1 rv p1;exact⟨ty,X9,X0,G1,s.mono x1,h1,(c7.bind p2).mono λds WX G2 H2 x2 h2 p3 vs rvs=>⟨d,ds,WX,G2,rv.mono x2,rvs,h2,p3⟩⟩⟩
end
def SI(k:Bool)(h:Heap)(it a:Addr)(i:Nat):Prop:=if k then h.IsTupleIter it a i else h.IsListIter it a i
def SC(k:Bool)(h:Heap)(a:Addr)(items:Array zg):Prop:=if k then h.IsTuple a items else h.IsList a items
section
variable{prog:zF}{w:zO}{A:zV}{E:VSP}{s:zm}
theorem SI.keep(x:SI k h it a i)(q:∀o,h.get? it=some o->h'.get? it=some o):SI k h' it a i:=by
 rcases k with _|_
 ·exact Heap.IsListIter.at (show h.IsListIter it a i from x) q
 ·exact Heap.IsTupleIter.at (show h.IsTupleIter it a i from x) q
theorem SC.keep(x:SC k h a Nj)(q:∀o,h.get? a=some o->h'.get? a=some o):SC k h' a Nj:=by
 rcases k with _|_
 ·obtain⟨o,e,r⟩:=(show h.IsList a Nj from x);exact⟨o,q o e,r⟩
 ·obtain⟨o,e,r⟩:=(show h.IsTuple a Nj from x);exact⟨o,q o e,r⟩
theorem SI.there(x:SI k h it a i):∃o,h.get? it=some o/\∀v,o.data≠ .cell v:=by
 rcases k with _|_
 ·obtain⟨o,e,c,d⟩:=(show h.IsListIter it a i from x);exact⟨o,e,λv z=>by rw[d]at z;cases z⟩
 ·obtain⟨o,e,c,d⟩:=(show h.IsTupleIter it a i from x);exact⟨o,e,λv z=>by rw[d]at z;cases z⟩
theorem Cm(hit:s.heap.IsTupleIter it t i)(ht:s.heap.IsTuple t items)(hx:items[i]? =some x)
 (hQ:∀h',h'.IsTupleIter it t (i+1)->xU it s.heap h'->Q x {s with heap:=h'}):zv (zD prog w) A (zZ (.ref it)) Q E s:=by
 obtain⟨ob,hob,hcls,Pq⟩:=id hit;obtain⟨ot,hot,_,nt,hdt⟩:=ht;unfold zZ;refine zc (yx hit.typeIs xC (yF xC hit.typeIs Jt ?_ (Jm _)));show zv _ _ (field (.ref it) 0 >>= _) _ _ s;refine zc (jz hob Pq rfl ?_);show zv _ _ (if (Value.ref t==Value.none)=true then _ else _) _ _ s;rw[if_neg (show ¬((Value.ref t==Value.none)=true)from zG)];show zv _ _ (field (.ref it) 1 >>= _) _ _ s;refine zc (jz hob Pq rfl ?_);show zv _ _ (seqItems? (.ref t) >>= _) _ _ s;refine zc (yp hot hdt ?_);simp only[jR,hx];refine zc (xH hob Pq (by simp) (zt ⟨x,rfl,zt (hQ _ ?_ (Xx ..))⟩));exact⟨_,yi _ hob (Za (xf Pq _)),(Obj.cls_mapFields ..).trans hcls,by rw[xf Pq];simp[xJ]⟩
theorem UP(hh:A.handled=none)(hit:s.heap.IsTupleIter it t i)(ht:s.heap.IsTuple t items)(hx:items[i]? =none)
 (hE:∀h' e,Heap.ExtBut it s.heap h'->(∃o,h'.get? e=some o/\o.cls= .type "StopIteration")->E (.ref e) {s with heap:=h'}):zv (zD prog w) A (zZ (.ref it)) Q E s:=by
 obtain⟨ob,hob,hcls,Pq⟩:=id hit;obtain⟨ot,hot,_,nt,hdt⟩:=ht;unfold zZ;refine zc (yx hit.typeIs xC (yF xC hit.typeIs Jt ?_ (Jm _)));show zv _ _ (field (.ref it) 0 >>= _) _ _ s;refine zc (jz hob Pq rfl ?_);show zv _ _ (if (Value.ref t==Value.none)=true then _ else _) _ _ s;rw[if_neg (show ¬((Value.ref t==Value.none)=true)from zG)];show zv _ _ (field (.ref it) 1 >>= _) _ _ s;refine zc (jz hob Pq rfl ?_);show zv _ _ (seqItems? (.ref t) >>= _) _ _ s;refine zc (yp hot hdt ?_);simp only[jR,hx];refine zc (JE (zc (xH hob Pq (by simp) ?_)));show zv _ _ (newExc (.type "StopIteration") [] >>= _) _ _ _;refine zc ?_;simp only[newExc,newTuple];refine zc (yw ?_ (by size_fits));refine zc (wpAny_of_eq (by first|rfl|(simp only[firstArgMember];rfl)) ?_);refine yw ?_ (by size_fits);delta raiseNew;dsimp only;refine zc (wpAny_handled ?_)
 first|rw[show A.in1.handled=none from hh]|rw[hh]
 refine zc (zt (wpAny_throw ?_));exact hE _ _ (((Xx ..).extBut.push _).push _) ⟨_,zy _ rfl,rfl⟩
theorem NF(hit:SI k s.heap it a i)(hl:SC k s.heap a items)(hx:items[i]? =some x)
 (hQ:∀h',SI k h' it a (i+1)->xU it s.heap h'->Q x {s with heap:=h'}):zv (zD prog w) A (zZ (.ref it)) Q E s:=by
 rcases k with _|_
 ·exact wpAny_nextOf_list_item hit hl hx hQ
 ·exact Cm hit hl hx hQ
theorem cM(hh:A.handled=none)(hit:SI k s.heap it a i)(hl:SC k s.heap a items)(hx:items[i]? =none)
 (hE:∀h' e,Heap.ExtBut it s.heap h'->(∃o,h'.get? e=some o/\o.cls= .type "StopIteration")->E (.ref e) {s with heap:=h'}):zv (zD prog w) A (zZ (.ref it)) Q E s:=by
 rcases k with _|_
 ·exact wpAny_nextOf_list_end hh hit hl hx hE
 ·exact UP hh hit hl hx hE
structure ZA(z TI TO i1 i2:Addr):Prop where
 TIz:TI≠z
 TOz:TO≠z
 i1z:i1≠z
 i2z:i2≠z
 TITO:TI≠TO
 TIi1:TI≠i1
 TIi2:TI≠i2
 TOi1:TO≠i1
 TOi2:TO≠i2
 i12:i1≠i2
theorem iP(n:Nat):ZA (n+4:Nat) (n+2:Nat) (n+3:Nat) n (n+1:Nat):=⟨(by show @Ne Nat _ _;lia),(by show @Ne Nat _ _;lia),(by show @Ne Nat _ _;lia),(by show @Ne Nat _ _;lia),(by show @Ne Nat _ _;lia),(by show @Ne Nat _ _;lia),(by show @Ne Nat _ _;lia),(by show @Ne Nat _ _;lia),(by show @Ne Nat _ _;lia),(by show @Ne Nat _ _;lia)⟩
theorem aK(h:l<n):¬ @JX Addr (List Addr) List.instMembership [(n+4:Nat),(n+3:Nat),n,(n+1:Nat)] l:=by simp only[zl,zA,or_false,not_or];exact⟨(by show ¬ @Eq Nat _ _;lia),(by show ¬ @Eq Nat _ _;lia),(by show ¬ @Eq Nat _ _;lia),(by show ¬ @Eq Nat _ _;lia)⟩
theorem lU(hb: @JX Addr (List Addr) List.instMembership [(n+4:Nat),(n+2:Nat),(n+3:Nat),n,(n+1:Nat)] b): @LE.le Nat instLENat n b:=by simp only[zl,zA,or_false]at hb;rcases hb with rfl|rfl|rfl|rfl|rfl<;>(show @LE.le Nat instLENat _ _;lia)
variable{z TI TO i1 i2 l1 l2:Addr}{xs ys:Array zg}{k1 k2:Bool}{i:Nat}
theorem FZ{Q:VSP}(Ap:ZA z TI TO i1 i2)(n1:l1∉ [z,TO,i1,i2])(n2:l2∉ [z,TO,i1,i2])
 (hz:Zy s.heap z TI TO .none) (hTI:yD s.heap TI (.ref i1) (.ref i2)) (hTO:yD s.heap TO a b)
 (h1:SI k1 s.heap i1 l1 i) (h2:SI k2 s.heap i2 l2 i) (Px:SC k1 s.heap l1 xs) (hl2:SC k2 s.heap l2 ys) (hx:xs[i]? =some x) (hy:ys[i]? =some y)
 (hQ:∀h',Zy h' z TI TO (xJ s.heap.objs.size)->yD h' TO x y->SI k1 h' i1 l1 (i+1)->SI k2 h' i2 l2 (i+1)->yD h' s.heap.objs.size x y->h'.objs.size=s.heap.objs.size+1->
   (∀c o,c≠z->c≠TO->c≠i1->c≠i2->s.heap.get? c=some o->h'.get? c=some o)->Q (.ref s.heap.objs.size) {s with heap:=h'}):
 zv (zD prog w) A (Yt.«zip.__next__» ⟨[.ref z], []⟩) (λfin s'=>∃v,fin= .done (.ret v)/\Q v s') E s:=by
 simp only[zl,zA,or_false,not_or]at n1 n2;show zv _ _ (field (.ref z) 2 >>= _) _ _ _;refine zc (jz hz rfl rfl ?_);show zv _ _ (field (.ref z) 3 >>= _) _ _ _;refine zc (jz hz rfl rfl ?_);refine zc (yp hTI rfl ?_);show zv _ _ (yk (.ref z) >>= _) _ _ _;refine zc ?_;unfold yk;refine zc (jz hz rfl rfl (zt ?_));simp only[if_true];refine zc (JE ?_);refine zc (jz hz rfl rfl ?_);refine zc (xm hz (by simp) λg₁ hz₁ WV=>?_);replace hz₁:Zy g₁ z TI TO .ellipsis:=hz₁;refine zc ?_;simp only[Xg,Xo,Xp,List.forIn_nil];refine zc (zc (Xc ?_));show zv _ _ (zZ (.ref i1) >>= _) _ _ _;refine zc (NF (h1.keep λo e=>WV.extBut _ _ Ap.i1z e) (Px.keep λo e=>WV.extBut _ _ n1.1 e) hx λg₂ h1₂ WS=>zt ?_);have hTO₂:yD g₂ TO a b:=WS.extBut _ _ Ap.TOi1 (WV.extBut _ _ Ap.TOz hTO);refine zc (yp hTO₂ rfl ?_);refine zc (YI hTO₂ λg₃ hTO₃ hs₃=>?_);replace hTO₃:yD g₃ TO x b:=hTO₃;refine zc (Zr (zt ?_));refine zc (zc (Xc ?_));show zv _ _ (zZ (.ref i2) >>= _) _ _ _;have up3:∀c o,c≠z->c≠TO->c≠i1->s.heap.get? c=some o->g₃.get? c=some o:=λc o c1 c2 c3 e=>hs₃.extBut _ _ c2 (WS.extBut _ _ c3 (WV.extBut _ _ c1 e));refine zc (NF (h2.keep λo e=>up3 _ _ Ap.i2z Ap.TOi2.symm Ap.i12.symm e) (hl2.keep λo e=>up3 _ _ n2.1 n2.2.1 n2.2.2.1 e) hy λg₄ h2₄ hs₄=>zt ?_);have hTO₄:yD g₄ TO x b:=hs₄.extBut _ _ Ap.TOi2 hTO₃;refine zc (yp hTO₄ rfl ?_);refine zc (YI hTO₄ λWT hTO₅ hs₅=>?_);replace hTO₅:yD WT TO x y:=hTO₅;refine zc (Zr (zt (zt ?_)));refine zc (yp hTO₅ rfl ?_);refine zc (wpAny_newTuple ?_);have hsz:WT.objs.size=s.heap.objs.size:=by rw[hs₅.1,hs₄.1,hs₃.1,WS.1,WV.1]
 have hz₅:Zy WT z TI TO .ellipsis:=hs₅.extBut _ _ Ap.TOz.symm (hs₄.extBut _ _ Ap.i2z.symm (hs₃.extBut _ _ Ap.TOz.symm (WS.extBut _ _ Ap.i1z.symm hz₁)));have hk₅:∀c o,c≠z->c≠TO->c≠i1->c≠i2->s.heap.get? c=some o->WT.get? c=some o:=λc o c1 c2 c3 c4 e=>hs₅.extBut _ _ c2 (hs₄.extBut _ _ c4 (up3 c o c1 c2 c3 e));have h1₅:SI k1 WT i1 l1 (i+1):=h1₂.keep λo e=>hs₅.extBut _ _ Ap.TOi1.symm (hs₄.extBut _ _ Ap.i12 (hs₃.extBut _ _ Ap.TOi1.symm e));have h2₅:SI k2 WT i2 l2 (i+1):=h2₄.keep λo e=>hs₅.extBut _ _ Ap.TOi2.symm e;have hzlt:z<WT.objs.size:=zj hz₅;show zv _ _ (Zu (.ref z) (.ref WT.objs.size) >>= _) _ _ _;refine zc ?_;unfold Zu;have hz₆:Zy (WT.push {cls:=.type "tuple",data:=.seq #[x,y]}) z TI TO .ellipsis:=zf _ hz₅;refine zc (xm hz₆ (by simp) λg₇ hz₇ hs₇=>?_);replace hz₇:Zy g₇ z TI TO (xJ WT.objs.size):=hz₇;refine xm hz₇ (by simp) λg₈ hz₈ hs₈=>?_;replace hz₈:Zy g₈ z TI TO (xJ WT.objs.size):=hz₈;have up:∀c o,c≠z->WT.get? c=some o->g₈.get? c=some o:=λc o c1 e=>hs₈.extBut _ _ c1 (hs₇.extBut _ _ c1 (zf _ e));have hT₈:yD g₈ WT.objs.size x y:=hs₈.extBut _ _ (yM hzlt) (hs₇.extBut _ _ (yM hzlt) (zy _ rfl));have hz8:g₈.objs.size=WT.objs.size+1:=by rw[hs₈.1,hs₇.1,yT]
 rw[hsz]at hz₈ hT₈ hz8;refine zt ⟨_,rfl,?_⟩;show Q (.ref WT.objs.size) _;rw[hsz];exact hQ g₈ hz₈ (up _ _ Ap.TOz hTO₅) (h1₅.keep λo e=>up _ o Ap.i1z e) (h2₅.keep λo e=>up _ o Ap.i2z e) hT₈ hz8 λc o c1 c2 c3 c4 e=>up c o c1 (hk₅ c o c1 c2 c3 c4 e)
theorem HR(hh:A.handled=none)(Ap:ZA z TI TO i1 i2)(n1:l1∉ [z,TO,i1,i2])(n2:l2∉ [z,TO,i1,i2])
 (hz:Zy s.heap z TI TO .none) (hTI:yD s.heap TI (.ref i1) (.ref i2)) (hTO:yD s.heap TO a b)
 (h1:SI k1 s.heap i1 l1 i) (h2:SI k2 s.heap i2 l2 i) (Px:SC k1 s.heap l1 xs) (hl2:SC k2 s.heap l2 ys) (hend:xs[i]? =none\/ys[i]? =none)
 (hE:∀h' e,(∀c o,c≠z->c≠TO->c≠i1->c≠i2->s.heap.get? c=some o->h'.get? c=some o)->(∃o,h'.get? e=some o/\o.cls= .type "StopIteration")->E (.ref e) {s with heap:=h'}):
 zv (zD prog w) A (Yt.«zip.__next__» ⟨[.ref z], []⟩) Q E s:=by
 simp only[zl,zA,or_false,not_or]at n1 n2;show zv _ _ (field (.ref z) 2 >>= _) _ _ _;refine zc (jz hz rfl rfl ?_);show zv _ _ (field (.ref z) 3 >>= _) _ _ _;refine zc (jz hz rfl rfl ?_);refine zc (yp hTI rfl ?_);show zv _ _ (yk (.ref z) >>= _) _ _ _;refine zc ?_;unfold yk;refine zc (jz hz rfl rfl (zt ?_));simp only[if_true];refine zc (JE ?_);refine zc (jz hz rfl rfl ?_);refine zc (xm hz (by simp) λg₁ hz₁ WV=>?_);replace hz₁:Zy g₁ z TI TO .ellipsis:=hz₁;refine zc ?_;simp only[Xg,Xo,Xp,List.forIn_nil];refine zc (zc (Xc ?_));show zv _ _ (zZ (.ref i1) >>= _) _ _ _;rcases hx:xs[i]? with _|x
 ·
   refine zc (cM hh (h1.keep λo e=>WV.extBut _ _ Ap.i1z e) (Px.keep λo e=>WV.extBut _ _ n1.1 e) hx λg₂ e WS he=>?_);obtain⟨oe,hoe,hce⟩:=he;have hz₂:Zy g₂ z TI TO .ellipsis:=WS _ _ Ap.i1z.symm hz₁;have hez:e≠z:=λq=>by subst q;rw[hz₂]at hoe;cases hoe;simp at hce
   exact xm hz₂ (by simp) λg₃ _ hs₃=>hE g₃ e (λc o c1 _ c3 _ q=>hs₃.extBut _ _ c1 (WS _ _ c3 (WV.extBut _ _ c1 q))) ⟨oe,hs₃.extBut _ _ hez hoe,hce⟩
 ·
   have hy:ys[i]? =none:=by
    rcases hend with h|h
    ·rw[hx]at h;exact QD h
    ·exact h
   refine zc (NF (h1.keep λo e=>WV.extBut _ _ Ap.i1z e) (Px.keep λo e=>WV.extBut _ _ n1.1 e) hx λg₂ h1₂ WS=>zt ?_);have hTO₂:yD g₂ TO a b:=WS.extBut _ _ Ap.TOi1 (WV.extBut _ _ Ap.TOz hTO);refine zc (yp hTO₂ rfl ?_);refine zc (YI hTO₂ λg₃ hTO₃ hs₃=>?_);refine zc (Zr (zt ?_));refine zc (zc (Xc ?_));show zv _ _ (zZ (.ref i2) >>= _) _ _ _;have up3:∀c o,c≠z->c≠TO->c≠i1->s.heap.get? c=some o->g₃.get? c=some o:=λc o c1 c2 c3 e=>hs₃.extBut _ _ c2 (WS.extBut _ _ c3 (WV.extBut _ _ c1 e));refine zc (cM hh (h2.keep λo e=>up3 _ _ Ap.i2z Ap.TOi2.symm Ap.i12.symm e) (hl2.keep λo e=>up3 _ _ n2.1 n2.2.1 n2.2.2.1 e) hy λg₄ e hs₄ he=>?_);obtain⟨oe,hoe,hce⟩:=he;have hz₄:Zy g₄ z TI TO .ellipsis:=hs₄ _ _ Ap.i2z.symm (hs₃.extBut _ _ Ap.TOz.symm (WS.extBut _ _ Ap.i1z.symm hz₁));have hez:e≠z:=λq=>by subst q;rw[hz₄]at hoe;cases hoe;simp at hce
   exact xm hz₄ (by simp) λWT _ hs₅=>hE WT e (λc o c1 c2 c3 c4 q=>hs₅.extBut _ _ c1 (hs₄ _ _ c4 (up3 c o c1 c2 c3 q))) ⟨oe,hs₅.extBut _ _ hez hoe,hce⟩
theorem VY(Ap:ZA z TI TO i1 i2)(n1:l1∉ [z,TO,i1,i2])(n2:l2∉ [z,TO,i1,i2])
 (hz:Zy s.heap z TI TO .none) (hTI:yD s.heap TI (.ref i1) (.ref i2)) (hTO:yD s.heap TO a b)
 (h1:SI k1 s.heap i1 l1 i) (h2:SI k2 s.heap i2 l2 i) (Px:SC k1 s.heap l1 xs) (hl2:SC k2 s.heap l2 ys) (hx:xs[i]? =some x) (hy:ys[i]? =some y)
 (hQ:∀h',Zy h' z TI TO (xJ s.heap.objs.size)->yD h' TO x y->SI k1 h' i1 l1 (i+1)->SI k2 h' i2 l2 (i+1)->yD h' s.heap.objs.size x y->h'.objs.size=s.heap.objs.size+1->
   (∀c o,c≠z->c≠TO->c≠i1->c≠i2->s.heap.get? c=some o->h'.get? c=some o)->Q (some (.ref s.heap.objs.size)) {s with heap:=h'}):
 zv (zD prog w) A (Xn (.ref z)) Q E s:=by
 have hT:s.TypeIs (.ref z) "zip":=⟨_,hz,rfl⟩;unfold Xn;exact zc (wpAny_attempt (yx hT Yo (yF Yo hT F.entry_zip_next
  (FZ Ap n1 n2 hz hTI hTO h1 h2 Px hl2 hx hy λh' a1 a2 a3 a4 a5 a6 a7=>zt (hQ h' a1 a2 a3 a4 a5 a6 a7)) (F.args_zip_next_1 _))))
theorem Lp(hh:A.handled=none)(Ap:ZA z TI TO i1 i2)(n1:l1∉ [z,TO,i1,i2])(n2:l2∉ [z,TO,i1,i2])
 (hz:Zy s.heap z TI TO .none) (hTI:yD s.heap TI (.ref i1) (.ref i2)) (hTO:yD s.heap TO a b)
 (h1:SI k1 s.heap i1 l1 i) (h2:SI k2 s.heap i2 l2 i) (Px:SC k1 s.heap l1 xs) (hl2:SC k2 s.heap l2 ys) (hend:xs[i]? =none\/ys[i]? =none)
 (hQ:∀h',(∀c o,c≠z->c≠TO->c≠i1->c≠i2->s.heap.get? c=some o->h'.get? c=some o)->Q none {s with heap:=h'}):zv (zD prog w) A (Xn (.ref z)) Q E s:=by
 have hT:s.TypeIs (.ref z) "zip":=⟨_,hz,rfl⟩;unfold Xn;refine zc (wpAny_attempt (yx hT Yo (yF Yo hT F.entry_zip_next
  (HR hh Ap n1 n2 hz hTI hTO h1 h2 Px hl2 hend λh' e hk he=>?_) (F.args_zip_next_1 _))))
 obtain⟨o,ho,hc⟩:=he;exact zc (wpAny_isInstance ⟨o,ho,hc⟩ isSubtype_stop (zt (hQ _ hk)))
end
def LA(k:Bool)(a:Addr):Obj:={cls:=.type (if k then "tuple_iterator" else "list_iterator"),data:=.fields #[.ref a,.int 0 0]}
abbrev zh1(k1:Bool)(h:Heap)(l1:Addr):Heap:=h.push (LA k1 l1)
abbrev zh2(k1 k2:Bool)(h:Heap)(l1 l2:Addr):Heap:=(zh1 k1 h l1).push (LA k2 l2)
abbrev zh3(k1 k2:Bool)(h:Heap)(l1 l2:Addr):Heap:=(zh2 k1 k2 h l1 l2).push {cls:=.type "tuple",data:=.seq #[.ref h.objs.size,.ref (zh1 k1 h l1).objs.size]}
abbrev zh4(k1 k2:Bool)(h:Heap)(l1 l2:Addr):Heap:=(zh3 k1 k2 h l1 l2).push {cls:=.type "tuple",data:=.seq #[.none,.none]}
abbrev zh5(k1 k2:Bool)(h:Heap)(l1 l2:Addr):Heap:=(zh4 k1 k2 h l1 l2).push {cls:=.type "zip",data:=.fields #[.none,.bool false,.bool false,.ref (zh2 k1 k2 h l1 l2).objs.size,.ref (zh3 k1 k2 h l1 l2).objs.size]}
theorem bJ(hl:SC k s.heap a items)(h:Q (.ref s.heap.objs.size) {s with heap:=s.heap.push (LA k a)}):zv (zD prog w) A (pyIter (.ref a)) Q E s:=by
 rcases k with _|_
 ·exact ZU hl h
 ·exact wpAny_pyIter_tuple hl h
theorem Hd(k1 k2:Bool)(l1 l2:Addr)(xs ys:Array zg):
 Meets (Yt.«zip.__new__» ⟨[.type "zip",.ref l1,.ref l2], []⟩) (λ_ R s=>SC k1 s.heap l1 xs/\SC k2 s.heap l2 ys/\R (.ok (.ret (.ref (zh4 k1 k2 s.heap l1 l2).objs.size))) {s with heap:=zh5 k1 k2 s.heap l1 l2}):=
 .of_wp λprog w A R s h=>by
  obtain⟨hp,g,d,tk,os⟩:=s;obtain⟨Px,hl2,h⟩:=h;have hsub:=sub_zip;have hL1:SC k1 (Shared.heap ⟨hp,g,d,tk,os⟩) l1 xs:=Px;have hL2:SC k2 (Shared.heap ⟨hp.push (LA k1 l1),g,d,tk,os⟩) l2 ys:=hl2.keep λo e=>zf _ e
  wp_walk using bJ hL1,bJ hL2
  exact⟨_,rfl,h⟩
section
theorem sI{ch:List Addr}(I:Inv X Ng U H s)(hf:∀b∈ch,Q2 X Ng H b)(k:∀b o,b∉ch->s.heap.get? b=some o->h'.get? b=some o)
 (hz:vs.length<=ze) (rv:t8 vs us) (ht:W6 h' s.heap.objs.size us.toArray):Inv X Ng U (upd H s.heap.objs.size (.tup vs)) {s with heap:=h',toks:=t'}:=by
 have hq:H s.heap.objs.size=none:=I.hok.fresh (zk _);have neq:∀b o,s.heap.get? b=some o->b≠s.heap.objs.size:=λb o e=>zB (zj e);have nch:∀b u,H b=some u->b∉ch:=λb u e z=>by rw[(hf b z).1]at e;cases e
 refine I.step (λb hb=>⟨(hf b hb).2.2.2.1,(hf b hb).2.1,(hf b hb).2.2.2.2.1,(hf b hb).2.2.2.2.2⟩) (λb o _ _ hc e _=>k b o hc e) (λb o _ _ hc e _=>⟨o.slots,k b o hc e⟩)
  (λb o _ e n=>by rw[t6 (neq b o e)];exact n) (λb o hc e=>⟨o,k b o hc e⟩) (λb xs e=>by rw[t6 (u6 e hq)];exact e) (λb o u e=>by rw[t6 (u6 e hq)];exact e)
  (λb ps e=>⟨#[],by rw[t6 (u6 e hq),e];simp⟩) (λm hm=>?_) (λb u e=>?_) I.bare
 ·obtain⟨o,es,ep,ho,r⟩:=hm;exact⟨o,es,ep,k _ o (λz=>(hf _ z).2.1 rfl) ho,r⟩
 · by_cases hb:b=s.heap.objs.size
   · subst hb;rw[v9]at e
     cases e
     exact⟨hz,us,rv,ht⟩
   · rw[t6 hb]at e;refine(I.hok b u e).stay (λc v hc q=>k c v ?_ q) (λc q=>by rw[t6 (u6 q hq)];exact q) λc xs q=>by rw[t6 (u6 q hq)];exact q
     rcases hc with z|z
     ·rw[z];exact nch b u e
     ·exact nch c _ z
theorem rJ{ch:List Addr}(I:Inv X Ng U H s)(hf:∀b∈ch,Q2 X Ng H b)(k:∀b o,b∉ch->s.heap.get? b=some o->h'.get? b=some o):Inv X Ng U H {s with heap:=h',toks:=t'}:=by
 have nch:∀b u,H b=some u->b∉ch:=λb u e z=>by rw[(hf b z).1]at e;cases e
 refine I.step (λb hb=>⟨(hf b hb).2.2.2.1,(hf b hb).2.1,(hf b hb).2.2.2.2.1,(hf b hb).2.2.2.2.2⟩) (λb o _ _ hc e _=>k b o hc e) (λb o _ _ hc e _=>⟨o.slots,k b o hc e⟩)
  (λ_ _ _ _ n=>n) (λb o hc e=>⟨o,k b o hc e⟩) (λ_ _ e=>e) (λ_ _ _ e=>e) (λb ps e=>⟨#[],by rw[e];simp⟩) (λm hm=>?_) (λb u e=>?_) I.bare
 ·obtain⟨o,es,ep,ho,r⟩:=hm;exact⟨o,es,ep,k _ o (λz=>(hf _ z).2.1 rfl) ho,r⟩
 · refine(I.hok b u e).stay (λc v hc q=>k c v ?_ q) (λ_ q=>q) λ_ _ q=>q;rcases hc with z|z
   ·rw[z];exact nch b u e
   ·exact nch c _ z
end
def Sq(K:zd)(k:Bool)(H:Hp)(a:Addr)(vs:List V):Prop:=if k then SqT K H a vs else SqL K H a vs
theorem eB(I:Inv X Ng U H s)(h:Sq X.K k H a vs):∃Nj:List zg,t8 vs Nj/\SC k s.heap a Nj.toArray/\vs.length<=ze:=by
 rcases k with _|_
 ·obtain⟨Nj,r,p,z⟩:=I.list h;exact⟨Nj,r,p.isList,z⟩
 ·obtain⟨Nj,r,p,z⟩:=I.tuple h;exact⟨Nj,r,p,z⟩
theorem qI(I:Inv X Ng U H s)(h:Sq X.K k H a vs)(h':Sq X.K k H a ws):vs=ws:=by
 rcases k with _|_
 ·exact I.list_inj h h'
 ·exact I.tuple_inj h h'
def Itz(K:zd)(k1 k2:Bool)(a b:Addr):It:=
 ⟨λi H=>∃xs ys x y,Sq K k1 H a xs/\Sq K k2 H b ys/\xs[i]? =some x/\ys[i]? =some y,
  λi H v H'=>∃q x y,H q=none/\v= .ref q/\H'=upd H q (.tup [x,y])/\(∀xs,Sq K k1 H a xs->xs[i]? =some x)/\∀ys,Sq K k2 H b ys->ys[i]? =some y,
  λi H=>∃xs ys,Sq K k1 H a xs/\Sq K k2 H b ys/\(xs.length<=i\/ys.length<=i)⟩
theorem RG(r:t8 vs Nj){i:Nat}(h:vs[i]? =some x):∃u,Nj.toArray[i]? =some u/\u9 x u:=by obtain⟨u,e,ru⟩:=r.get h;exact⟨u,by simpa using e,ru⟩
theorem uX{w:zO}{K:zd}{es:List Expr}{x1:Nat}{tp:Pos}{l1 l2 z TI TO i1 i2:Addr}(Ap:ZA z TI TO i1 i2)(n1:l1∉ [z,TO,i1,i2])(n2:l2∉ [z,TO,i1,i2]):
 D5 P w K (.Tuple es x1 tp) (Itz K k1 k2 l1 l2) [z,TI,TO,i1,i2] z (λi h=>Zy h z TI TO .none/\yD h TI (.ref i1) (.ref i2)/\(∃a b,yD h TO a b)/\SI k1 h i1 l1 i/\SI k2 h i2 l2 i) where
 mem:=by simp
 obj:=λi h st b hb=>by
  obtain⟨s1,s2,⟨a,c,s3⟩,s4,s5⟩:=st;simp only[zl,zA,or_false]at hb;rcases hb with rfl|rfl|rfl|rfl|rfl
  ·exact⟨_,s1,λv z=>nomatch z⟩
  ·exact⟨_,s2,λv z=>nomatch z⟩
  ·exact⟨_,s3,λv z=>nomatch z⟩
  ·exact s4.there
  ·exact s5.there
 keep:=λi h h' st k=>by obtain⟨s1,s2,⟨a,c,s3⟩,s4,s5⟩:=st;exact⟨k _ (by simp) _ s1,k _ (by simp) _ s2,⟨a,c,k _ (by simp) _ s3⟩,s4.keep (k _ (by simp)),s5.keep (k _ (by simp))⟩
 item:=by
  intro X hP hw hK hc i Ng s U H E I hf st hg;subst hP hw hK;obtain⟨xs,ys,x,y,q1,q2,hx,hy⟩:=hg;obtain⟨its1,r1,c1,z1⟩:=eB I q1;obtain⟨Pv,r2,c2,z2⟩:=eB I q2;obtain⟨u1,e1,ru1⟩:=RG r1 hx;obtain⟨u2,e2,ru2⟩:=RG r2 hy;obtain⟨s1,s2,⟨a,c,s3⟩,s4,s5⟩:=st;refine VY Ap n1 n2 s1 s2 s3 s4 s5 c1 c2 e1 e2 λg b1 b2 b3 b4 b5 b6 b7=>⟨_,rfl,?_⟩;refine wpAny_letOwnedTupleGo_zip b1 λg2 c1' sb=>?_;have keep:∀b o,b∉ [z,TI,TO,i1,i2]->s.heap.get? b=some o->g2.get? b=some o:=λb o hb e=>by simp only[zl,zA,or_false,not_or]at hb;exact(sb.2 b hb.1).trans (b7 b o hb.1 hb.2.2.1 hb.2.2.2.1 hb.2.2.2.2 e)
  have zlt:z<s.heap.objs.size:=zj s1;have hnew:W6 g2 s.heap.objs.size [u1,u2].toArray:=⟨_,(sb.2 _ (yM zlt)).trans b5,rfl,_,rfl⟩;have hq:H s.heap.objs.size=none:=I.hok.fresh (zk _);refine⟨.ref s.heap.objs.size,upd H s.heap.objs.size (.tup [x,y]),sI I hf keep (by show 2<=ze;decide) (.cons ru1 (.cons ru2 .nil)) hnew,rfl,⟨_,x,y,hq,rfl,rfl,λxs' h=>by rw[qI I h q1];exact hx,λys' h=>by rw[qI I h q2];exact hy⟩,?_,λb hb=>?_⟩
  ·refine⟨c1',?_,⟨_,_,(sb.2 _ Ap.TOz).trans b2⟩,b3.keep λo e=>(sb.2 _ Ap.i1z).trans e,b4.keep λo e=>(sb.2 _ Ap.i2z).trans e⟩;exact(sb.2 _ Ap.TIz).trans (b7 TI _ Ap.TIz Ap.TITO Ap.TIi1 Ap.TIi2 s2)
  · have Qc:b<s.heap.objs.size:=by
     simp only[zl,zA,or_false]at hb;rcases hb with rfl|rfl|rfl|rfl|rfl
     ·exact zlt
     ·exact zj s2
     ·exact zj s3
     ·obtain⟨_,e,_⟩:=s4.there;exact zj e
     ·obtain⟨_,e,_⟩:=s5.there;exact zj e
    rw[t6 (zB Qc)];exact(hf b hb).1
 done:=by intro X hP hw hK hc i Ng s U H E I hf st hg;subst hP hw hK;obtain⟨xs,ys,q1,q2,hend⟩:=hg;obtain⟨its1,r1,c1,z1⟩:=eB I q1;obtain⟨Pv,r2,c2,z2⟩:=eB I q2;obtain⟨s1,s2,⟨a,c,s3⟩,s4,s5⟩:=st;have Px:=r1.length;have hl2:=r2.length;refine Lp (I.ok.hd hc) Ap n1 n2 s1 s2 s3 s4 s5 c1 c2 (by rcases hend with h|h;left;simp;lia;right;simp;lia) λg b7=>⟨rfl,rJ I hf λb o hb e=>?_⟩;simp only[zl,zA,or_false,not_or]at hb;exact b7 b o hb.1 hb.2.2.1 hb.2.2.2.1 hb.2.2.2.2 e
 self:=λ_ _ _ _ _ st h=>wpAny_pyIter_zip st.1 h
def vb(K:zd)(ta:TA):TI:=λU H R=>ta U H λvs H1=>∃k1 k2 a b xs ys,vs= [.ref a,.ref b]/\Sq K k1 H1 a xs/\Sq K k2 H1 b ys/\R (Itz K k1 k2 a b) H1
section
theorem gW(Px:SC k1 s.heap l1 xs)(hl2:SC k2 s.heap l2 ys)
 (h:Q (.ref (zh4 k1 k2 s.heap l1 l2).objs.size) {s with heap:=zh5 k1 k2 s.heap l1 l2}):zv (zD prog w) A (call (.type "zip") [.ref l1,.ref l2]) Q E s:=by
 refine callType_new F.called_zip (by decide) (F.typeCall_zip_2 _ _) (F.newCall_zip_2 _ _) (λobj=>F.args_object_init_3 obj _ _) F.entry_zip_new (Hd k1 k2 l1 l2 xs ys) ⟨Px,hl2,?_⟩;exact⟨⟨_,zy _ rfl,rfl⟩,h⟩
structure ZMk(k1 k2:Bool)(h h5:Heap)(l1 l2:Addr)(n:Nat):Prop where
 keep:∀b o,h.get? b=some o->h5.get? b=some o
 sz:h5.objs.size=n+5
 g5:Zy h5 (n+4:Nat) (n+2:Nat) (n+3:Nat) .none
 g4:yD h5 (n+3:Nat) .none .none
 g3:yD h5 (n+2:Nat) (.ref n) (.ref (n+1:Nat))
 s1:SI k1 h5 n l1 0
 s2:SI k2 h5 (n+1:Nat) l2 0
theorem zmk:(zh4 k1 k2 h l1 l2).objs.size=h.objs.size+4/\ZMk k1 k2 h (zh5 k1 k2 h l1 l2) l1 l2 h.objs.size:=by
 have z1:(zh1 k1 h l1).objs.size=h.objs.size+1:=yT ..;have z2:(zh2 k1 k2 h l1 l2).objs.size=h.objs.size+2:=by rw[yT,z1]
 have z3:(zh3 k1 k2 h l1 l2).objs.size=h.objs.size+3:=by rw[yT,z2]
 have z4:(zh4 k1 k2 h l1 l2).objs.size=h.objs.size+4:=by rw[yT,z3]
 have z5:(zh5 k1 k2 h l1 l2).objs.size=h.objs.size+5:=by rw[yT,z4]
 have g5:Zy (zh5 k1 k2 h l1 l2) (zh4 k1 k2 h l1 l2).objs.size (zh2 k1 k2 h l1 l2).objs.size (zh3 k1 k2 h l1 l2).objs.size .none:=zy _ rfl;have g4:yD (zh5 k1 k2 h l1 l2) (zh3 k1 k2 h l1 l2).objs.size .none .none:=zf _ (zy _ rfl);have g3:yD (zh5 k1 k2 h l1 l2) (zh2 k1 k2 h l1 l2).objs.size (.ref h.objs.size) (.ref (zh1 k1 h l1).objs.size):=zf _ (zf _ (zy _ rfl));have g2:(zh5 k1 k2 h l1 l2).get? (zh1 k1 h l1).objs.size=some (LA k2 l2):=zf _ (zf _ (zf _ (zy _ (by cases k2<;>rfl))));have g1:(zh5 k1 k2 h l1 l2).get? h.objs.size=some (LA k1 l1):=zf _ (zf _ (zf _ (zf _ (zy _ (by cases k1<;>rfl)))));rw[z4,z2,z3]at g5;rw[z3]at g4;rw[z2,z1]at g3;rw[z1]at g2;refine⟨z4,λb o e=>zf _ (zf _ (zf _ (zf _ (zf _ e)))),z5,g5,g4,g3,?_,?_⟩
 · rcases k1 with _|_
   ·exact⟨_,g1,rfl,rfl⟩
   ·exact⟨_,g1,rfl,rfl⟩
 · rcases k2 with _|_
   ·exact⟨_,g2,rfl,rfl⟩
   ·exact⟨_,g2,rfl,rfl⟩
theorem SC.lt(c:SC k h a xs): @LT.lt Nat instLTNat a h.objs.size:=by
 rcases k with _|_
 ·obtain⟨o,e,_⟩:=(show h.IsList a _ from c);exact zj e
 ·obtain⟨o,e,_⟩:=(show h.IsTuple a _ from c);exact zj e
theorem lQ(Px:SC k1 s.heap l1 xs)(hl2:SC k2 s.heap l2 ys)
 (h:∀h5 n,n=s.heap.objs.size->ZMk k1 k2 s.heap h5 l1 l2 n->Q (.ref (n+4:Nat)) {s with heap:=h5}):zv (zD prog w) A (call (.type "zip") [.ref l1,.ref l2]) Q E s:=by
 refine gW Px hl2 ?_;have:=zmk (k1:=k1) (k2:=k2) (h:=s.heap) (l1:=l1) (l2:=l2);rw[this.1];exact h _ _ rfl this.2
theorem QP{es:List Expr}{ta:TA}{p pos:Pos}(hg:Gl X "zip")(hm:X.mg "zip" =none)(ha:PA X [a,b] ta)(hs:zC [a,b] X.env= [(false,eval a X.env),(false,eval b X.env)])(hs2:zC [b] X.env= [(false,eval b X.env)])(hbt:zQ "zip" =some (.type "zip")):
 PI X (.Tuple es x1 tp) (.Call (.Name "zip" p) [a,b] [] pos) (vb X.K ta):=by
 intro Ng s U H R I h;refine Call_ (MA I hg hm hbt (yX (thn (ha pos Ng s U H _ I h) λus s1 Nq=>Nq.elim λvs H1 I1 r1 q1=>?_) (by rw[hs,hs2]) (by rw[hs2];rfl)));obtain⟨k1,k2,l1,l2,xs,ys,rfl,q1,q2,q⟩:=q1;obtain⟨u1,u2,rfl,ru1,ru2⟩:=aA r1
 cases ru1
 cases ru2
 obtain⟨its1,rr1,c1,z1⟩:=eB I1 q1;obtain⟨Pv,rr2,c2,z2⟩:=eB I1 q2;refine lQ c1 c2 λh5 n en Z=>?_;have n1:=aK (en▸c1.lt);have n2:=aK (en▸c2.lt);refine wpAny_pyIter_zip Z.g5 ?_;refine⟨(n+4:Nat),_,_,Itz X.K k1 k2 l1 l2,H1,rfl,I1.kept Z.keep,uX (iP n) n1 n2,⟨Z.g5,Z.g3,⟨_,_,Z.g4⟩,Z.s1,Z.s2⟩,λb hb=>?_,q⟩;have Qc:s1.heap.objs.size<=b:=en▸lU hb;exact I1.fpOk Qc (I1.hok.fresh Qc)
end
def Ite(K:zd)(a:Addr):It:=
 ⟨λi H=>∃xs x,SqL K H a xs/\xs[i]? =some x,
  λi H v H'=>∃q x,H q=none/\v= .ref q/\H'=upd H q (.tup [.int i,x])/\∀xs,SqL K H a xs->xs[i]? =some x,
  λi H=>∃xs,SqL K H a xs/\xs.length<=i⟩
theorem sX{K:zd}{x1:Nat}{tp:Pos}(Ph:e≠it):
 D5 P w K (.Tuple es x1 tp) (Ite K l) [e,it] e (λi h=>(∃old,IsEnum h e it i old)/\h.IsListIter it l i) where
 mem:=by simp
 obj:=λi h st b hb=>by
  obtain⟨⟨old,s1⟩,s2⟩:=st;simp only[zl,zA,or_false]at hb;rcases hb with rfl|rfl
  ·exact⟨_,s1,λv z=>nomatch z⟩
  ·obtain⟨o,q,c,d⟩:=s2;exact⟨o,q,λv z=>by rw[d]at z;cases z⟩
 keep:=λi h h' st k=>by obtain⟨⟨old,s1⟩,s2⟩:=st;exact⟨⟨old,k _ (by simp) _ s1⟩,s2.at λo q=>k _ (by simp) o q⟩
 item:=by
  intro X hP hw hK hc i Ng s U H E I hf st hg;subst hP hw hK;obtain⟨xs,x,q1,hx⟩:=hg;obtain⟨Nj,r1,c1,z1⟩:=I.list q1;obtain⟨u,e1,ru⟩:=RG r1 hx;obtain⟨⟨old,s1⟩,s2⟩:=st;refine wpAny_pyNext_enum_item s1 s2 c1.isList e1 Ph λg b1 b2 b3 b4 b5=>⟨_,rfl,?_⟩;refine wpAny_letOwnedTupleGo_enum b1 λg2 c1' sb=>?_;have elt:e<s.heap.objs.size:=zj s1;have ilt:it<s.heap.objs.size:=by obtain⟨_,q,_⟩:=s2;exact zj q
  have keep:∀b o,b∉ [e,it]->s.heap.get? b=some o->g2.get? b=some o:=λb o hb q=>by simp only[zl,zA,or_false,not_or]at hb;exact(sb.2 b hb.1).trans (b5 b o hb.1 hb.2 q)
  have hnew:W6 g2 s.heap.objs.size [.int (i:Int) s.toks,u].toArray:=⟨_,(sb.2 _ (yM elt)).trans b3,rfl,_,rfl⟩;have hq:H s.heap.objs.size=none:=I.hok.fresh (zk _);refine⟨.ref s.heap.objs.size,upd H s.heap.objs.size (.tup [.int i,x]),sI I hf keep (by show 2<=ze;decide) (.cons ⟨_,rfl⟩ (.cons ru .nil)) hnew,rfl,⟨_,x,hq,rfl,rfl,λxs' h=>by rw[I.list_inj h q1];exact hx⟩,?_,λb hb=>?_⟩
  ·exact⟨⟨_,c1'⟩,b2.at λo q=>(sb.2 _ (Ne.symm Ph)).trans q⟩
  · have Qc:b<s.heap.objs.size:=by
     simp only[zl,zA,or_false]at hb;rcases hb with rfl|rfl
     ·exact elt
     ·exact ilt
    rw[t6 (zB Qc)];exact(hf b hb).1
 done:=by intro X hP hw hK hc i Ng s U H E I hf st hg;subst hP hw hK;obtain⟨xs,q1,hend⟩:=hg;obtain⟨Nj,r1,c1,z1⟩:=I.list q1;obtain⟨⟨old,s1⟩,s2⟩:=st;have hl:=r1.length;refine wpAny_pyNext_enum_end (I.ok.hd hc) s1 s2 c1.isList (by simp;lia) λg b7=>⟨rfl,rJ I hf λb o hb q=>?_⟩;simp only[zl,zA,or_false,not_or]at hb;exact b7 b o hb.2 q
 self:=λ_ _ _ _ _ st h=>by obtain⟨⟨old,s1⟩,_⟩:=st;exact wpAny_pyIter_enum s1 h
def Ch(K:zd)(ta:TA):TI:=λU H R=>ta U H λvs H1=>∃a xs,vs= [.ref a]/\SqL K H1 a xs/\R (Ite K a) H1
section
theorem pX{es:List Expr}{ta:TA}(hg:Gl X "enumerate")(hm:X.mg "enumerate" =none)(ha:PA X [a] ta)(hs:zC [a] X.env= [(false,eval a X.env)])(hbt:zQ "enumerate" =some (.type "enumerate")):
 PI X (.Tuple es x1 tp) (.Call (.Name "enumerate" p) [a] [] pos) (Ch X.K ta):=by
 intro Ng s U H R I h;refine Call_ (MA I hg hm hbt (yX (thn (ha pos Ng s U H _ I h) λus s1 Nq=>Nq.elim λvs H1 I1 r1 q1=>?_) hs rfl));obtain⟨l,xs,rfl,q1,q⟩:=q1;obtain⟨u1,rfl,ru1⟩:=Z1 r1
 cases ru1
 obtain⟨Nj,rr,c1,z1⟩:=I1.list q1;refine call_enumerate_list c1.isList λg b1 b2 b3 b4=>wpAny_pyIter_enum b1 ?_;have Ph: @Ne Nat (s1.heap.objs.size+1) s1.heap.objs.size:=by lia
 refine⟨s1.heap.objs.size+1, [s1.heap.objs.size+1,s1.heap.objs.size],_,Ite X.K l,H1,rfl,I1.kept b4,sX Ph,⟨⟨_,b1⟩,b2⟩,λb hb=>?_,q⟩;have Qc:s1.heap.objs.size<=b:=by
  simp only[zl,zA,or_false]at hb;rcases hb with rfl|rfl
  ·exact Nat.le_succ _
  ·exact zk _
 exact I1.fpOk Qc (I1.hok.fresh Qc)
open Classical in
def ckO(r:Nat)(o:DO):DH->Bool:=λG=>decide (G[r]? =some o)
def C2:D->M Src:=λx=>match x with
 | .tup l=>pure ⟨l,λ_=>true⟩
 | .ref r=>do
   let o <-K6 r
   let l <-listOf o
   pure ⟨l,ckO r o⟩
 |_=>M.stuck
def Dz(c:Wc)(μ:List Addr)(H:Hp)(k:Bool)(a:Addr)(s:Src):Prop:=∀ X1 G' H',Ext μ H X1 H'->o8 c X1 G' H'->s.ck G'=true->∃vs,Sq c.K k H' a vs/\m9 c X1 H' s.items vs
theorem IE{H:Hp}{G:DH}{d:D}{v:V}{f:Src->M α}{K:α->List Addr->DH->Hp->Prop}(h:o8 c μ G H)(r:f9 c μ H d v)(p:c7 c Z μ H ((C2 d >>= f) G) K):
 ∃s k a vs,v= .ref a/\Sq c.K k H a vs/\m9 c μ H s.items vs/\Dz c μ H k a s/\s.ck G=true/\(∀i,d= .ref i->k=false)/\c7 c Z μ H (f s G) K:=by
 rcases d with _|_|_|_|l|i|_|_<;>try (exact p.elim;done)
 ·
   unfold f9 at r;obtain⟨a,vs,rfl,q,rl⟩:=r;exact⟨⟨l,λ_=>true⟩,true,a,vs,rfl,q,rl,λX1 G' H' x h' _=>⟨vs,x.sqT q,rl.mono x⟩,rfl,(λi z=>nomatch z),p⟩
 ·
   unfold f9 at r;obtain⟨a,m,rfl⟩:=r;have p':c7 c Z μ H ((K6 i >>= λo=>(listOf o >>= λl=>(pure ⟨l,ckO i o⟩:M Src)) >>= f) G) K:=by rw[<-M.bind_assoc];exact p
   obtain⟨o,g,p2⟩:=J8 p';have ro:=h.obj i o a g m;have ck:ckO i o G=true:=by unfold ckO;simp[g]
   cases o with
   |lst l=>
     obtain⟨vs,q,rl⟩:=ro;refine⟨⟨l,ckO i (.lst l)⟩,false,a,vs,rfl,SqL.of q,rl,λX1 G' H' x h' Pw=>?_,ck,(λ_ _=>rfl),p2⟩;have g':G'[i]? =some (.lst l):=by unfold ckO at Pw;simpa using Pw
     obtain⟨Pd,q',Pf⟩:=h'.obj i _ a g' (IH x.pre m);exact⟨Pd,SqL.of q',Pf⟩
   |rol l=>
     obtain⟨vs,q,rl⟩:=ro;refine⟨⟨l,ckO i (.rol l)⟩,false,a,vs,rfl,q.sq,rl,λX1 G' H' x h' Pw=>?_,ck,(λ_ _=>rfl),p2⟩;have g':G'[i]? =some (.rol l):=by unfold ckO at Pw;simpa using Pw
     obtain⟨Pd,q',Pf⟩:=h'.obj i _ a g' (IH x.pre m);exact⟨Pd,q'.sq,Pf⟩
   |dct l=>exact p2.elim
   |rod l=>exact p2.elim
theorem CL{H:Hp}{i:Nat}{d:D}{x:V}(r:m9 c μ H l vs)(h:l[i]? =some d)(hx:vs[i]? =some x):f9 c μ H d x:=by
 obtain⟨v,e,q⟩:=r.get h;rw[hx]at e
 cases e
 exact q
def v5(lo:Int)(n:Nat):List D:=(jJ n).map fun(i:Nat)=>D.int (lo+(i:Int))
def O7(fs:DSt->M (List D)):DSt->M Src:=λU=>do
 match <-fs U with
 |[.int j]=>if -(2 ^ 62)<=j/\j<2 ^ 62 then pure ⟨v5 0 j.toNat,λ_=>true⟩else M.stuck
 |_=>M.stuck
theorem Kg(lo:Int)(n:Nat):ItD c μ H (Itr lo n) ⟨v5 lo n,λ_=>true⟩:=λX1 G' H' x' h' _ i=>by
 refine⟨λd hd=>?_,λhi=>?_⟩
 · have hi:i<n:=by have:=lt_of_get hd;simpa [v5]using this
   have e:d= .int (lo+i):=by unfold v5 at hd;rw[jQ,List.getElem?_range hi]at hd;simp at hd;exact hd.symm
   subst e;exact⟨hi,λx H2 ⟨e1,e2⟩=>by subst e1 e2;exact⟨Ext.refl _ _,h',ofI⟩⟩
 ·show n<=i;simpa [v5]using hi
theorem wU(hg:Gl X "range")(hm:X.mg "range" =none)(ha:DA X Z [a] fs)(hs:zC [a] X.env= [(false,eval a X.env)]):DI X Z tg (.Call (.Name "range" p) [a] [] pos) (O7 fs):=
 DI.of (BS hg hm ha.h hs) λU H R Nk=>Nk.elim λX9 μ G s h p=>⟨X9,μ,G,s,h,(c7.bind p).mono λds X0 G1 H1 x1 h1 p1 vs rv=>by
  rcases ds with _|⟨_|_|j|_|_|_|_|_,_|⟨_,_⟩⟩<;>dsimp only at p1<;>try exact p1.elim
  · split at p1
    · rename_i hj;obtain⟨v,t,rfl,r0,e⟩:=rv
      cases e
      exact⟨j,by rw[A1 r0],hj.1,hj.2,c7.ok p1 h1 _ (Kg 0 _)⟩
    ·exact p1.elim⟩
def GA(fs:DSt->M (List D)):DSt->M Src:=λU=>do
 match <-fs U with
 |[a,b]=>do
   let s1 <-C2 a
   let s2 <-C2 b
   pure ⟨(s1.items.zip s2.items).map λp=>.tup [p.1,p.2],λG=>s1.ck G&&s2.ck G⟩
 |_=>M.stuck
def itEnum(fs:DSt->M (List D)):DSt->M Src:=λU=>do
 match <-fs U with
 |[.ref r]=>do
   let s <-C2 (.ref r)
   pure ⟨s.items.zipIdx.map λp=>.tup [.int ((p.2:Nat):Int),p.1],s.ck⟩
 |_=>M.stuck
theorem mL(h:o8 c μ G H)(hq:H q=none)(r:m9 c μ H ds vs):Ext μ H μ (upd H q (.tup vs))/\o8 c μ G (upd H q (.tup vs))/\f9 c μ (upd H q (.tup vs)) (.tup ds) (.ref q):=by have k:Ext μ H μ (upd H q (.tup vs)):=Ext.lay hq _;refine⟨k,h.same k λa o e n=>by rw[t6 (u6 e hq)];exact e,?_⟩;unfold f9;exact⟨q,vs,rfl,SqT.of v9,r.mono k⟩
theorem mY{tp:Pos}{p pos:Pos}(hg:Gl X "zip")(hm:X.mg "zip" =none)(ha:DA X Z [a,b] fs)(hs:zC [a,b] X.env= [(false,eval a X.env),(false,eval b X.env)])(hs2:zC [b] X.env= [(false,eval b X.env)])(hbt:zQ "zip" =some (.type "zip")):
 DI X Z (.Tuple es x1 tp) (.Call (.Name "zip" p) [a,b] [] pos) (GA fs):=
 DI.of (QP hg hm ha.h hs hs2 hbt) λU H R Nk=>Nk.elim λX9 μ G s h p=>⟨X9,μ,G,s,h,(c7.bind p).mono λds X0 G1 H1 x1 h1 p1 vs rv=>by
  rcases ds with _|⟨d1,_|⟨d2,_|⟨_,_⟩⟩⟩<;>dsimp only at p1<;>try exact p1.elim
  · obtain⟨v1,t1,rfl,r1,v2,t2,rfl,r2,e⟩:=rv
    cases e
    obtain⟨s1,k1,a1,w1,rfl,q1,l1,is1,ck1,_,p2⟩:=IE h1 r1 p1;obtain⟨s2,k2,a2,w2,rfl,q2,l2,is2,ck2,_,p3⟩:=IE h1 r2 p2;refine⟨k1,k2,a1,a2,w1,w2,rfl,q1,q2,c7.ok p3 h1 _ λX1 G' H' x' h' ck' i=>?_⟩;have ck'':s1.ck G'=true/\s2.ck G'=true:=by simpa using ck'
    obtain⟨u1,q1',l1'⟩:=is1 X1 G' H' x' h' ck''.1;obtain⟨u2,q2',l2'⟩:=is2 X1 G' H' x' h' ck''.2;refine⟨λd hd=>?_,λhi=>?_⟩
    · rw[jQ]at hd;rcases hz:(s1.items.zip s2.items)[i]? with _|pr
      ·rw[hz]at hd;cases hd
      ·
        rw[hz]at hd;obtain⟨e1,e2⟩:=pr;have Qd:d= .tup [e1,e2]:=by simpa using hd.symm
        subst Qd;rw[List.getElem?_zip_eq_some]at hz;obtain⟨y1,hy1,ry1⟩:=l1'.get hz.1;obtain⟨y2,hy2,ry2⟩:=l2'.get hz.2;refine⟨⟨u1,u2,y1,y2,q1',q2',hy1,hy2⟩,λx H2 ⟨q,z1,z2,hq,ex,eH,f1,f2⟩=>?_⟩;subst ex eH;have g1:=f1 u1 q1';have g2:=f2 u2 q2';rw[hy1]at g1;rw[hy2]at g2
        cases g1
        cases g2
        exact mL h' hq ⟨y1,_,rfl,ry1,y2,_,rfl,ry2,rfl⟩
    ·refine⟨u1,u2,q1',q2',?_⟩;rw[<-l1'.length,<-l2'.length];simp at hi;lia⟩
theorem Cw{a:Expr}{p pos:Pos}(hg:Gl X "enumerate")(hm:X.mg "enumerate" =none)(ha:DA X Z [a] fs)(hs:zC [a] X.env= [(false,eval a X.env)])(hbt:zQ "enumerate" =some (.type "enumerate")):
 DI X Z (.Tuple es x1 tp) (.Call (.Name "enumerate" p) [a] [] pos) (itEnum fs):=
 DI.of (pX hg hm ha.h hs hbt) λU H R Nk=>Nk.elim λX9 μ G s h p=>⟨X9,μ,G,s,h,(c7.bind p).mono λds X0 G1 H1 x1 h1 p1 vs rv=>by
  rcases ds with _|⟨_|_|_|_|_|r|_|_,_|⟨_,_⟩⟩<;>dsimp only at p1<;>try exact p1.elim
  · obtain⟨v1,t1,rfl,r1,e⟩:=rv
    cases e
    obtain⟨s1,k1,a1,w1,rfl,q1,l1,is1,ck1,hk,p2⟩:=IE h1 r1 p1;have hk:=hk r rfl;subst hk;refine⟨a1,w1,rfl,q1,c7.ok p2 h1 _ λX1 G' H' x' h' ck' i=>?_⟩;obtain⟨u1,q1',l1'⟩:=is1 X1 G' H' x' h' ck';refine⟨λd hd=>?_,λhi=>?_⟩
    · rw[jQ,List.getElem?_zipIdx]at hd;rcases hz:s1.items[i]? with _|e1
      ·rw[hz]at hd;cases hd
      ·
        rw[hz]at hd;have Qd:d= .tup [.int ((i:Nat):Int),e1]:=by simpa using hd.symm
        subst Qd;obtain⟨y1,hy1,ry1⟩:=l1'.get hz;refine⟨⟨u1,y1,q1',hy1⟩,λx H2 ⟨q,z1,hq,ex,eH,f1⟩=>?_⟩;subst ex eH;have g1:=f1 u1 q1';rw[hy1]at g1
        cases g1
        exact mL h' hq ⟨_,_,rfl,ofI,y1,_,rfl,ry1,rfl⟩
    ·refine⟨u1,q1',?_⟩;rw[<-l1'.length];simpa using hi⟩
end
def lenF:List D->M D:=λds=>match ds with
 |[.str z]=>if z.length<=ze then pure (.int z.length)else M.stuck
 |[.tup l]=>pure (.int l.length)
 |[.ref r]=>do
   match <-K6 r with
   | .lst l=>pure (.int l.length)
   | .rol l=>pure (.int l.length)
   | .dct l=>pure (.int l.length)
   | .rod _=>M.stuck
 |_=>M.stuck
def P4:List D->M D:=λds=>match ds with
 |[.tup l]=>pure (.tup l)
 |[.ref r]=>do
   let l <-K6 r >>= listOf
   pure (.tup l)
 |_=>M.stuck
def QN:List D->M D:=λds=>match ds with
 |[.int i]=>pure (.int i)
 |[.bl k]=>pure (.int (if k then 1 else 0))
 |_=>M.stuck
def V2:List D->Option (List Int)
 |[]=>some []
 | .int i::r=>(V2 r).map (i :: ·)
 |_=>none
def bA:List D->Option (List Bool)
 |[]=>some []
 | .bl b::r=>(bA r).map (b :: ·)
 |_=>none
def DC:List D->M D:=λds=>match ds with
 |[.ref r]=>do
   let l <-K6 r >>= listOf
   let ns <-S1 (V2 l)
   pure (.int ns.sum)
 |_=>M.stuck
def l8:List D->M D:=λds=>match ds with
 |[.ref r]=>do
   let l <-K6 r >>= listOf
   let bs <-S1 (bA l)
   pure (.bl (bs.all id))
 |_=>M.stuck
theorem AM{F:List D->M α}{c:Wc}{Z:XC}{H:Hp}{G:DH}{K:α->List Addr->DH->Hp->Prop}(p:c7 c Z μ H (F ds G) K)(h0:F []=M.stuck)(h2:∀a b t,F (a::b::t)=M.stuck)(hn:F [.non]=M.stuck)(hb:∀b,F [.bl b]=M.stuck)(hi:∀b,F [.int b]=M.stuck)(hs:∀b,F [.str b]=M.stuck)(ht:∀b,F [.tup b]=M.stuck)(hf:∀b,F [.fn b]=M.stuck)(hy:∀b,F [.ty b]=M.stuck):∃r,ds= [.ref r]:=by
 rcases ds with _|⟨d,_|⟨_,_⟩⟩
 ·rw[h0]at p;exact p.elim
 · rcases d with _|b|b|b|b|b|b|b
   ·rw[hn]at p;exact p.elim
   ·rw[hb]at p;exact p.elim
   ·rw[hi]at p;exact p.elim
   ·rw[hs]at p;exact p.elim
   ·rw[ht]at p;exact p.elim
   ·exact⟨b,rfl⟩
   ·rw[hf]at p;exact p.elim
   ·rw[hy]at p;exact p.elim
 ·rw[h2]at p;exact p.elim
section
theorem S2(r:m9 c μ H [d] vs):∃v,vs= [v]/\f9 c μ H d v:=by
 obtain⟨v,t,rfl,q,e⟩:=r
 cases e
 exact⟨v,rfl,q⟩
theorem qh(r:m9 c μ H [d,e] vs):∃v w,vs= [v,w]/\f9 c μ H d v/\f9 c μ H e w:=by
 obtain⟨v,t,rfl,q,v',t',rfl,q',z⟩:=r
 cases z
 exact⟨v,v',rfl,q,q'⟩
theorem oV:U7 X Z (.builtin "len") lenF:=U7.of (T4.or bQ (T4.or Dp vU)) λxs H Q Nk=>Nk.elim λds μ G rl hr p=>by
 rcases ds with _|⟨_|_|_|z|l|i|_|_,_|⟨_,_⟩⟩<;>try exact p.elim
 all_goals (delta lenF at p;dsimp only at p)
 · obtain⟨v,rfl,r⟩:=S2 rl;split at p
   ·rename_i hz;exact .inr (.inl ⟨z,by rw[A2 r],hz,c7.ok p hr _ ofI⟩)
   ·exact p.elim
 ·obtain⟨v,rfl,r⟩:=S2 rl;unfold f9 at r;obtain⟨a,vs,rfl,q,Pf⟩:=r;exact .inl ⟨a,vs,rfl,.inr q,by rw[<-Pf.length];exact c7.ok p hr _ ofI⟩
 · obtain⟨v,rfl,r⟩:=S2 rl;unfold f9 at r;obtain⟨a,m,rfl⟩:=r;obtain⟨o,g,p1⟩:=J8 p;have ro:=hr.obj i o a g m;rcases o with l|l|l|l
   ·obtain⟨vs,q,Pf⟩:=ro;exact .inl ⟨a,vs,rfl,.inl (SqL.of q),by rw[<-Pf.length];exact c7.ok p1 hr _ ofI⟩
   ·obtain⟨vs,q,Pf⟩:=ro;exact .inl ⟨a,vs,rfl,.inl q.sq,by rw[<-Pf.length];exact c7.ok p1 hr _ ofI⟩
   ·obtain⟨Nh,q,rk⟩:=ro;exact .inr (.inr ⟨a,Nh,rfl,q,by rw[<-rk.length];exact c7.ok p1 hr _ ofI⟩)
   ·exact p1.elim
theorem oE{f:List D->M α}{K:α->List Addr->DH->Hp->Prop}(h:o8 c μ G H)(rv:f9 c μ H (.ref r) v)(p:c7 c Z μ H (((K6 r >>= listOf) >>= f) G) K):
 ∃l a vs,v= .ref a/\m9 c μ H l vs/\SqL c.K H a vs/\c7 c Z μ H (f l G) K:=by
 obtain⟨l,a,vs,rfl,rl,p2,hq⟩:=rH h rv p;refine⟨l,a,vs,rfl,rl,?_,p2⟩;rcases hq with⟨z,_⟩|⟨_,_,_,⟨_,q⟩|⟨_,q⟩⟩
 ·cases z
 ·exact SqL.of q
 ·exact q.sq
theorem pU:U7 X Z (.type "tuple") P4:=U7.of FW λxs H Q Nk=>Nk.elim λds μ G rl hr p=>by
 rcases ds with _|⟨_|_|_|_|l|i|_|_,_|⟨_,_⟩⟩<;>try exact p.elim
 all_goals (delta P4 at p;dsimp only at p)
 ·obtain⟨v,rfl,r⟩:=S2 rl;have r':=r;unfold f9 at r';obtain⟨a,vs,rfl,q,Pf⟩:=r';exact⟨a,vs,rfl,.inr ⟨q,c7.ok p hr _ r⟩⟩
 ·obtain⟨v,rfl,r⟩:=S2 rl;obtain⟨l,a,vs,rfl,Pf,q,p2⟩:=oE hr r p;exact⟨a,vs,rfl,.inl ⟨q,λl' hl=>ID hr Pf p2 l' hl⟩⟩
theorem LL:U7 X Z (.type "int") QN:=U7.of NP λxs H Q Nk=>Nk.elim λds μ G rl hr p=>by
 rcases ds with _|⟨_|_|_|_|_|_|_|_,_|⟨_,_⟩⟩<;>try exact p.elim
 all_goals (delta QN at p;dsimp only at p)
 ·obtain⟨v,rfl,r⟩:=S2 rl;exact .inr ⟨_,by rw[vA r],c7.ok p hr _ ofI⟩
 ·obtain⟨v,rfl,r⟩:=S2 rl;exact .inl ⟨_,by rw[A1 r],c7.ok p hr _ ofI⟩
theorem QH:∀ {l} {ns} {vs} {us},V2 l=some ns->m9 c μ H l vs->t8 vs us->us.length=ns.length/\∀i u,us[i]? =some u->∃t,u=Value.int (ns.getD i 0) t
 |[],_,_,_,e,r,q=>by cases e;cases r;cases q;exact⟨rfl,λi u h=>by simp at h⟩
 |d::ds,ns,_,_,e,r,q=>by
   obtain⟨v,t,rfl,r0,rt⟩:=r
   cases q with
   |cons q0 qt=>
     rcases d with _|_|n|_|_|_|_|_<;>try (cases e;done)
     ·
       replace e:(V2 ds).map (n :: ·)=some ns:=e;rcases h:V2 ds with _|ms
       ·rw[h]at e;exact u5 e
       ·
         rw[h]at e
         cases e
         obtain⟨h1,h2⟩:=QH h rt qt;refine⟨by simp[h1],λi u hu=>?_⟩
         cases i with
         |zero=>
           simp at hu;subst hu;rw[A1 r0]at q0;exact q0
         |succ i=>simpa using h2 i u (by simpa using hu)
theorem KK:∀ {l} {bs} {vs} {us},bA l=some bs->m9 c μ H l vs->t8 vs us->us.length=bs.length/\∀i u,us[i]? =some u->u=Value.bool (bs.getD i false)
 |[],_,_,_,e,r,q=>by cases e;cases r;cases q;exact⟨rfl,λi u h=>by simp at h⟩
 |d::ds,ns,_,_,e,r,q=>by
   obtain⟨v,t,rfl,r0,rt⟩:=r
   cases q with
   |cons q0 qt=>
     rcases d with _|n|_|_|_|_|_|_<;>try (cases e;done)
     ·
       replace e:(bA ds).map (n :: ·)=some ns:=e;rcases h:bA ds with _|ms
       ·rw[h]at e;exact u5 e
       ·
         rw[h]at e
         cases e
         obtain⟨h1,h2⟩:=KK h rt qt;refine⟨by simp[h1],λi u hu=>?_⟩
         cases i with
         |zero=>
           simp at hu;subst hu;rw[vA r0]at q0;exact q0
         |succ i=>simpa using h2 i u (by simpa using hu)
theorem Gp(bs:List Bool):((jJ bs.length).all λi=>bs.getD i false)=bs.all id:=by
 induction bs with
 |nil=>rfl
 |cons b t ih=>rw[zp,ZV,jB,YW,jB];simp[Yy];rw[<-ih];simp
theorem vN{U:St}{a:Addr}{Nj:List zg}(hc:X.calm=true)(I:Inv X Ng U H s)(hl:s.heap.IsList a Nj.toArray)
 (h:Walks X.prog X.w X.A.in1 s.heap.objs.size [s.heap.objs.size,a] [s.heap.objs.size] Nj.toArray.size (λi v=>Nj.toArray[i]? =some v) (λi h=>h.IsListIter s.heap.objs.size a i/\h.IsList a Nj.toArray)->
   ∀h2:Heap,(h2.IsListIter s.heap.objs.size a 0/\h2.IsList a Nj.toArray)->(∀b∈ [s.heap.objs.size,a],b<h2.objs.size)->(∀h' tk,(∀b o,b∉ [s.heap.objs.size]->h2.get? b=some o->h'.get? b=some o)->Inv X Ng U H {s with heap:=h',toks:=tk})->Q (.ref s.heap.objs.size) {s with heap:=h2}):
 zv (zD X.prog X.w) X.A.in1 (pyIter (.ref a)) Q E s:=by
 have Nw:a<s.heap.objs.size:=by obtain⟨_,e,_⟩:=hl;exact zj e
 refine ZU hl ?_;have hh:X.A.in1.handled=none:=I.ok.hd hc;refine h (Walks.list hh s.heap.objs.size a (zB Nw) Nj.toArray) _ ⟨⟨_,zy _ rfl,rfl,rfl⟩,hl.push _⟩ (λb hb=>?_) λh' tk k=>?_
 · rw[yT];simp only[zl,zA,or_false]at hb;rcases hb with rfl|rfl
   ·exact yY _
   ·exact xX Nw
 ·exact I.kept λb o e=>k b o (by simp only[zR];exact zB (zj e)) (zf _ e)
theorem Bg(hc:X.calm=true):U7 X Z (.builtin "sum") DC:=⟨by
 intro Ng s U H xs us Q I r Nk;obtain⟨ds,μ,G,rl,hr,p⟩:=Nk;obtain⟨i,rfl⟩:=AM p rfl (λa _ _=>by cases a<;>rfl) rfl (λ_=>rfl) (λ_=>rfl) (λ_=>rfl) (λ_=>rfl) (λ_=>rfl) λ_=>rfl
 · obtain⟨v,rfl,rv⟩:=S2 rl;obtain⟨u,rfl,ru⟩:=Z1 r;obtain⟨l,a,vs,rfl,Pf,q,p2⟩:=oE hr rv p
   cases ru
   obtain⟨ns,en,p3⟩:=U5 p2;obtain⟨Nj,rr,pl,hz⟩:=I.list q;obtain⟨h1,h2⟩:=QH en Pf rr;refine call_sum_walkG (vN hc I pl.isList λW g hg hb hk=>⟨_,_,_,_,_,_,λi=>ns.getD i 0,rfl,W,hg,hb,λi v hv=>h2 i v (by simpa using hv),λh' tk t' k=>?_⟩);refine⟨.int ns.sum,H,hk h' tk k,⟨t',?_⟩,c7.ok p3 hr _ ofI⟩;have e:=preSum_getD ns Nj.toArray.size;rw[e,xb (by rw[zq];lia)]⟩
theorem bU(hc:X.calm=true):U7 X Z (.builtin "all") l8:=⟨by
 intro Ng s U H xs us Q I r Nk;obtain⟨ds,μ,G,rl,hr,p⟩:=Nk;obtain⟨i,rfl⟩:=AM p rfl (λa _ _=>by cases a<;>rfl) rfl (λ_=>rfl) (λ_=>rfl) (λ_=>rfl) (λ_=>rfl) (λ_=>rfl) λ_=>rfl
 · obtain⟨v,rfl,rv⟩:=S2 rl;obtain⟨u,rfl,ru⟩:=Z1 r;obtain⟨l,a,vs,rfl,Pf,q,p2⟩:=oE hr rv p
   cases ru
   obtain⟨bs,en,p3⟩:=U5 p2;obtain⟨Nj,rr,pl,hz⟩:=I.list q;obtain⟨h1,h2⟩:=KK en Pf rr;refine call_all_walk (vN hc I pl.isList λW g hg hb hk=>⟨_,_,_,_,_,_,λi=>bs.getD i false,rfl,W,hg,λi v s' Q' E' hv hq=>?_,λh' tk k=>?_⟩)
   ·rw[h2 i v (by simpa using hv)];exact xA hq
   · refine⟨.bl (bs.all id),H,hk h' tk k,?_,c7.ok p3 hr _ ofB⟩;have e:Nj.toArray.size=bs.length:=by rw[zq];exact h1
     rw[e,Gp];rfl⟩
theorem gX(hg:Gl X x)(hm:X.mg x=none)(hv:zQ x=some (.type n))(hn:x≠ "__name__")(hd:(x==("__debug__" :Str))=false):DE X Z (.Name x pos) (cE (.ty n)):=
 cD (v:=.ty n) (UJ hg hm hv rfl hn hd) λ_ _=>by unfold f9;rfl
end
def u7:D->M Bool:=λx=>match x with
 | .non=>pure false
 | .bl b=>pure b
 | .int i=>pure (i != 0)
 | .str y=>if y.length<=ze then pure ((y.length:Int) != 0)else M.stuck
 | .tup l=>pure (!l.isEmpty)
 | .ref r=>do
   match <-K6 r with
   | .lst l=>pure (!l.isEmpty)
   | .rol l=>pure (!l.isEmpty)
   | .dct l=>pure (!l.isEmpty)
   | .rod _=>M.stuck
 |_=>M.stuck
def truthE(f:Fe):DSt->M Bool:=λU=>do u7 (<-f U)
section
theorem W4(r:m9 cc μ H l vs):vs.isEmpty=l.isEmpty:=by
 cases l with
 |nil=>cases r;rfl
 |cons _ _=>obtain⟨_,_,rfl,_⟩:=r;rfl
theorem CM(r:W5 cc μ H l vs):vs.isEmpty=l.isEmpty:=by
 cases l with
 |nil=>cases r;rfl
 |cons _ _=>obtain⟨_,_,rfl,_⟩:=r;rfl
theorem DQ(ha:DE X Z a fa)(he:∀whole,isTrue a X.env whole= (do let v <-whole;standAt a.pos;YQ [v] (truthy v))):DT X Z a (truthE fa):=
 DT.of (BU ha.h he) λU H Q Nk=>Nk.elim λX9 μ G s h p=>⟨X9,μ,G,s,h,(c7.bind p).mono λd X0 G1 H1 x1 h1 p1 v rv=>by
  cases d with
  |non=>rw[ON rv];exact⟨false,rfl,c7.ok p1 h1⟩
  |bl b=>rw[vA rv];exact⟨b,rfl,c7.ok p1 h1⟩
  |int b=>rw[A1 rv];exact⟨_,rfl,c7.ok p1 h1⟩
  |str y=>
    rw[A2 rv];unfold u7 at p1;dsimp only at p1;split at p1
    ·rename_i hz;exact⟨_,⟨hz,rfl⟩,c7.ok p1 h1⟩
    ·exact p1.elim
  |tup l=>
    unfold f9 at rv;obtain⟨a,vs,rfl,q,rl⟩:=rv;exact⟨!vs.isEmpty,.inr (.inl ⟨vs,q,rfl⟩),by rw[W4 rl];exact c7.ok p1 h1⟩
  |ref r=>
    unfold f9 at rv;obtain⟨a,m,rfl⟩:=rv;obtain⟨o,g,p2⟩:=J8 p1;have ro:=h1.obj r o a g m
    cases o with
    |lst l=>obtain⟨vs,q,rl⟩:=ro;exact⟨!vs.isEmpty,.inl ⟨vs,SqL.of q,rfl⟩,by rw[W4 rl];exact c7.ok p2 h1⟩
    |rol l=>obtain⟨vs,q,rl⟩:=ro;exact⟨!vs.isEmpty,.inl ⟨vs,q.sq,rfl⟩,by rw[W4 rl];exact c7.ok p2 h1⟩
    |dct l=>obtain⟨vs,q,rl⟩:=ro;exact⟨!vs.isEmpty,.inr (.inr ⟨vs,q,rfl⟩),by rw[CM rl];exact c7.ok p2 h1⟩
    |rod l=>exact p2.elim
  |_=>exact p1.elim⟩
def vC(o o':D->D->M D)(fa fb fc:Fe):Fe:=λU=>do
 let x <-fa U
 let y <-fb U
 if <-PD (<-o x y)then o' y (<-fc U)else pure (.bl false)
end
def rG(osc scope:Scope)(N XN:List Str)(caps:List (Option Nat)):Bool:=
 decide (scope.kind= .function)&&scope.names.all (λy=>decide (y.2≠ .cell))&&scope.names.all (λy=>decide (y.2= .local->scope.names.lookup y.1=some .local)) &&
 scope.names.all (λy=>decide (y.2= .free->(osc.names.lookup y.1=some .cell\/osc.names.lookup y.1=some .free)))&&scope.names.all (λy=>decide (y.2= .free->scope.names.lookup y.1=some .free)) &&
 decide (caps.length=N.length)&&(jJ caps.length).all λi=>match caps[i]? with
  |some (some j)=>match N[i]?,XN[j]? with
    |some x,some y=>decide (x=y)&&decide ((x,NameKind.free)∈scope.names)
    |_,_=>false
  |_=>true
theorem A5.of{caps:List (Option Nat)}(h:rG osc scope N XN caps=true)(hs:X.env.scope=osc)(hN:X.N=XN):A5 X scope N caps:=by
 unfold rG at h;simp only[zP,decide_eq_true_eq,Zb]at h;obtain⟨⟨⟨⟨⟨⟨h1,h2⟩,h3⟩,h4⟩,h5⟩,h6⟩,h7⟩:=h;refine⟨h1,h2,h3,λy hy e=>?_,h5,h6,λi j e=>?_⟩
 ·have:=h4 y hy e;show X.env.scope.names.lookup y.1=_\/X.env.scope.names.lookup y.1=_;rw[hs];exact this
 · have hi:i∈jJ caps.length:=by rw[xw];exact lt_of_get e
   have q:=h7 i hi;simp only[e]at q;rw[hN];split at q
   ·rename_i x y e1 e2;simp only[zP,decide_eq_true_eq]at q;exact⟨x,e1,by rw[e2,q.1],q.2⟩
   ·exact cC q
def v6(m:Nat)(fb:Fs):List D->M D:=λds=>do
 match <-fb (ds.map some++yo (m-ds.length) none) with
 | .nx _=>pure .non
 | .rt d=>pure d
 |_=>M.stuck
structure FF(K:zd)(mg:Str->Option zg)(x:Str)(st:Stmt)(ps:List Str)(f:Addr)(fd:xg):Prop where
 F:Fun K x x st f fd
 b:r6 K fd ps []
 m:mg x=some (.ref f)
theorem SM(r:m9 c μ H ds vs):w5 c μ H (ds.map some++yo (N.length-ds.length) none) (L2.start N vs):=by
 unfold L2.start;rw[r.length];refine⟨by simp[r.length],λi d e=>?_⟩;by_cases hi:i<ds.length
 · rw[zI (by simpa using hi),jQ]at e;have hd:ds[i]? =some d:=by
    cases h:ds[i]? with
    |none=>rw[h]at e;exact u5 e
    |some d'=>rw[h]at e;simpa using e
   obtain⟨v,hv,rv⟩:=r.get hd;refine⟨v,?_,rv⟩;rw[zI (by simp;rw[<-r.length];exact hi),jQ,hv];rfl
 ·rw[yb (by simpa using hi),Jy]at e;split at e<;>cases e
theorem QM{w:zO}{K:zd}{base:Heap}{x:Str}{st:Stmt}{f:Addr}{k n m:Nat}{fb:Fs}(F:FF K mg x st ps f fd)(S:M5 N ps (o5 st))(hn:ps.length=n)(hm:N.length=m)
 (hbody:∀(Pb:zg) (A:zV) (outer:List Env) (s:zm) (H:Hp) (E:XK),M7 k (A.deeper (yc x (o5 st) s.heap.objs.size f Pb))->DB (W3 CX0 P w K mg base N x (o5 st) f Pb A outer s H E).nox ZF (N5 st) fb):
 X4 P w K mg base CX0 (k+1) f fd ps (spD ⟨K,mg⟩ n (v6 m fb)):=by
 refine F.F.ok S (λvs H Q E h=>by rw[hn];exact h.1) λPb A outer s H vs Q E hr h=>⟨_,(hbody Pb A outer s H E hr).h,?_⟩;obtain⟨hl,ds,μ,G,rl,hG,p⟩:=h;subst hm;refine⟨_,μ,G,SM rl,hG,(c7.bind p).mono λfl X0 G1 H1 x1 h1 p1=>?_⟩
 cases fl with
 |nx X9=>exact λU _=>c7.ok p1 h1 _ ofN
 |rt d=>exact λv rv=>c7.ok p1 h1 v rv
 |bk _=>exact p1.elim
 |ct _=>exact p1.elim
def wD(K:zd):Sp:=λvs H Q _=>∃(a:Addr) (ns:List Int),vs= [.ref a]/\SqL K H a (ns.map V.int)/\pD H/\ns.length<=63/\∀H',Q (.bl true) H'
theorem pM:∀ns:List Int,m9 c μ H (ns.map D.int) (ns.map V.int)
 |[]=>rfl
 |n::t=>⟨.int n,_,rfl,ofI,pM t⟩
theorem KS{w:zO}{K:zd}{base:Heap}{f:Addr}{k:Nat}(hF:X4 P w K mg base CX0 k f fd ["script"] (spD ⟨K,mg⟩ 1 F))
 (pure:∀ns:List Int,ns.length<=63->∃G',F [.ref 0] [.rol (ns.map D.int)]=some (.ok (.bl true),G')):X4 P w K mg base CX0 k f fd ["script"] (wD K):=
 hF.imp λvs H Q E h=>by
  obtain⟨a,ns,rfl,hS,hO,hl,q⟩:=h;obtain⟨G',e⟩:=pure ns hl;refine⟨rfl, [.ref 0], [a], [.rol (ns.map D.int)],⟨.ref a, [],rfl,by unfold f9;exact⟨a,rfl,rfl⟩,rfl⟩,⟨rfl,λi j b e1 e2=>?_,λi o b e1 e2=>?_⟩,?_⟩
  ·have h1:=lt_of_get e1;have h2:=lt_of_get e2;simp at h1 h2;left;lia
  · have h1:=lt_of_get e2;simp at h1;subst h1;have e1':o= .rol (ns.map D.int):=by simpa using e1.symm
    have e2':b=a:=by simpa using e2.symm
    subst e1' e2';refine⟨ns.map V.int,?_,pM ns⟩;rcases hS with(hS|⟨o,hS⟩)|hS
    · rcases hO b with z|⟨o,xs,z⟩
      ·rw[z]at hS;exact u5 hS
      ·rw[z]at hS;cases hS
    ·exact .inl ⟨o,hS⟩
    ·exact .inr (.inr hS)
  ·rw[e];exact λX1 H' _ _ v rv=>by rw[vA rv];exact q H'
theorem tW:zQ "len" =some (.builtin "len"):=by decide +kernel
theorem wF:zQ "isinstance" =some (.builtin "isinstance"):=by decide +kernel
theorem Kb:zQ "all" =some (.builtin "all"):=by decide +kernel
theorem oQ:zQ "sum" =some (.builtin "sum"):=by decide +kernel
theorem Gq:zQ "max" =some (.builtin "max"):=by decide +kernel
theorem qY:zQ "sorted" =some (.builtin "sorted"):=by decide +kernel
theorem QW:zQ "tuple" =some (.type "tuple"):=by decide +kernel
theorem OW:zQ "int" =some (.type "int"):=by decide +kernel
theorem sU:zQ "str" =some (.type "str"):=by decide +kernel
theorem AZ:zQ "zip" =some (.type "zip"):=by decide +kernel
theorem Dd:zQ "enumerate" =some (.type "enumerate"):=by decide +kernel
end DL
namespace DL
open PySem L2
def Wp{α:Type}(m:M α)(G:DH)(Q:α->DH->Prop):Prop:=∃a G',m G=some (.ok a,G')/\Q a G'
section
theorem Wp.mono(h:Wp m G Q)(k:∀a G',Q a G'->Q' a G'):Wp m G Q':=let ⟨a,G',e,q⟩:=h;⟨a,G',e,k a G' q⟩
theorem j7:Wp (pure a) G Q↔Q a G:=by
 constructor
 · rintro⟨b,G',e,q⟩
   cases e
   exact q
 ·exact λq=>⟨a,G,rfl,q⟩
theorem Z8:Wp (M.stuck:M α) G Q↔False:=by
 constructor
 ·rintro⟨b,G',e,q⟩;exact u5 e
 ·exact ya
theorem m6:Wp (m >>= f) G Q↔Wp m G λa G1=>Wp (f a) G1 Q:=by
 constructor
 · rintro⟨a,G',e,q⟩;rw[M.bind_eq]at e
   match h:m G,e with
   |some (.ok b,G1),e=>exact⟨b,G1,h,a,G',e,q⟩
 ·rintro⟨b,G1,e,a,G',e',q⟩;exact⟨a,G',by rw[M.bind_ok e];exact e',q⟩
theorem vJ(h:m G=some (.ok a,G')):Wp m G Q↔Q a G':=⟨fun⟨b,G2,e,q⟩=>by rw[h]at e;cases e;exact q,λq=>⟨a,G',h,q⟩⟩
theorem a8:Wp (S1 o) G Q↔∃a,o=some a/\Q a G:=by
 rcases o with _|a
 ·
   constructor
   ·rintro⟨_,_,e,_⟩;exact u5 e
   ·rintro⟨_,e,_⟩;exact u5 e
 ·
   constructor
   · rintro⟨_,_,e,q⟩
     cases e
     exact⟨_,rfl,q⟩
   · rintro⟨_,e,q⟩
     cases e
     exact⟨_,_,rfl,q⟩
theorem S8{Q:DO->DH->Prop}:Wp (K6 r) G Q↔∃o,G[r]? =some o/\Q o G:=by
 constructor
 · rintro⟨a,G',e,q⟩;delta K6 at e;rcases h:G[r]? with _|o
   ·rw[h]at e;exact u5 e
   ·rw[h]at e;cases e;exact⟨_,rfl,q⟩
 ·rintro⟨o,e,q⟩;refine⟨o,G,?_,q⟩;delta K6;rw[e]
theorem V0{Q:DPP}:Wp (O1 o) G Q↔Q (.ref G.length) (G++[o]):=vJ rfl
theorem EG{Q:Unit->DH->Prop}:Wp (f8 r o) G Q↔Q () (G.set r o):=vJ rfl
end
section
theorem Dv:Wp (R5 i U) G Q↔∃d,U[i]? =some (some d)/\Q d G:=by
 constructor
 · rintro⟨d,G',e,q⟩;delta R5 at e;rcases h:U[i]? with _|o
   ·rw[h]at e;exact u5 e
   ·
     rw[h]at e;rcases o with _|d'
     ·exact u5 e
     ·cases e;exact⟨_,rfl,q⟩
 ·rintro⟨d,h,q⟩;exact⟨d,G,by delta R5;rw[h],q⟩
theorem nQ:Wp (cE d U) G Q↔Q d G:=j7
theorem NK:Wp (binE o a b U) G Q↔Wp (a U) G λx G1=>Wp (b U) G1 λy G2=>Wp (o x y) G2 Q:=by unfold binE;simp only[m6]
theorem i8:Wp (if k=true then m else n) G R↔if k=true then Wp m G R else Wp n G R:=by cases k<;>exact Iff.rfl
theorem wN:Wp (PD d) G B↔∃k,d= .bl k/\B k G:=by
 constructor
 · rintro⟨k,G',e,q⟩;rcases d with _|b|_|_|_|_|_|_<;>try (cases e;done)
   ·cases e;exact⟨_,rfl,q⟩
 ·rintro⟨k,e,q⟩;subst e;exact⟨k,G,rfl,q⟩
theorem MC:Wp (ifE t a b U) G Q↔Wp (t U) G λk G1=>if k=true then Wp (a U) G1 Q else Wp (b U) G1 Q:=by unfold ifE;simp only[m6,i8]
theorem PP:Wp (fA a U) G B↔Wp (a U) G λx G1=>∃k,x= .bl k/\B k G1:=by unfold fA;simp only[m6,wN]
theorem nA:Wp (truthE a U) G B↔Wp (a U) G λx G1=>Wp (u7 x) G1 B:=by unfold truthE;simp only[m6]
theorem fR:Wp (u4 t u U) G B↔Wp (t U) G λk G1=>if k=true then Wp (u U) G1 B else B false G1:=by unfold u4;simp only[m6,i8,j7]
theorem tY:Wp (orT t u U) G B↔Wp (t U) G λk G1=>if k=true then B true G1 else Wp (u U) G1 B:=by unfold orT;simp only[m6,i8,j7]
theorem sF:Wp (notT t U) G B↔Wp (t U) G λk G1=>B (!k) G1:=by unfold notT;simp only[m6,j7]
theorem m8:Wp (F0 U) G R↔R [] G:=j7
theorem GJ:Wp (y0 a fs U) G R↔Wp (a U) G λx G1=>Wp (fs U) G1 λxs G2=>R (x::xs) G2:=by unfold y0;simp only[m6,j7]
theorem pF:Wp (L0 F fs U) G Q↔Wp (fs U) G λds G1=>Wp (F ds) G1 Q:=by unfold L0;simp only[m6]
theorem AG{α:Type}{m:M α}{R:α->DH->Prop}:Wp (noX m) G R↔Wp m G R:=by
 constructor
 · rintro⟨x,G',e,q⟩;delta noX at e;rcases h:m G with _|p
   ·rw[h]at e;exact u5 e
   ·
     rw[h]at e;obtain⟨_|y,G1⟩:=p
     ·exact u5 e
     ·cases e;exact⟨_,_,h,q⟩
 ·rintro⟨x,G',e,q⟩;exact⟨x,G',by delta noX;rw[e],q⟩
theorem Q9:Wp (fnX n F ds) G Q↔ds.length=n/\Wp (F ds) G Q:=by
 unfold fnX;by_cases h:ds.length=n
 ·rw[if_pos h,AG];exact⟨λq=>⟨h,q⟩,λq=>q.2⟩
 ·rw[if_neg h];exact⟨λq=>(Z8.mp q).elim,λq=>(h q.1).elim⟩
theorem T3:Wp (S3 fs U) G Q↔Wp (fs U) G λxs G1=>xs.length<=ze/\Q (.tup xs) G1:=by
 unfold S3;simp only[m6];constructor
 · rintro⟨xs,G1,e,q⟩;refine⟨xs,G1,e,?_⟩;by_cases h:xs.length<=ze
   ·rw[if_pos h]at q;exact⟨h,j7.mp q⟩
   ·rw[if_neg h]at q;exact(Z8.mp q).elim
 ·rintro⟨xs,G1,e,h,q⟩;exact⟨xs,G1,e,by dsimp only;rw[if_pos h];exact j7.mpr q⟩
theorem O9:Wp (lstE fs U) G Q↔Wp (fs U) G λxs G1=>xs.length<=ze/\Q (.ref G1.length) (G1++[.lst xs]):=by
 unfold lstE;simp only[m6];constructor
 · rintro⟨xs,G1,e,q⟩;refine⟨xs,G1,e,?_⟩;by_cases h:xs.length<=ze
   ·rw[if_pos h]at q;exact⟨h,V0.mp q⟩
   ·rw[if_neg h]at q;exact(Z8.mp q).elim
 ·rintro⟨xs,G1,e,h,q⟩;exact⟨xs,G1,e,by dsimp only;rw[if_pos h];exact V0.mpr q⟩
theorem m7:Wp (nextS U) G P↔P (.nx U) G:=j7
theorem d9:Wp (seqS f g U) G P↔Wp (f U) G λfl G1=>match fl with
 | .nx X2=>Wp (g X2) G1 P
 |r=>P r G1:=by
 delta seqS;refine Iff.trans m6 ?_;constructor
 · rintro⟨fl,G1,e,q⟩;refine⟨fl,G1,e,?_⟩
   cases fl<;>first
    |exact q
    |exact j7.mp q
 · rintro⟨fl,G1,e,q⟩;refine⟨fl,G1,e,?_⟩
   cases fl<;>first
    |exact q
    |exact j7.mpr q
theorem iQ:Wp (retS a U) G P↔Wp (a U) G λd G1=>P (.rt d) G1:=by unfold retS;simp only[m6,j7]
theorem vG:Wp (nB a U) G P↔Wp (a U) G λ_ G1=>P (.nx U) G1:=by unfold nB;simp only[m6,j7]
theorem bV:Wp (ifS t f g U) G P↔Wp (t U) G λk G1=>if k=true then Wp (f U) G1 P else Wp (g U) G1 P:=by unfold ifS;simp only[m6,i8]
theorem MB:Wp (J1 a gg U) G P↔Wp (a U) G λd G1=>Wp (gg d U) G1 λX2 G2=>P (.nx X2) G2:=by unfold J1;simp only[m6,j7]
theorem R8:Wp (E1 i d U) G S↔S (U.set i (some d)) G:=j7
theorem qV:Wp (v6 m f ds) G Q↔Wp (f (ds.map some++yo (m-ds.length) none)) G λfl G1=>match fl with
 | .nx _=>Q .non G1
 | .rt d=>Q d G1
 |_=>False:=by
 delta v6;refine Iff.trans m6 ?_;constructor
 · rintro⟨fl,G1,e,q⟩;refine⟨fl,G1,e,?_⟩
   cases fl<;>first
    |exact j7.mp q
    |exact Z8.mp q
 · rintro⟨fl,G1,e,q⟩;refine⟨fl,G1,e,?_⟩
   cases fl<;>first
    |exact j7.mpr q
    |exact Z8.mpr q
def RI(o:Option Bool)(g:Bool->Bool)(G:DH):Option (Except Str D×DH):=match o with
 |some b=>some (.ok (.bl (g b)),G)
 |none=>none
theorem oF{g:Bool->Bool}(h:m G=RI o g G):Wp m G Q↔∃k,o=some k/\Q (.bl (g k)) G:=by
 unfold Wp;rw[h];rcases o with _|k
 ·
   constructor
   ·rintro⟨_,_,e,_⟩;exact u5 e
   ·rintro⟨_,e,_⟩;exact u5 e
 ·
   constructor
   · rintro⟨_,_,e,q⟩
     cases e
     exact⟨_,rfl,q⟩
   · rintro⟨_,e,q⟩
     cases e
     exact⟨_,_,rfl,q⟩
theorem HC:Wp (eqD x y) G Q↔∃k,eqN 40 G x y=some k/\Q (.bl k) G:=oF rfl
theorem iF:Wp (neD x y) G Q↔∃k,eqN 40 G x y=some k/\Q (.bl (!k)) G:=oF rfl
theorem OH:Wp (ltD x y) G Q↔∃k,ltN 40 G x y=some k/\Q (.bl k) G:=oF rfl
end
end DL
namespace DL
open PySem PySem.Spec L2
open PyProof.Rows hiding St
section
end
def c5:List D->Option (List Str)
 |[]=>some []
 | .str x::r=>(c5 r).map (x :: ·)
 |_=>none
def v8:List (Key×D)->Option (List Str)
 |[]=>some []
 |(.inr x,_)::r=>(v8 r).map (x :: ·)
 |_=>none
def leS(a b:Str):Bool:= !decide (b.cps.toList<a.cps.toList)
def A3(l:List Str):List Str:=l.mergeSort leS
theorem bF:leS a b=true↔a.cps.toList<=b.cps.toList:=by unfold leS;simp
theorem tF(a b c:Str)(h1:leS a b=true)(h2:leS b c=true):leS a c=true:=by rw[bF]at *;exact List.le_trans h1 h2
theorem GO(a b:Str):(leS a b||leS b a)=true:=by rw[Yg,bF,bF];exact List.le_total _ _
theorem AI(h1:leS a b=true)(h2:leS b a=true):a=b:=by
 rw[bF]at *;have e:a.cps.toList=b.cps.toList:=List.le_antisymm h1 h2
 cases a;cases b
 congr 1;exact Array.toList_inj.mp e
theorem fO:∀l p,risingS p l=true->(p::l).Pairwise λa b=>leS a b=true
 |[],p,_=>by simp
 |x::r,p,h=>by
   unfold risingS at h;rw[zP]at h;have ih:=fO r x h.2;have hpx:leS p x=true:=by unfold leS;rw[<-ltCps_eq];exact h.1
   refine yB.mpr ⟨λy hy=>?_,ih⟩;rcases zl.mp hy with rfl|hy
   ·exact hpx
   ·exact tF _ _ _ hpx ((yB.mp ih).1 y hy)
theorem cL(hp:l'.Perm l)(hs:sortedS l'=true):l'=A3 l:=by
 have h1:l'.Pairwise λa b=>leS a b=true:=by
  rcases l' with _|⟨x,r⟩
  ·simp
  ·exact fO r x hs
 have h2:(A3 l).Pairwise λa b=>leS a b=true:=Jx tF GO l;exact List.Perm.eq_of_pairwise (λa b _ _ h1 h2=>AI h1 h2) h1 h2 (hp.trans (xG l leS).symm)
section
theorem Mc(K:PySem.W.KdlSrc prog w T r d n P OK)(hh:A.handled=none)(hok:OK s.heap)(hn:n<64)(hP:∀vs:List zg,vs.length=n->(∀(j:Nat) v,vs[j]? =some v->P j v)->StrsAre vs ss)
 (h:∀(h1 h':Heap) (tk e:Nat) out Pc,(∀b o,s.heap.get? b=some o->h1.get? b=some o)->(∀b o,h1.get? b=some o->h'.get? b=some o)->h'.get? h1.objs.size=some (JK "list" out.toArray e)->StrsAre out Pc->Pc.Perm ss->sortedS Pc=true->Q (.ref h1.objs.size) {s with heap:=h',toks:=tk}):
 zv (zD prog w) A (call (.builtin "sorted") [.ref r]) Q E s:=by
 have hz:n<=ze:=zw (xD hn) (by decide);refine XT kind_sorted plain_sorted entry_sorted (args_sorted1 _) ?_;unfold Yt.«sorted»;refine zc (zt ?_);refine zc (PySem.W.kdu_collect K hh hok hz λh1 tk Nz hk Pz=>?_);have hl:Nz.toList.length=n:=by rw[yQ];exact Pz.1
 refine zc (wpAny_newList ?_ (by rw[hl];exact hz));have hS:StrsAre Nz.toList ss:=hP Nz.toList hl λj v e=>Pz.2 j v (by rw[<-yh];exact e);have hoL:(h1.push (JK "list" Nz.toList.toArray 0)).get? h1.objs.size=some (JK "list" Nz.toList.toArray 0):=zy _ rfl;refine zc (yV (yF slot_list_sort ⟨_,hoL,rfl⟩ entry_list_sort (list_sort_treeK strKind_oneLt hoL hS.keysOf (λv₁ v₂ d7 e=>keyKind_strs (by rw[<-e];exact hS)) (by rw[hl];exact hn) λNv a1 a2=>⟨_,rfl,?_⟩) (args_list_sort _)));obtain⟨Pc,b1,b2,b3⟩:=sorted_out_str hS a1 a2;obtain⟨e,he⟩:=sortedHeap_at hoL;refine zt ⟨_,rfl,h h1 _ tk e ((yr Nv).map (·.2)).toList Pc hk (λb o hb=>?_) (by rw[JR];exact he) b1 b2 b3⟩;have Nw:b<h1.objs.size:=zj hb;rw[sortedHeap_old (zB Nw) (by rw[size_push'];exact xX Nw),Heap.get?_push_ne _ _ _ (zB Nw)];exact hb
end
def fI:List D->M D:=λds=>match ds with
 |[.ref r]=>do
   match <-K6 r with
   | .dct l=>do
     let ss <-S1 (v8 l)
     if ss.length<64 then O1 (.lst ((A3 ss).map .str))else M.stuck
   |_=>M.stuck
 |_=>M.stuck
section
theorem bG:∀ {l} {ss},v8 l=some ss->ss.length=l.length
 |[],_,e=>by cases e;rfl
 |(.inr x,_)::r,ss,e=>by
  replace e:=show (v8 r).map (_ :: ·)=some _ from e;rcases h:v8 r with _|t
  ·rw[h]at e;cases e
  ·rw[h]at e;cases e;simp[bG h]
 |(.inl _,_)::_,_,e=>by cases e
theorem cK{w:zO}:∀ {l} {ss:List Str} {Nh} {xs} {vs},v8 l=some ss->W5 c μ H l Nh->KV Nh xs->vs.length=xs.length->
 (∀(j:Nat) (v:zg),vs[j]? =some v->∃k x,xs[j]? =some (k,x)/\(M4 P w).is k v=true)->StrsAre vs ss
 |[],_,_,xs,vs,e,r,kv,hl,hv=>by
   cases e;cases r;cases kv
   rcases vs with _|⟨_,_⟩
   ·exact .nil
   ·simp at hl
 |(.inr x,d)::t,ss,Nh,xs,vs,e,r,kv,hl,hv=>by
  replace e:=show (v8 t).map (_ :: ·)=some _ from e;rcases h:v8 t with _|q
  ·rw[h]at e;cases e
  ·
    rw[h]at e
    cases e
    obtain⟨v0,tl,rfl,r0,rt⟩:=r
    cases kv with
    |cons hk ht=>
      cases vs with
      |nil=>simp at hl
      |cons u us=>
        obtain⟨k,y,e1,e2⟩:=hv 0 u rfl;simp only[xO,Zj]at e1;have hk1:(Sum.inr x:Key)=_:=hk.1;rw[e1]at hk1;have e3:G9 (.inr x) u=true:=by rw[hk1];exact e2
        rcases J7 e3 with⟨_,_,z,_⟩|⟨x',t',z,eu⟩
        ·cases z
        · cases z
          subst eu;exact .cons _ _ (cK h rt ht (by simpa using hl) λj v hj=>by simpa using hv (j+1) v (by simpa using hj))
 |(.inl _,_)::_,_,_,_,_,e,_,_,_,_=>by cases e
theorem mH:∀ {out} {ss},StrsAre out ss->∃vs,vs=ss.map V.str/\t8 vs out/\m9 c μ H (ss.map D.str) vs
 |_,_,.nil=>⟨[],rfl,.nil,rfl⟩
 |_,_,.cons x t q=>by obtain⟨vs,e,h1,h2⟩:=mH q;subst e;exact⟨_,rfl,.cons ⟨t,rfl⟩ h1,_,_,rfl,by unfold f9;rfl,h2⟩
theorem lY(hc:X.calm=true):U7 X Z (.builtin "sorted") fI:=⟨by
 intro Ng s U H xs us Q I r Nk;obtain⟨ds,μ,G,rl,hr,p⟩:=Nk;rcases ds with _|⟨_|_|_|_|_|i|_|_,_|⟨_,_⟩⟩<;>try exact p.elim
 all_goals (delta fI at p;dsimp only at p)
 · obtain⟨v,rfl,rv⟩:=S2 rl;obtain⟨u,rfl,ru⟩:=Z1 r;unfold f9 at rv;obtain⟨a,m,rfl⟩:=rv
   cases ru
   obtain⟨o,g,p1⟩:=J8 p;have ro:=hr.obj i o a g m
   cases o with
   |dct l=>
     obtain⟨Nh,q,rk⟩:=ro;obtain⟨ss,es,p2⟩:=U5 p1;split at p2
     case isFalse=>exact p2.elim
     rename_i Qj;obtain⟨z,hd,vs,rel,dd⟩:=SH I.hok q;obtain⟨ep,hat⟩:=dd.dictAt;have hn:vs.length=ss.length:=by rw[bG es,<-rel.length,<-rk.length]
     refine Mc (PySem.W.kdl_dict hd) (I.ok.hd hc) hat (by omega) (λus hl hu=>cK es rk rel (by omega) hu) λh1 h' tk e out Pc k1 k2 he hS hp hs=>?_;have e2:=cL hp hs;subst e2;obtain⟨ws,ew,rv,rl2⟩:=mH (μ:=μ) hS;have I1:Inv X Ng U H {s with heap:=h1,toks:=tk}:=I.kept k1;have hf:=I1.hok.fresh (zk _);have Nm:ws.length<=ze:=by
      rw[ew,zn];have:=(xG ss leS).length_eq;have e3:(A3 ss).length=ss.length:=this;have:(64:Nat)<=ze:=by decide
      omega
     refine⟨.ref h1.objs.size,upd H h1.objs.size (.lst ws),I1.laid k2 (zk _) ⟨Nm,out,e,rv,he⟩,rfl,h9 hr rl2 p2 _ hf⟩
   |lst l=>exact p1.elim
   |rod l=>exact p1.elim
   |rol l=>exact p1.elim⟩
end
def Its(z:Str):It:=⟨λi _=>∃c,z.cps[i]? =some c,λi H x H'=>H'=H/\∃c,z.cps[i]? =some c/\x= .str ⟨#[c]⟩,λi _=>z.cps[i]? =none⟩
theorem BW{K:zd}(z:Str)(t:Tok)(it:Addr):D5 P w K tg (Its z) [it] it (λi h=>h.IsStrIter it "str_ascii_iterator" z t i) where
 mem:=by simp
 obj:=λi h st b hb=>by
  have e:b=it:=by simpa using hb
  subst e;obtain⟨o,e,c,d⟩:=st;exact⟨o,e,λv z=>by rw[d]at z;cases z⟩
 keep:=λi h h' st k=>let ⟨o,ho,r⟩:=st;⟨o,k it (by simp) o ho,r⟩
 item:=by intro X hP hw hK hc i Ng s U H E I hf st hg;subst hP hw hK;obtain⟨c,hx⟩:=hg;obtain⟨f0,f1,f2,f3,f4,f5⟩:=hf it (by simp);refine wpAny_pyNext_ascii_item st hx λh' Nv sb=>?_;have I1:Inv X Ng U H {s with heap:=h',toks:=s.toks+1}:=I.turned (λb o hb e=>(sb.2 b hb).trans e) f0 f1 f3 f4 f5;obtain⟨o,e,cc,d⟩:=id Nv;exact⟨_,rfl,AA e cc d (by decide) ⟨.str ⟨#[c]⟩,H,I1,⟨_,rfl⟩,⟨rfl,c,hx,rfl⟩,Nv,λb hb=>(hf b hb).1⟩⟩
 done:=by intro X hP hw hK hc i Ng s U H E I hf st hg;subst hP hw hK;obtain⟨f0,f1,f2,f3,f4,f5⟩:=hf it (by simp);exact wpAny_pyNext_ascii_end (I.ok.hd hc) st hg λh' eb=>⟨rfl,I.turned (λb o hb e=>eb b o hb e) f0 f1 f3 f4 f5⟩
 self:=λ_ _ _ _ _ st h=>wpAny_pyIter_striter_ascii st h
theorem dR{K:zd}(z:Str)(t:Tok)(it:Addr):D5 P w K tg (Its z) [it] it (λi h=>h.IsStrIter it "str_iterator" z t i) where
 mem:=by simp
 obj:=λi h st b hb=>by
  have e:b=it:=by simpa using hb
  subst e;obtain⟨o,e,c,d⟩:=st;exact⟨o,e,λv z=>by rw[d]at z;cases z⟩
 keep:=λi h h' st k=>let ⟨o,ho,r⟩:=st;⟨o,k it (by simp) o ho,r⟩
 item:=by intro X hP hw hK hc i Ng s U H E I hf st hg;subst hP hw hK;obtain⟨c,hx⟩:=hg;obtain⟨f0,f1,f2,f3,f4,f5⟩:=hf it (by simp);refine wpAny_pyNext_wide_item st hx λh' Nv sb=>?_;have I1:Inv X Ng U H {s with heap:=h',toks:=s.toks+1}:=I.turned (λb o hb e=>(sb.2 b hb).trans e) f0 f1 f3 f4 f5;obtain⟨o,e,cc,d⟩:=id Nv;exact⟨_,rfl,AA e cc d (by decide) ⟨.str ⟨#[c]⟩,H,I1,⟨_,rfl⟩,⟨rfl,c,hx,rfl⟩,Nv,λb hb=>(hf b hb).1⟩⟩
 done:=by intro X hP hw hK hc i Ng s U H E I hf st hg;subst hP hw hK;obtain⟨f0,f1,f2,f3,f4,f5⟩:=hf it (by simp);exact wpAny_pyNext_wide_end (I.ok.hd hc) st hg λh' eb=>⟨rfl,I.turned (λb o hb e=>eb b o hb e) f0 f1 f3 f4 f5⟩
 self:=λ_ _ _ _ _ st h=>wpAny_pyIter_striter_wide st h
section
def kG(z:Str):List D:=z.cps.toList.map λc=>.str ⟨#[c]⟩
def eD:D->M Src:=λx=>match x with
 | .str z=>pure ⟨kG z,λ_=>true⟩
 | .tup l=>C2 (.tup l)
 | .ref r=>C2 (.ref r)
 |_=>M.stuck
end
section
end
theorem Dc{w:zO}{K:zd}{base:Heap}{CX:CXT}{k n:Nat}{f:Addr}(hn:ps.length=n):X4 P w K mg base CX k f fd ps (spD ⟨K,mg⟩ n λ_=>M.stuck):=
 ⟨λvs H Q E h=>by rw[hn];exact h.1,λA outer s H args us vs Q E hr=>by
  intros;rename_i h
  first
   |exact h.2.elim
   |(obtain⟨_,_,_,_,_,_,z⟩:=h;exact z.elim)⟩
end DL
namespace W
open PySem PySem.Spec L2 DL
open PyProof.Rows hiding St
def lC(G:DH)(d:D):Prop:=∃k,dA G d=some k
theorem st1:([d].map some++yo n none:DSt)[0]? =some (some d):=by rfl
theorem P0{P:α->Prop}:(∃k,some b=some k/\P k)↔P b:=⟨fun⟨k,e,p⟩=>by cases e;exact p,λp=>⟨b,rfl,p⟩⟩
def cI:Option Int->D
 |none=>.non
 |some i=>.int i
theorem w9:Wp (gtD (.int i) (.int j)) G Q↔Q (.bl (decide (j<i))) G:=j7
theorem ix_tup:Wp (ixD (.tup l) (.int i)) G Q↔∃d,atI l i=some d/\Q d G:=a8
def UC:Nat->DH->D->Prop
 |0,G,d=>lC G d
 |n+1,G,d=>lC G d/\∀l,d= .tup l->∀x∈l,UC n G x
theorem UC.there(h:UC n G d):lC G d:=by cases n;exact h;exact h.1
theorem Z7:Wp (u7 (.bl b)) G B↔B b G:=j7
theorem O8:Wp (eqD (.int i) (.int j)) G Q↔Q (.bl (decide (i=j))) G:=by
 have e:eqN 40 G (.int i) (.int j)=some (decide (i=j)):=by rfl
 rw[HC,e];exact P0
theorem HL(h:Wp m G λa G'=>a=x/\G'=G):m G=some (.ok x,G):=by obtain⟨a,G',e,e1,e2⟩:=h;subst e1 e2;exact e
theorem HM:∀l:List α,bA (l.map λx=>D.bl (f x))=some (l.map f)
 |[]=>rfl
 |a::r=>by show (bA (r.map λx=>D.bl (f x))).map (f a :: ·)=_;rw[HM r];rfl
theorem nK{l:List D}{Q:DPP}(h:G[r]? =some (.lst (l.map λx=>.bl (f x)))):Wp (l8 [.ref r]) G Q↔Q (.bl (l.all f)) G:=by unfold l8;simp only[m6,S8,h,P0,DL.listOf,j7,a8,HM];simp[YW,Yy]
theorem t9:Wp (ltD (.int i) (.int j)) G Q↔Q (.bl (decide (i<j))) G:=by
 have e:ltN 40 G (.int i) (.int j)=some (decide (i<j)):=by rfl
 rw[OH,e];exact P0
theorem J6:Wp (addD (.int i) (.int j)) G Q↔Q (.int (i+j)) G:=j7
theorem QK(l:List D):DL.cutD l (some 1) none=l.drop 1:=by
 unfold DL.cutD;rw[HT.sIx_none,show (some (1:Int))=some ((1:Nat):Int)from rfl,HT.sIx_nat];rcases l with _|⟨a,r⟩
 ·rfl
 ·simp[zp]
section
theorem E8:Wp (C1 g b ck [] U) G P↔ck G=true/\P (.nx U) G:=by
 unfold C1;constructor
 · rintro⟨a,G',e,q⟩;by_cases h:ck G=true
   ·simp only[h,if_true]at e;cases e;exact⟨h,q⟩
   ·simp only[h]at e;exact u5 e
 ·rintro⟨h,q⟩;exact⟨_,G,by simp only[h,if_true],q⟩
theorem D8:Wp (C1 g b ck (d::r) U) G P↔ck G=true/\Wp (g d U) G λWY G1=>Wp (b WY) G1 λfl G2=>match fl with
 | .nx X2=>Wp (C1 g b ck r X2) G2 P
 | .ct X2=>Wp (C1 g b ck r X2) G2 P
 | .bk X2=>P (.nx X2) G2
 | .rt d=>P (.rt d) G2:=by
 have e:Wp (C1 g b ck (d::r) U) G P↔ck G=true/\Wp (do
  match <-b (<-g d U) with
  | .nx X2=>C1 g b ck r X2
  | .ct X2=>C1 g b ck r X2
  | .bk X2=>pure (.nx X2)
  | .rt d=>pure (.rt d):M Fl) G P:=by
  rw[C1];constructor
  · rintro⟨a,G',e,q⟩;by_cases h:ck G=true
    ·simp only[h,if_true]at e;exact⟨h,a,G',e,q⟩
    ·simp only[h]at e;exact u5 e
  ·rintro⟨h,a,G',e,q⟩;exact⟨a,G',by simp only[h,if_true];exact e,q⟩
 rw[e];simp only[m6];refine and_congr_right λ_=>?_;constructor
 · rintro⟨WY,G1,e1,fl,G2,e2,q⟩;refine⟨WY,G1,e1,fl,G2,e2,?_⟩
   cases fl<;>first
    |exact q
    |exact j7.mp q
 · rintro⟨WY,G1,e1,fl,G2,e2,q⟩;refine⟨WY,G1,e1,fl,G2,e2,?_⟩
   cases fl<;>first
    |exact q
    |exact j7.mpr q
theorem D7:Wp (forS it g b U) G P↔Wp (it U) G λs G1=>Wp (C1 g b s.ck s.items U) G1 P:=by unfold forS;simp only[m6]
end
theorem FC:Wp (y3 (.int i) (.int j)) G Q↔Q (.int (i-j)) G:=j7
theorem lD:Wp (neD (.int i) (.int j)) G Q↔Q (.bl (!decide (i=j))) G:=by
 have e:eqN 40 G (.int i) (.int j)=some (decide (i=j)):=by rfl
 rw[iF,e];exact P0
theorem atI_nat{k:Nat}(h:l[k]? =some s):atI l (k:Int)=some s:=by
 have hk:k<l.length:=by
  by_cases hk:k<l.length
  ·exact hk
  ·rw[jC (by omega)]at h;exact u5 h
 unfold atI ixN;rw[if_pos (by omega),if_pos (by omega)];simpa using h
section
theorem P8(h:0<j):Wp (x5 (.int i) (.int j)) G Q↔Q (.int (i % j)) G:=by have e:x5 (.int i) (.int j)=if 0<j then pure (.int (i % j))else M.stuck:=rfl;rw[e,if_pos h];exact j7
theorem MG(h:0<j/\j<2 ^ 100):Wp (IA (.int i) (.int j)) G Q↔Q (.int (i / j)) G:=by have e:IA (.int i) (.int j)=if FA i j then pure (.int (i / j))else M.stuck:=rfl;rw[e,if_pos (show FA i j from h)];exact j7
theorem KB(h:E5 i j):Wp (F2 (.int i) (.int j)) G Q↔Q (.int (i*j)) G:=by have e:F2 (.int i) (.int j)=if E5 i j then pure (.int (i*j))else M.stuck:=rfl;rw[e,if_pos h];exact j7
theorem N6{l:List D}(h:G[r]? =some (.lst l)):Wp (ixD (.ref r) (.int i)) G Q↔∃d,atI l i=some d/\Q d G:=by
 have e:ixD (.ref r) (.int i)= (do
  let l <-K6 r >>= DL.listOf
  S1 (atI l i)):=rfl
 rw[e];simp only[m6,S8,h,P0,DL.listOf,j7,a8]
theorem BV{d:D}{R:Unit->DH->Prop}(h:G[r]? =some (.lst l))(hj:ixN l.length k=some j):Wp (F9 (.ref r) (.int k) d) G R↔R () (G.set r (.lst (l.set j d))):=by unfold F9;simp only[m6,S8,h,P0,hj,EG]
theorem MO:Wp (P5 fo fi d U) G S↔Wp (fo U) G λo G1=>Wp (fi U) G1 λi G2=>Wp (F9 o i d) G2 λ_ G3=>S U G3:=by unfold P5;simp only[m6,j7]
end
def M6(G:DH)(r:Nat):Prop:=∃a b c e:Int,G[r]? =some (.lst [.int a,.int b,.int c,.int e])/\0<=b/\b<2 ^ 40
def Fr(r:Nat)(G G':DH):Prop:=G.length<=G'.length/\(∀i,i≠r->i<G.length->G'[i]? =G[i]?)/\M6 G' r
theorem M6.lt(h:M6 G r):r<G.length:=by
 obtain⟨a,b,c,e,hr,_⟩:=h;by_cases hi:r<G.length
 ·exact hi
 ·rw[jC (by omega)]at hr;exact u5 hr
theorem M6.app(h:M6 G r):M6 (G++t) r:=by have hl:=h.lt;obtain⟨a,b,c,e,hr,hb⟩:=h;exact⟨a,b,c,e,by rw[zI hl];exact hr,hb⟩
theorem Fr.refl(h:M6 G r):Fr r G G:=⟨zk _,λ_ _ _=>rfl,h⟩
theorem Fr.trans(h:Fr r G G1)(k:Fr r G1 G2):Fr r G G2:=
 ⟨zw h.1 k.1,λi hi hl=>by rw[k.2.1 i hi (by have:=h.1;omega),h.2.1 i hi hl],k.2.2⟩
theorem Fr.app(h:M6 G r):Fr r G (G++t):=⟨by simp,λi _ hl=>zI hl,h.app⟩
theorem Fr.set(h:M6 (G.set r o) r):Fr r G (G.set r o):=⟨by simp,λi hi hl=>by rw[jm (Ne.symm hi)],h⟩
theorem Nf:Wp (A8 (.int i)) G Q↔Q (.int (-i)) G:=j7
theorem vL{l:List D}{k:Int}(h0:0<=k)(h1:k<l.length):∃d,d∈l/\atI l k=some d:=by
 obtain⟨n,rfl⟩:=xR h0;have hn:n<l.length:=by omega
 exact⟨l[n],ZM hn,atI_nat (zH hn)⟩
theorem sz{l:List D}(h:Nat.ble l.length 100=true:=by rfl):l.length<=ze:=zw (jT h) (by decide)
theorem Fr.lt(h:Fr r G G'):r<G'.length:=h.2.2.lt
theorem Fr.at(h:Fr r G G')(hp:p≠r)(e:G[p]? =some o):G'[p]? =some o:=by
 have hl:p<G.length:=by
  by_cases hi:p<G.length
  ·exact hi
  ·rw[jC (by omega)]at e;exact u5 e
 rw[h.2.1 p hp hl];exact e
theorem OV{G t:DH}:(G++t)[G.length+k]? =t[k]? :=by rw[yb (by omega)];congr 1;omega
theorem WL{G t:DH}:(G++t)[G.length]? =t[0]? :=OV (k:=0)
section
theorem UA:Wp (mtE t m fo fs U) G Q↔Wp (fo U) G λx G1=>Wp (t x) G1 λ_ G2=>Wp (fs U) G2 λxs G3=>Wp (m x xs) G3 Q:=by unfold mtE;simp only[m6]
theorem rF(h:G[r]? =some (.lst l)):Wp (lB (.ref r)) G R↔R () G:=by delta lB;exact m6.trans ((S8.trans (by rw[h];exact P0)).trans j7)
theorem oG{l:List D}(h:G[r]? =some (.lst l))(hl:l.length<ze):Wp (aD (.ref r) [y]) G Q↔Q .non (G.set r (.lst (l++[y]))):=by
 have e:aD (.ref r) [y]= (do
  let l <-lstM r
  if l.length<ze then do
   let _ <-f8 r (.lst (l++[y]))
   pure .non
  else M.stuck):=rfl
 rw[e];unfold lstM;simp only[m6,S8,h,P0,j7,hl,if_true,EG]
theorem W9{l:List D}(h:G[r]? =some (.lst l)):Wp (P4 [.ref r]) G Q↔Q (.tup l) G:=by
 have e:P4 [.ref r]= (do
  let l <-K6 r >>= DL.listOf
  pure (.tup l)):=rfl
 rw[e];simp only[m6,S8,h,P0,DL.listOf,j7]
theorem rng1:Wp (O7 fs U) G R↔Wp (fs U) G λxs G1=>Wp (match xs with
 |[.int j]=>if -(2 ^ 62)<=j/\j<2 ^ 62 then pure ⟨v5 0 j.toNat,λ_=>true⟩else M.stuck
 |_=>M.stuck:M Src) G1 R:=by
 delta O7;exact m6
theorem rng1_int(h: -(2 ^ 62)<=j/\j<2 ^ 62):Wp (match [D.int j] with
 |[.int j]=>if -(2 ^ 62)<=j/\j<2 ^ 62 then pure ⟨v5 0 j.toNat,λ_=>true⟩else M.stuck
 |_=>M.stuck:M Src) G R↔R ⟨v5 0 j.toNat,λ_=>true⟩ G:=by
 show Wp (if -(2 ^ 62)<=j/\j<2 ^ 62 then pure ⟨v5 0 j.toNat,λ_=>true⟩else M.stuck:M Src) G R↔_;rw[if_pos h];exact j7
theorem GD{a b:List D}(ha:G[i]? =some (.lst a))(hb:G[j]? =some (.lst b))(hl:a.length+b.length<=ze):Wp (addD (.ref i) (.ref j)) G Q↔Q (.ref G.length) (G++[.lst (a++b)]):=by
 have e:addD (.ref i) (.ref j)= (do
  match <-K6 i,<-K6 j with
  | .lst a,.lst b=>if a.length+b.length<=ze then O1 (.lst (a++b))else M.stuck
  |_,_=>M.stuck):=rfl
 rw[e];simp only[m6,S8,ha,hb,P0,if_pos hl,V0]
theorem km:Wp (noPart U) G R↔R none G:=j7
theorem FB:Wp (partO f U) G R↔Wp (f U) G λx G1=>∃i,x= .int i/\R (some i) G1:=by
 delta partO;refine Iff.trans m6 ?_;constructor
 · rintro⟨x,G1,e,q⟩;refine⟨x,G1,e,?_⟩;rcases x with _|_|i|_|_|_|_|_<;>try (exact(Z8.mp q).elim;done)
   ·exact⟨i,rfl,j7.mp q⟩
 ·rintro⟨x,G1,e,i,rfl,q⟩;exact⟨_,G1,e,j7.mpr q⟩
theorem sl_tup{lo hi:Option Int}:Wp (slD (.tup l) lo hi) G Q↔Q (.tup (DL.cutD l lo hi)) G:=j7
end
def wA(d:D):Prop:=∃x y:Option Int,d= .tup [cI x,cI y]
def Fr2(r p:Nat)(G G':DH):Prop:=G.length<=G'.length/\(∀i,i≠r->i≠p->i<G.length->G'[i]? =G[i]?)/\M6 G' r
theorem Fr2.trans(h:Fr2 r p G G1)(k:Fr2 r p G1 G2):Fr2 r p G G2:=
 ⟨zw h.1 k.1,λi hi hp hl=>by rw[k.2.1 i hi hp (by have:=h.1;omega),h.2.1 i hi hp hl],k.2.2⟩
theorem Fr.two(h:Fr r G G1):Fr2 r p G G1:=⟨h.1,λi hi _ hl=>h.2.1 i hi hl,h.2.2⟩
theorem Fr2.set(hp:p≠r)(h:M6 G r):Fr2 r p G (G.set p o):=by refine⟨by simp,λi _ hi hl=>by rw[jm (Ne.symm hi)],?_⟩;obtain⟨a,b,c,e,hr,hb⟩:=h;exact⟨a,b,c,e,by rw[jm hp];exact hr,hb⟩
theorem PU(e:G[p]? =some (.lst xs))(eq:G[q]? =some (.lst [])):Wp (neD (.ref p) (.ref q)) G Q↔Q (.bl (!xs.isEmpty)) G:=by
 have h:eqN 40 G (.ref p) (.ref q)=some xs.isEmpty:=by
  have h1:Q6 G (.ref p)=some (false,xs):=by delta Q6;dsimp only;rw[e]
  have h2:Q6 G (.ref q)=some (false, []):=by delta Q6;dsimp only;rw[eq]
  rw[CA,h1,h2]
  cases xs<;>rfl
 rw[iF,h];exact P0
theorem wA.set{xs:List D}(h:∀d∈xs,wA d)(hd:wA d):∀x∈xs.set j d,wA x:=λx hx=>by
 rcases List.mem_or_eq_of_mem_set hx with hx|rfl
 ·exact h x hx
 ·exact hd
theorem j8{G:DH}:(G++[o])[G.length]? =some o:=WL
theorem o9{G t:DH}{p:Nat}(e:G[p]? =some o):(G++t)[p]? =some o:=by
 have Nw:p<G.length:=by
  by_cases hi:p<G.length
  ·exact hi
  ·rw[jC (by omega)]at e;exact u5 e
 rw[zI Nw];exact e
def okD:D->Bool
 | .non=>true
 | .bl _=>true
 | .int _=>true
 | .str _=>true
 | .tup _=>true
 |_=>false
theorem TU(x:Option Int):okD (cI x)=true:=by cases x<;>rfl
theorem HV(h:okD d=true):lC G d:=by
 cases d<;>first|exact⟨_,rfl⟩|exact cC h
theorem KP(h:∀x∈l,okD x=true):UC 1 G (.tup l):=⟨⟨_,rfl⟩,λl' e x hx=>by cases e;exact HV (h x hx)⟩
theorem wA.there(h:wA d):UC 1 G d:=by
 obtain⟨x,y,rfl⟩:=h;exact KP λz hz=>by simp only[zl,zA,or_false]at hz;rcases hz with rfl|rfl<;>exact TU _
def Gr(G G':DH):Prop:=G.length<=G'.length/\∀i,i<G.length->G'[i]? =G[i]?
theorem Gr.refl:Gr G G:=⟨zk _,λ_ _=>rfl⟩
theorem Gr.trans(h:Gr G G1)(k:Gr G1 G2):Gr G G2:=⟨zw h.1 k.1,λi hi=>by rw[k.2 i (by have:=h.1;omega),h.2 i hi]⟩
theorem Gr.app:Gr G (G++t):=⟨by simp,λi hi=>zI hi⟩
theorem Gr.of(h:Gr G G1)(f:Fr r G1 G2)(hr:G.length<=r):Gr G G2:=⟨zw h.1 f.1,λi hi=>by rw[f.2.1 i (by omega) (by have:=h.1;omega),h.2 i hi]⟩
theorem Gr.at{p:Nat}(h:Gr G G')(e:G[p]? =some o):G'[p]? =some o:=by
 have hl:p<G.length:=by
  by_cases hi:p<G.length
  ·exact hi
  ·rw[jC (by omega)]at e;cases e
 rw[h.2 p hl];exact e
theorem TF:∀ns:List Int,V2 (ns.map D.int)=some ns
 |[]=>rfl
 |a::r=>by show (V2 (r.map D.int)).map (a :: ·)=_;rw[TF r];rfl
theorem MT{ns:List Int}{Q:DPP}(e:G[p]? =some (.rol (ns.map D.int))):Wp (DC [.ref p]) G Q↔Q (.int ns.sum) G:=by
 have h:DC [.ref p]= (do
  let l <-K6 p >>= DL.listOf
  let ns <-S1 (V2 l)
  pure (.int ns.sum)):=rfl
 rw[h];simp only[m6,S8,e,P0,DL.listOf,j7,a8,TF]
theorem Fq(e:G[p]? =some (.rol xs))(eq:G[q]? =some (.lst [])):Wp (neD (.ref p) (.ref q)) G Q↔Q (.bl (!xs.isEmpty)) G:=by
 have h:eqN 40 G (.ref p) (.ref q)=some xs.isEmpty:=by
  have h1:Q6 G (.ref p)=some (false,xs):=by delta Q6;dsimp only;rw[e]
  have h2:Q6 G (.ref q)=some (false, []):=by delta Q6;dsimp only;rw[eq]
  rw[CA,h1,h2]
  cases xs<;>rfl
 rw[iF,h];exact P0
theorem fE{U:DSt}{l:List D}{R:Src->DH->Prop}(e:G[p]? =some (.lst l)):Wp (C2 (.ref p)) G R↔R ⟨l,ckO p (.lst l)⟩ G:=by
 have h:C2 (.ref p)= (do
  let o <-K6 p
  let l <-DL.listOf o
  pure ⟨l,ckO p o⟩):=rfl
 rw[h];simp only[m6,S8,e,P0,DL.listOf,j7]
theorem uP{lo hi:Option Int}(e:G[p]? =some (.rol l)):Wp (slD (.ref p) lo hi) G Q↔Q (.ref G.length) (G++[.lst (DL.cutD l lo hi)]):=by
 have h:slD (.ref p) lo hi= (do
  let l <-K6 p >>= DL.listOf
  O1 (.lst (DL.cutD l lo hi))):=rfl
 rw[h];simp only[m6,S8,e,P0,DL.listOf,j7,V0]
theorem mU:Wp (itEnum fs U) G R↔Wp (fs U) G λxs G1=>Wp (match xs with
 |[.ref r]=>do
   let s <-C2 (.ref r)
   pure ⟨s.items.zipIdx.map λp=>.tup [.int ((p.2:Nat):Int),p.1],s.ck⟩
 |_=>M.stuck:M Src) G1 R:=by
 delta itEnum;exact m6
theorem dU{p:Nat}{l:List D}{R:Src->DH->Prop}(e:G[p]? =some (.lst l)):Wp (match [D.ref p] with
 |[.ref r]=>do
   let s <-C2 (.ref r)
   pure ⟨s.items.zipIdx.map λp=>.tup [.int ((p.2:Nat):Int),p.1],s.ck⟩
 |_=>M.stuck:M Src) G R↔R ⟨l.zipIdx.map λp=>.tup [.int ((p.2:Nat):Int),p.1],ckO p (.lst l)⟩ G:=by
 show Wp (do
  let s <-C2 (.ref p)
  pure ⟨s.items.zipIdx.map λp=>.tup [.int ((p.2:Nat):Int),p.1],s.ck⟩:M Src) G R↔_
 simp only[m6];rw[fE (U:= []) e];exact j7
section
theorem BK:Wp (vC o o' a b c U) G Q↔Wp (a U) G λx G1=>Wp (b U) G1 λy G2=>Wp (o x y) G2 λz G3=>∃k,z= .bl k/\if k=true then Wp (c U) G3 λw G4=>Wp (o' y w) G4 Q else Q (.bl false) G3:=by unfold vC;simp only[m6,wN,i8,j7]
theorem wp_trueT:Wp (Z6 U) G B↔B true G:=j7
theorem cN:Wp (M9 g t e ck [] U) G R↔ck G=true/\R [] G:=by
 unfold M9;constructor
 · rintro⟨a,G',e,q⟩;by_cases h:ck G=true
   ·simp only[h,if_true]at e;cases e;exact⟨h,q⟩
   ·simp only[h]at e;exact u5 e
 ·rintro⟨h,q⟩;exact⟨_,G,by simp only[h,if_true],q⟩
theorem bN:Wp (M9 g t e ck (d::r) U) G R↔ck G=true/\Wp (g d U) G λWY G1=>Wp (t WY) G1 λb G2=>if b=true then Wp (e WY) G2 λy G3=>Wp (M9 g t e ck r WY) G3 λys G4=>R (y::ys) G4 else Wp (M9 g t e ck r WY) G2 R:=by
 have h0:Wp (M9 g t e ck (d::r) U) G R↔ck G=true/\Wp (do
  let WY <-g d U
  if <-t WY then do
   let y <-e WY
   let ys <-M9 g t e ck r WY
   pure (y::ys)
  else M9 g t e ck r WY:M (List D)) G R:=by
  rw[M9];constructor
  · rintro⟨a,G',e,q⟩;by_cases h:ck G=true
    ·simp only[h,if_true]at e;exact⟨h,a,G',e,q⟩
    ·simp only[h]at e;exact u5 e
  ·rintro⟨h,a,G',e,q⟩;exact⟨a,G',by simp only[h,if_true];exact e,q⟩
 rw[h0];simp only[m6,i8,j7]
theorem wp_comp:Wp (T5 it caps g t e U) G Q↔Wp (it U) G λs G1=>s.items.length<=ze/\Wp (M9 g t e s.ck s.items (Z2 caps U)) G1 λys G2=>Q (.ref G2.length) (G2++[.lst ys]):=by
 unfold T5;simp only[m6];constructor
 · rintro⟨s,G1,e1,q⟩;refine⟨s,G1,e1,?_⟩;by_cases h:s.items.length<=ze
   ·rw[if_pos h]at q;simp only[m6,AG,V0]at q;exact⟨h,q⟩
   ·rw[if_neg h]at q;exact(Z8.mp q).elim
 ·rintro⟨s,G1,e1,h,q⟩;refine⟨s,G1,e1,?_⟩;dsimp only;rw[if_pos h];simp only[m6,AG,V0];exact q
end
section
theorem F8:Wp (eqD (.str a) (.str b)) G Q↔Q (.bl (a==b)) G:=by
 have e:eqN 40 G (.str a) (.str b)=some (a==b):=by rfl
 rw[HC,e];exact P0
theorem dI:Wp (neD (.str a) (.str b)) G Q↔Q (.bl (!(a==b))) G:=by
 have e:eqN 40 G (.str a) (.str b)=some (a==b):=by rfl
 rw[iF,e];exact P0
theorem MZ:Wp (leD (.str a) (.str b)) G Q↔Q (.bl (!decide (b.cps.toList<a.cps.toList))) G:=j7
theorem VV:Wp (geD (.str a) (.str b)) G Q↔Q (.bl (!decide (a.cps.toList<b.cps.toList))) G:=j7
theorem R4(h:a.length+b.length<=ze):Wp (addD (.str a) (.str b)) G Q↔Q (.str (a++b)) G:=by have e:addD (.str a) (.str b)=if a.length+b.length<=ze then pure (.str (a++b))else M.stuck:=rfl;rw[e,if_pos h];exact j7
theorem K4(h:z.length<=ze):Wp (lenF [.str z]) G Q↔Q (.int z.length) G:=by have e:lenF [.str z]=if z.length<=ze then pure (.int z.length)else M.stuck:=rfl;rw[e,if_pos h];exact j7
theorem dM:Wp (inD x y) G Q↔∃k,inB x y G=some k/\Q (.bl k) G:=oF (by unfold inD RI;cases inB x y G<;>rfl)
theorem rX(e:G[p]? =some (.lst l)):Wp (eD (.ref p)) G R↔R ⟨l,ckO p (.lst l)⟩ G:=fE (U:= []) e
end
def L4(c:Nat):Bool:=decide (97<=c)&&decide (c<=122)
def i4(z:Str):Bool:=z.cps.toList.all L4
abbrev C9:Str:= "abcdefghijklmnopqrstuvwxyz"
theorem MK{lo hi lim:Nat}(h:∀i,yZ s sub i=false):ju s sub lo hi lim= []:=by
 unfold ju;simp[h,Id.run];have e:∀l:List Nat,List.foldl (fun(b:Array Nat×Nat) (_:Nat)=>(b.fst,b.snd)) (#[],lo) l= (#[],lo):=λl=>by
  induction l with
  |nil=>rfl
  |cons a r ih=>exact ih
 rw[e];rfl
theorem nZ:∀c<123,(ju C9 ⟨#[c]⟩ 0 C9.length 1).isEmpty= !L4 c:=by decide +kernel
theorem oS:∀x∈C9.cps.toList,x<123:=by decide +kernel
theorem eZ(c:Nat):(ju C9 ⟨#[c]⟩ 0 C9.length 1).isEmpty= !L4 c:=by
 by_cases h:c<123
 ·exact nZ c h
 · have hl:L4 c=false:=by
    unfold L4;rw[decide_eq_false (show ¬c<=122 by lia),Bool.and_false]
   rw[hl,MK λi=>?_]
   ·rfl
   · unfold yZ;rw[beq_eq_false_iff_ne];intro e;have e2:=congrArg YO e;have hm:c∈C9.cps.toList:=by
      have:c∈(C9.cps.extract i (i+(⟨#[c]⟩:Str).length)).toList:=by rw[e2];simp
      rw[Ym]at this;exact Yp (JY this)
     exact h (oS c hm)
end W
namespace DL
open PySem PySem.Spec L2
open PyProof.Rows hiding St
section
end
section
end
end DL
namespace DL
open PySem PySem.Spec L2 Builtin Builtin.Str
open PyProof.Rows hiding St
section
variable{X:Cx}{Z:XC}{e:Expr}{fa:Fe}{p2 pos:Pos}{lo hi:Option Expr}{fl fh:Fo}
theorem bK(p:IsPart v o):∃l:Option (Int×Tok),v=partValue l/\l.map (·.1)=o:=by
 cases p with
 |none=>exact⟨none,rfl,rfl⟩
 |int i t=>exact⟨some (i,t),rfl,rfl⟩
theorem lX:SlR X (λx lo hi H Q=>∃z,x= .str z/\z.length<=ze/\Q (.str (yA z lo hi)) H):=by
 intro Ng s U H x v vl vu lo hi sl Q I rx hs pl pu h;obtain⟨z,rfl,hz,q⟩:=h;obtain⟨t,rfl⟩:=rx;obtain⟨l,el,eml⟩:=bK pl;obtain⟨u,eu,emu⟩:=bK pu;subst el eu eml emu;refine⟨"str",_,PySem.F.slot_str_getitem.lookup,Xj _ z t,?_⟩;refine wpAny_getItem_str_slice (st:=none) (let ⟨o,h1,h2,h3⟩:=hs;⟨o,h1,h2,h3⟩) rfl ?_;unfold sliceMade;unfold yA at q;unfold slicePicked;have e1:((JW (λx:Int×Tok=>x.1) none).getD 1)= (1:Int):=rfl;simp only[e1];by_cases hc:((1:Int)==1&&(strSliceIndices (l.map (·.1)) (u.map (·.1)) 1 z.length).length==z.length)=true
 ·rw[if_pos hc]at q;rw[if_pos hc];exact⟨.str z,H,I,⟨t,rfl⟩,q⟩
 ·rw[if_neg hc]at q;rw[if_neg hc];refine⟨?_,.str _,H,I.tok _,⟨_,rfl⟩,q⟩;have hle:=Txt.slice_le z (l.map (·.1)) (u.map (·.1));unfold yA at hle;rw[if_neg hc]at hle;exact zw hle hz
def slT:D->Option Int->Option Int->M D:=λx lo hi=>match x with
 | .str z=>if z.length<=ze then pure (.str (yA z lo hi))else M.stuck
 | .tup l=>slD (.tup l) lo hi
 | .ref r=>slD (.ref r) lo hi
 |_=>M.stuck
def sliceT(f:Fe)(lo hi:Fo):Fe:=λU=>do
 let x <-f U
 let l <-lo U
 let h <-hi U
 slT x l h
theorem rP:SlD X Z slT:=SlR.mono (lX.or (gU)) λx lo hi H Q ⟨dx,μ,G,rx,hr,p⟩=>by
 rcases dx with _|_|_|z|l|r|_|_<;>try (exact p.elim;done)
 ·
   unfold slT at p;dsimp only at p;split at p
   ·rename_i hz;exact .inl ⟨z,A2 rx,hz,c7.ok p hr _ (by unfold f9;rfl)⟩
   ·exact p.elim
 ·exact .inr ⟨.tup l,μ,G,rx,hr,p⟩
 ·exact .inr ⟨.ref r,μ,G,rx,hr,p⟩
theorem RS(he:DE X Z e fa)(hl:DOp X Z lo fl)(hu:DOp X Z hi fh):DE X Z (.Subscript e (.Slice lo hi none p2) pos) (sliceT fa fl fh):=
 DE.of (qk rP he.h hl.h hu.h) λU H Q Nk=>Nk.elim λX9 μ G s h p=>⟨X9,μ,G,s,h,(c7.bind p).mono λd X0 G1 H1 x1 h1 p1 v rv=>
  ⟨X9,X0,G1,s.mono x1,h1,(c7.bind p1).mono λl WX G2 H2 x2 h2 p2=>⟨X9,WX,G2,s.mono (x1.trans x2),h2,(c7.bind p2).mono λu μ3 G3 H3 x3 h3 p3=>⟨d,μ3,G3,rv.mono (x2.trans x3),h3,p3⟩⟩⟩⟩
end
section
end
end DL
namespace W
open PySem PySem.Spec L2 DL Builtin Builtin.Str
open PyProof.Rows hiding St
section
theorem N7{lo hi:Fo}:Wp (sliceT f lo hi U) G Q↔Wp (f U) G λx G1=>Wp (lo U) G1 λl G2=>Wp (hi U) G2 λh G3=>Wp (slT x l h) G3 Q:=by unfold sliceT;simp only[m6]
theorem d8{lo hi:Option Int}(h:z.length<=ze):Wp (slT (.str z) lo hi) G Q↔Q (.str (yA z lo hi)) G:=by have e:slT (.str z) lo hi=if z.length<=ze then pure (.str (yA z lo hi))else M.stuck:=rfl;rw[e,if_pos h];exact j7
end
end W
namespace DL
open PySem PySem.Spec L2
open PyProof.Rows hiding St
def bB(a b:Fe):Fe:=λU=>do
 let x <-a U
 if <-u7 x then b U else pure x
section
theorem Bj{G:DH}{d:D}{v:V}{f:Bool->M α}{K:α->List Addr->DH->Hp->Prop}(h:o8 (wc X) μ G H)(rv:f9 (wc X) μ H d v)(p:c7 (wc X) Z μ H ((u7 d >>= f) G) K):
 ∃k,PF X.K v H k/\c7 (wc X) Z μ H (f k G) K:=by
 have p1:=c7.bind p;rcases d with _|b|b|y|l|r|_|_<;>try (exact p1.elim;done)
 ·rw[ON rv];exact⟨false,rfl,c7.ok p1 h⟩
 ·rw[vA rv];exact⟨b,rfl,c7.ok p1 h⟩
 ·rw[A1 rv];exact⟨_,rfl,c7.ok p1 h⟩
 ·
   rw[A2 rv];unfold u7 at p1;dsimp only at p1;split at p1
   ·rename_i hz;exact⟨_,⟨hz,rfl⟩,c7.ok p1 h⟩
   ·exact p1.elim
 ·
   unfold f9 at rv;obtain⟨a,vs,rfl,q,rl⟩:=rv;exact⟨!vs.isEmpty,.inr (.inl ⟨vs,q,rfl⟩),by rw[W4 rl];exact c7.ok p1 h⟩
 ·
   unfold f9 at rv;obtain⟨a,m,rfl⟩:=rv;obtain⟨o,g,p2⟩:=J8 p1;have ro:=h.obj r o a g m;rcases o with l|l|l|l
   ·obtain⟨vs,q,rl⟩:=ro;exact⟨!vs.isEmpty,.inl ⟨vs,SqL.of q,rfl⟩,by rw[W4 rl];exact c7.ok p2 h⟩
   ·obtain⟨vs,q,rl⟩:=ro;exact⟨!vs.isEmpty,.inl ⟨vs,q.sq,rfl⟩,by rw[W4 rl];exact c7.ok p2 h⟩
   ·obtain⟨vs,q,rl⟩:=ro;exact⟨!vs.isEmpty,.inr (.inr ⟨vs,q,rfl⟩),by rw[CM rl];exact c7.ok p2 h⟩
   ·exact p2.elim
theorem qW{d7:List Expr}(ha:DE X Z a fa)(hb:DE X Z (.BoolOp .And (b::d7) pos) fb):DE X Z (.BoolOp .And (a::b::d7) pos) (bB fa fb):=by
 refine⟨?_⟩;intro Ng s U H Q I Nk;refine Nk.elim λX9 μ G sr h p=>?_;refine BoolOp_and (thn (ha.h Ng s U H _ I ⟨X9,μ,G,sr,h,(c7.bind p).mono λd X0 G1 H1 x1 h1 p1 v rv=>(⟨d,X0,G1,x1,rv,h1,p1⟩:∃d X0 G1,Ext μ H X0 H1/\f9 (wc X) X0 H1 d v/\o8 (wc X) X0 G1 H1/\c7 (wc X) Z X0 H1 ((u7 d >>= λk=>if k=true then fb X9 else pure d) G1) λd X1 _ H'=>∀v,f9 (wc X) X1 H' d v->Q v H')⟩) λv s1 ⟨x,H1,I1,r1,d,X0,G1,x1,rd,h1,p1⟩=>?_);obtain⟨k,tk,p2⟩:=Bj h1 rd p1;refine thn (TL Ng s1 U H1 x v (λc H'=>c=k/\H'=H1) I1 r1 ⟨k,tk,rfl,rfl⟩) λc s2 ⟨H2,I2,e1,e2⟩=>?_;subst e1 e2;rcases c with _|_
 ·exact⟨x,H2,I2,r1,c7.ok p2 h1 _ rd⟩
 ·exact hb.h Ng s2 U H2 Q I2 ⟨X9,X0,G1,sr.mono x1,h1,p2⟩
end
end DL
namespace W
open PySem PySem.Spec L2 DL
open PyProof.Rows hiding St
section
theorem AY:Wp (bB a b U) G Q↔Wp (a U) G λx G1=>Wp (u7 x) G1 λk G2=>if k=true then Wp (b U) G2 Q else Q x G2:=by unfold bB;simp only[m6,i8,j7]
end
end W
namespace DL
open PySem PySem.Spec L2
open PyProof.Rows hiding St
structure V8(F:List D->M D)(n:Nat)(x:Str)(P:zF)(w:zO)(K:zd)(mg:Str->Option zg)(base:Heap)(k:Nat):Prop where
 ex:∃f fd ps,X4 P w K mg base CX0 k f fd ps (spD ⟨K,mg⟩ n F)/\mg x=some (.ref f)/\jZ K (.ref f)=true/\r6 K fd ps []
theorem V8.of{P:zF}{w:zO}{K:zd}{base:Heap}{k n:Nat}{x:Str}{st:Stmt}{f:Addr}(c:FF K mg x st ps f fd)(h:X4 P w K mg base CX0 k f fd ps (spD ⟨K,mg⟩ n F)):V8 F n x P w K mg base k:=
 ⟨f,fd,ps,h,c.m,c.F.kp,c.b⟩
def bltL:List Str:= ["len", "isinstance", "all", "any", "sum", "min", "max", "abs", "sorted", "tuple", "list", "int", "str", "bool", "dict", "zip", "enumerate", "range", "reversed", "set"]
structure BLs(mg:Str->Option zg):Prop where
 h:∀b∈bltL,mg b=none
theorem M8:(yy p l).any (·.1)=l.any (·.1):=by unfold yy;rw[List.any_map];rfl
theorem Q8:∀ {es},es.all K1=true->(zC es env).any (·.1)=false
 |[],_=>rfl
 |e::es,h=>by rw[jB,zP]at h;rw[S0 h.1,yN,Q8 h.2];rfl
section
theorem iZ(hN:∃N ps sc,M5 N ps sc/\X.N=N)(hi:X.N[i]? =some x)(hx:Loc X.env.scope x)(hf:X.fn x=true\/X.env.scope.names.lookup x=some .local):DG X Z (.Name x pos) (E1 i):=by obtain⟨N,ps,sc,S,e⟩:=hN;exact KN (by rw[e];exact S.nd) hi hx hf
theorem hU(ha:DE X Z e fa)(hr:DA X Z es fs)(hs:K1 e=true):DA X Z (e::es) (y0 fa fs):=QY ha hr (S0 hs)
theorem vg(hF:∃k kk,V8 F n x X.prog X.w X.K X.mg X.base k/\M7 kk X.A/\k<=kk)(hg:Gl X x)(ha:DA X Z (e::es) fs)(hdb:(x==("__debug__" :Str))=false)(hs:(e::es).all K1=true):
 DE X Z (.Call (.Name x p) (e::es) [] pos) (L0 (fnX n F) fs):=by
 obtain⟨k,kk,hF,hr,hk⟩:=hF;obtain⟨f,fd,ps,h1,h2,h3,h4⟩:=hF.ex;rw[jB,zP]at hs;exact Lj h1 (hr.mono hk) hg h2 h3 h4 ha hdb (S0 hs.1) (by rw[M8];exact Q8 hs.2)
structure BD(F:List D->M D)(x:Str)(X:Cx)(Z:XC):Prop where
 ex:(∃id,U7 X Z (.builtin id) F/\zQ x=some (.builtin id))\/(∃T,U7 X Z (.type T) F/\zQ x=some (.type T))
theorem RW(hc:X.calm=true)(hF:X.calm=true->BD F x X Z)(hb:BLs X.mg)(hx:bltL.elem x=true)(hg:Gl X x)(ha:DA X Z (e::es) fs)(hn:x≠ "__name__")(hdb:(x==("__debug__" :Str))=false)(hs:(e::es).all K1=true):
 DE X Z (.Call (.Name x p) (e::es) [] pos) (L0 F fs):=by
 have hm:=hb.h x (List.elem_iff.mp hx);rw[jB,zP]at hs;rcases (hF hc).ex with⟨id,h1,h2⟩|⟨T,h1,h2⟩
 ·exact qU h1 hg hm h2 ha hn hdb (S0 hs.1) (by rw[M8];exact Q8 hs.2)
 ·exact UQ h1 hg hm h2 ha hn hdb (S0 hs.1) (by rw[M8];exact Q8 hs.2)
theorem fY(_:X.calm=true):BD lenF "len" X Z:=⟨.inl ⟨_,oV,tW⟩⟩
theorem Cz(_:X.calm=true):BD T7 "isinstance" X Z:=⟨.inl ⟨_,Fx,wF⟩⟩
theorem kT(h:X.calm=true):BD l8 "all" X Z:=⟨.inl ⟨_,bU h,Kb⟩⟩
theorem FQ(h:X.calm=true):BD DC "sum" X Z:=⟨.inl ⟨_,Bg h,oQ⟩⟩
theorem qc(_:X.calm=true):BD P4 "tuple" X Z:=⟨.inr ⟨_,pU,QW⟩⟩
theorem qv:∀n∈ ["int", "bool", "str", "tuple", "list", "dict"],zQ (ym n)=some (.type n):=by decide +kernel
theorem SV(hb:BLs X.mg)(hn:n∈ ["int", "bool", "str", "tuple", "list", "dict"])(hx:bltL.elem (ym n)=true)(hg:Gl X (ym n))(hnn:ym n≠ "__name__")(hd:(ym n==("__debug__" :Str))=false):DE X Z (.Name (ym n) pos) (cE (.ty n)):=
 gX hg (hb.h _ (List.elem_iff.mp hx)) (qv n hn) hnn hd
theorem mX(hb:BLs X.mg)(hg:Gl X "range")(ha:DA X Z [a] fs)(hs:K1 a=true):DI X Z tg (.Call (.Name "range" p) [a] [] pos) (O7 fs):=wU hg (hb.h _ (by decide +kernel)) ha (LD hs)
theorem Kv(hb:BLs X.mg)(hg:Gl X "zip")(ha:DA X Z [a,b] fs)(hs:K1 a=true)(hs2:K1 b=true):DI X Z (.Tuple es1 x1 tp) (.Call (.Name "zip" p) [a,b] [] pos) (GA fs):=mY hg (hb.h _ (by decide +kernel)) ha (Hj hs hs2) (LD hs2) AZ
theorem Dg(hb:BLs X.mg)(hg:Gl X "enumerate")(ha:DA X Z [a] fs)(hs:K1 a=true):DI X Z (.Tuple es1 x1 tp) (.Call (.Name "enumerate" p) [a] [] pos) (itEnum fs):=Cw hg (hb.h _ (by decide +kernel)) ha (LD hs) Dd
def kB(sc:Scope):List Str:=(sc.names.filterMap λy=>if y.2 == .local&&y.1 != (".0" :Str)then some y.1 else none)++(sc.names.filterMap λy=>if y.2 == .free then some y.1 else none)
theorem EY(hc:X.calm=true)(hi:DI X Z tg iter it)(k:∃XN ps osc,M5 XN ps osc/\X.env.scope=osc/\X.N=XN/\rG osc scope (kB scope) XN caps=true)(nd:(kB scope).Nodup)
 (hg:(kB scope).Nodup->∀C s H ex,DG (U4 X scope (kB scope) C s H ex) ZF tg gg) (ht:∀C s H ex,DTs (U4 X scope (kB scope) C s H ex) ZF ifs tt) (he:∀C s H ex,DE (U4 X scope (kB scope) C s H ex) ZF elt fe)
 (hf:∀x,Zd iter X.env x=pure x):DE X Z (.ListComp elt [⟨tg,iter,ifs,0⟩] scope pos) (T5 it caps gg tt fe):=let ⟨_,_,_,_,hs,hN,k⟩:=k;lZ hc hi (A5.of k hs hN) (hg nd) ht he hf
end
section
end
end DL
namespace W
open PySem PySem.Spec L2 DL
open PyProof.Rows hiding St
section
end
end W
namespace DL
open PySem PySem.Spec L2
open PyProof.Rows hiding St
def Itd(a:Addr)(o:Obj)(Nh:List (Key×V)):It:=
 ⟨λi H=>H a=some (.frz o (.dK Nh))/\∃kv,Nh[i]? =some kv,λi H x H'=>H'=H/\∃kv,Nh[i]? =some kv/\x=kV kv.1,λi H=>H a=some (.frz o (.dK Nh))/\Nh.length<=i⟩
theorem tJ:∀ {Nh} {vs} {i:Nat} {kv:κ×V},KV Nh vs->Nh[i]? =some kv->∃v,vs[i]? =some (kv.1,v)
 |_,_,_,_,.nil,e=>by simp at e
 |_,_,0,_,.cons h t,e=>by simp only[xO,Zj]at e;subst e;exact⟨_,by rw[xO,h.1]⟩
 |_,_,i+1,_,.cons h t,e=>by simp only[ZP]at e ⊢;exact tJ t e
theorem CW(h:(M4 P w).is k u=true):u9 (kV k) u:=by
 rcases J7 h with⟨i,t,rfl,rfl⟩|⟨x,t,rfl,rfl⟩
 ·exact⟨t,rfl⟩
 ·exact⟨t,rfl⟩
theorem dO(I:Inv X Ng U H s)(ho:o.data= .dict es ep)(e:H a=some (.frz o (.dK Nh))):
 (a==xo)=false/\∃vs,KV Nh vs/\s.heap.DictAt (M4 X.prog X.w) a vs ep:=by
 obtain⟨hget,hz,hS,vs,r,m⟩:=(show N8 X.prog X.w H s.heap a (.frz o (.dK Nh))from I.hok a _ e);obtain⟨ep',dat⟩:=m.dictAt;have hep:ep'=ep:=by
  obtain⟨o',Qh,h1,_,h3,_⟩:=id dat;rw[hget]at h1
  cases h1
  rw[ho]at h3
  cases h3
  rfl
 subst hep;exact⟨hS,vs,r,dat⟩
theorem QJ{P:zF}{w:zO}{K:zd}{tg:Expr}{a:Addr}{o:Obj}{ep:Nat}(ho:o.data= .dict es ep)(it:Addr):D5 P w K tg (Itd a o Nh) [it] it (λi h=>h.IsKeyIter it a i Nh.length ep) where
 mem:=by simp
 obj:=λi h st b hb=>by
  have e:b=it:=by simpa using hb
  subst e;obtain⟨o,e,c,d⟩:=st;exact⟨o,e,λv z=>by rw[d]at z;cases z⟩
 keep:=λi h h' st k=>let ⟨o,ho,r⟩:=st;⟨o,k it (by simp) o ho,r⟩
 item:=by intro X hP hw hK hc i Ng s U H E I hf st hg;subst hP hw hK;obtain⟨hfr,kv,hx⟩:=hg;obtain⟨f0,f1,f2,f3,f4,f5⟩:=hf it (by simp);obtain⟨hS,vs,rel,dat⟩:=dO I ho hfr;obtain⟨v,hv⟩:=tJ rel hx;have Nm:Nh.length=vs.length:=xc rel;rw[Nm]at st;refine wpAny_pyNext_dict_item st dat hv λkey h' hk Nv sb=>?_;have I1:Inv X Ng U H {s with heap:=h'}:=I.turned (λb o hb e=>(sb.2 b hb).trans e) f0 f1 f3 f4 f5;obtain⟨o',e,cc,d⟩:=id Nv;refine⟨_,rfl,AA e cc d (by decide) ⟨kV kv.1,H,I1,CW hk,⟨rfl,kv,hx,rfl⟩,by rw[Nm];exact Nv,λb hb=>(hf b hb).1⟩⟩
 done:=by intro X hP hw hK hc i Ng s U H E I hf st hg;subst hP hw hK;obtain⟨hfr,hi⟩:=hg;obtain⟨f0,f1,f2,f3,f4,f5⟩:=hf it (by simp);obtain⟨hS,vs,rel,dat⟩:=dO I ho hfr;have Nm:Nh.length=vs.length:=xc rel;rw[Nm]at st hi;exact wpAny_pyNext_dict_end (I.ok.hd hc) st dat (jC hi) λh' eb=>⟨rfl,I.turned (λb o hb e=>eb b o hb e) f0 f1 f3 f4 f5⟩
 self:=λ_ _ _ _ _ st h=>wpAny_pyIter_keyiter st h
theorem o8.setR(h:o8 c μ G H)(g:G[i]? =some o)(n:¬y4 (some o))(m:μ[i]? =some a)(k:Ext μ H μ (upd H a u))(ho:l5 c μ (upd H a u) a o'):o8 c μ (G.set i o') (upd H a u):=by
 have hi:i<G.length:=lt_of_get g;have get:∀j,(G.set i o')[j]? =if i=j then some o' else G[j]? :=λj=>by
  rw[YV];by_cases e:i=j
  ·subst e;simp[hi]
  ·simp[e]
 refine⟨by simp[h.len],λj l b ej el=>?_,λj o2 b gj mj=>?_⟩
 · rcases h.inj j l b ej el with e|e|e
   ·exact .inl e
   · by_cases ij:i=j
     ·subst ij;rw[g]at e;exact(n e).elim
     ·right;left;rw[get,if_neg ij];exact e
   · by_cases ij:i=l
     ·subst ij;rw[g]at e;exact(n e).elim
     ·right;right;rw[get,if_neg ij];exact e
 · rw[get]at gj;by_cases ij:i=j
   · subst ij;rw[if_pos rfl]at gj
     cases gj
     rw[m]at mj
     cases mj
     exact ho
   · rw[if_neg ij]at gj;have q:=h.obj j o2 b gj mj;by_cases hr:y4 (some o2)
     ·exact q.mono k (.inr hr)
     · have nb:b≠a:=λe=>by
        subst e;rcases h.inj i j b m mj with e|e|e
        ·exact ij e
        ·rw[g]at e;exact n e
        ·rw[gj]at e;exact hr e
       exact q.mono k (.inl (t6 nb))
section
theorem Inv.freeze(I:Inv X Ng U H s)(e:H a=some (.dK Nh))(ho:s.heap.get? a=some o):Inv X Ng U (upd H a (.frz o (.dK Nh))) s:=by have q:N8 X.prog X.w H s.heap a (.dK Nh):=I.hok a _ e;exact I.write (by rw[e];exact trivial) (.inl rfl) (λb u _ z=>z) ⟨o,ho⟩ ⟨ho,q⟩
def iW(K:zd)(tl:TE):TI:=λU H R=>tl U H λx H1=>((∃z,x= .str z/\R (Its z) H1)\/(∃k a xs,x= .ref a/\Sq K k H1 a xs/\R (if k=true then Itt K a else Itl K a) H1))\/
 (∃a Nh,x= .ref a/\H1 a=some (.dK Nh)/\∀o,R (Itd a o Nh) (upd H1 a (.frz o (.dK Nh))))\/(∃a o Nh,x= .ref a/\H1 a=some (.frz o (.dK Nh))/\R (Itd a o Nh) H1)
theorem Kf(hl:PE X e tl):PI X tg e (iW X.K tl):=by
 intro Ng s U H R I h;refine thn (hl Ng s U H _ I h) λv s1 Nq=>Nq.elim λx H1 I1 r1 q1=>?_;have fpo:∀b∈ [s1.heap.objs.size],Q2 X Ng H1 b:=λb hb=>by
  have z:b=s1.heap.objs.size:=by simpa using hb
  subst z;exact I1.fpOk (zk _) (I1.hok.fresh (zk _))
 rcases q1 with(⟨z,rfl,q⟩|⟨k,a,xs,rfl,hq,q⟩)|⟨a,Nh,rfl,hq,q⟩|⟨a,o,Nh,rfl,hq,q⟩
 · obtain⟨t,rfl⟩:=(show ∃t,v=Value.str z t from r1);refine wpAny_pyIter_strU ?_;have I2:Inv X Ng U H1 {s1 with heap:=s1.heap.push {cls:=.type (Zs z),data:=.fields #[.str z t,.int 0 0]}}:=I1.kept λb o z=>zf _ z;have hg:(s1.heap.push {cls:=.type (Zs z),data:=.fields #[.str z t,.int 0 0]}).get? s1.heap.objs.size=some {cls:=.type (Zs z),data:=.fields #[.str z t,.int 0 0]}:=zy _ rfl;by_cases ha:z.cps.all (· < 128)=true
   · have e:Zs z= "str_ascii_iterator":=by unfold Zs;rw[if_pos ha]
     refine⟨s1.heap.objs.size, [s1.heap.objs.size],_,_,H1,rfl,I2,BW z t _,?_,fpo,q⟩;rw[e]at hg ⊢;exact⟨_,hg,rfl,rfl⟩
   · have e:Zs z= "str_iterator":=by unfold Zs;rw[if_neg ha]
     refine⟨s1.heap.objs.size, [s1.heap.objs.size],_,_,H1,rfl,I2,dR z t _,?_,fpo,q⟩;rw[e]at hg ⊢;exact⟨_,hg,rfl,rfl⟩
 · cases r1
   rcases k with _|_
   ·
     obtain⟨Nj,rv,p,hz⟩:=I1.list hq;exact ZU p.isList ⟨s1.heap.objs.size, [s1.heap.objs.size],_,_,H1,rfl,I1.kept λb o z=>zf _ z,eW a _,⟨_,zy _ rfl,rfl,rfl⟩,fpo,q⟩
   ·
     obtain⟨Nj,rv,p,hz⟩:=I1.tuple hq;exact wpAny_pyIter_tuple (show s1.heap.IsTuple a Nj.toArray from p) ⟨s1.heap.objs.size, [s1.heap.objs.size],_,_,H1,rfl,I1.kept λb o z=>zf _ z,IV a _,⟨_,zy _ rfl,rfl,rfl⟩,fpo,q⟩
 · cases r1
   obtain⟨hz,hS,vs,rel,dd⟩:=SH I1.hok hq;obtain⟨ep,dat⟩:=dd.dictAt;obtain⟨o,es,h1,h2,h3,h4⟩:=id dat;have Nm:Nh.length=vs.length:=xc rel;have I2:=DL.Inv.freeze I1 hq h1;have fpo2:∀b∈ [s1.heap.objs.size],Q2 X Ng (upd H1 a (.frz o (.dK Nh))) b:=λb hb=>by
    have z:b=s1.heap.objs.size:=by simpa using hb
    subst z;exact I2.fpOk (zk _) (I2.hok.fresh (zk _))
   refine wpAny_pyIter_dict hS dat ⟨s1.heap.objs.size, [s1.heap.objs.size],_,_,upd H1 a (.frz o (.dK Nh)),rfl,I2.kept λb o z=>zf _ z,QJ h3 _,?_,fpo2,q o⟩;rw[Nm];exact⟨_,zy _ rfl,rfl,rfl⟩
 · cases r1
   obtain⟨hget,hz,hS,vs,rel,dd⟩:=(show N8 X.prog X.w H1 s1.heap a (.frz o (.dK Nh))from I1.hok a _ hq);obtain⟨ep,dat⟩:=dd.dictAt;obtain⟨o',es,h1,h2,h3,h4⟩:=id dat;rw[hget]at h1
   cases h1
   have Nm:Nh.length=vs.length:=xc rel;refine wpAny_pyIter_dict hS dat ⟨s1.heap.objs.size, [s1.heap.objs.size],_,_,H1,rfl,I1.kept λb o z=>zf _ z,QJ h3 _,?_,fpo,q⟩;rw[Nm];exact⟨_,zy _ rfl,rfl,rfl⟩
def lH:Key->D
 | .inl i=>.int i
 | .inr x=>.str x
def KC(l:List (Key×D)):List D:=l.map λkv=>lH kv.1
def nC:D->M Src:=λx=>match x with
 | .ref r=>do
   match <-K6 r with
   | .dct l=>do
     let _ <-f8 r (.rod l)
     pure ⟨KC l,λ_=>true⟩
   | .rod l=>pure ⟨KC l,λ_=>true⟩
   |_=>eD (.ref r)
 |d=>eD d
def itW(f:Fe):DSt->M Src:=λU=>do nC (<-f U)
theorem mG{v:V}{R:It->Hp->Prop}(h1:o8 (wc X) X0 G1 H1)(rv:f9 (wc X) X0 H1 d v)(p1:c7 (wc X) Z X0 H1 (eD d G1) λs X1 _ H'=>∀J,ItD (wc X) X1 H' J s->R J H'):
 (∃z,v= .str z/\R (Its z) H1)\/(∃k a xs,v= .ref a/\Sq X.K k H1 a xs/\R (if k=true then Itt X.K a else Itl X.K a) H1):=by
 have main:∀dd:D,(∀z,dd≠ .str z)->f9 (wc X) X0 H1 dd v->c7 (wc X) Z X0 H1 (C2 dd G1) (λs X1 _ H'=>∀J,ItD (wc X) X1 H' J s->R J H')->(∃z,v= .str z/\R (Its z) H1)\/(∃k a xs,v= .ref a/\Sq X.K k H1 a xs/\R (if k=true then Itt X.K a else Itl X.K a) H1):=by
  intro dd _ rv p1;have p1':c7 (wc X) Z X0 H1 ((C2 dd >>= λs=>(pure s:M Src)) G1) λs X1 _ H'=>∀J,ItD (wc X) X1 H' J s->R J H':=by
   have e:(C2 dd >>= λs=>(pure s:M Src))=C2 dd:=by
    funext G;rw[M.bind_eq];rcases C2 dd G with _|q
    ·rfl
    ·obtain⟨r,G'⟩:=q;cases r<;>rfl
   rw[e];exact p1
  obtain⟨sr,k,a,vs,rfl,q,rl,is,ck,_,p2⟩:=IE h1 rv p1';refine .inr ⟨k,a,vs,rfl,q,c7.ok p2 h1 _ λX1 G' H' x' h' ck' i=>?_⟩;obtain⟨Pd,q',Pf⟩:=is X1 G' H' x' h' ck';refine⟨λd hd=>?_,λhi=>?_⟩
  · obtain⟨y,hy,ry⟩:=Pf.get hd
    cases k with
    |true=>
      rw[if_pos rfl];exact⟨⟨Pd,y,q',hy⟩,λx H2 ⟨e1,e2⟩=>by subst e1;exact⟨Ext.refl _ _,h',CL Pf hd (e2 Pd q')⟩⟩
    |false=>
      rw[if_neg zG];exact⟨⟨Pd,y,q',hy⟩,λx H2 ⟨e1,e2⟩=>by subst e1;exact⟨Ext.refl _ _,h',CL Pf hd (e2 Pd q')⟩⟩
  · cases k with
    |true=>rw[if_pos rfl];exact⟨Pd,q',by rw[<-Pf.length];exact hi⟩
    |false=>rw[if_neg zG];exact⟨Pd,q',by rw[<-Pf.length];exact hi⟩
 cases d with
 |str z=>
   refine .inl ⟨z,A2 rv,c7.ok p1 h1 _ λX1 G' H' x' h' ck' i=>⟨λd hd=>?_,λhi=>?_⟩⟩
   · simp only[kG,jQ]at hd
     cases hc:z.cps.toList[i]? with
     |none=>rw[hc]at hd;cases hd
     |some c=>
       rw[hc]at hd
       cases hd
       have hc':z.cps[i]? =some c:=by rw[<-yh];exact hc
       exact⟨⟨c,hc'⟩,λx H2 ⟨e1,c2,e2,e3⟩=>by
        subst e1;rw[hc']at e2
        cases e2
        exact⟨Ext.refl _ _,h',by rw[e3];unfold f9;rfl⟩⟩
   ·simp only[kG,zn]at hi;show z.cps[i]? =none;rw[<-yh];exact jC hi
 |tup l=>exact main (.tup l) (λz q=>nomatch q) rv p1
 |ref r=>exact main (.ref r) (λz q=>nomatch q) rv p1
 |_=>exact p1.elim
theorem gN{H:Hp}:∀ {l} {Nh} {i:Nat} {kd},W5 c μ H l Nh->l[i]? =some kd->∃v,Nh[i]? =some (kd.1,v)
 |[],_,_,_,_,e=>by simp at e
 |(k,d)::r,_,0,_,h,e=>by obtain⟨v,t,rfl,_,_⟩:=h;simp only[xO,Zj]at e;subst e;exact⟨v,rfl⟩
 |(k,d)::r,_,i+1,_,h,e=>by obtain⟨v,t,rfl,_,ht⟩:=h;simp only[ZP]at e ⊢;exact gN ht e
theorem MQ(k:Key):f9 c μ H (lH k) (kV k):=by
 cases k<;>(unfold lH f9;rfl)
theorem wO{c:Wc}{H:Hp}(e:H a=some (.frz o (.dK Nh)))(rk:W5 c μ H l Nh):ItD c μ H (Itd a o Nh) ⟨KC l,λ_=>true⟩:=by
 intro X1 G' H' x h' _ i;have e':=x.frz _ _ _ e;refine⟨λd hd=>?_,λhi=>⟨e',by rw[<-rk.length];simpa [KC]using hi⟩⟩;simp only[KC,jQ]at hd
 cases hl:l[i]? with
 |none=>rw[hl]at hd;cases hd
 |some kd=>
   rw[hl]at hd
   cases hd
   obtain⟨v,hv⟩:=gN rk hl;exact⟨⟨e',_,hv⟩,λy H2 ⟨e1,kv,e2,e3⟩=>by
    subst e1;rw[hv]at e2
    cases e2
    exact⟨Ext.refl _ _,h',by rw[e3];exact MQ _⟩⟩
theorem Cd(he:DE X Z e f):DI X Z tg e (itW f):=
 DI.of (Kf he.h) λU H R Nk=>Nk.elim λX9 μ G s h p=>⟨X9,μ,G,s,h,(c7.bind p).mono λd X0 G1 H1 x1 h1 p1 v rv=>by
  cases d with
  |ref r=>
    have rv':=rv;unfold f9 at rv';obtain⟨a,m,rfl⟩:=rv';obtain⟨o,g,p2⟩:=J8 p1;have ro:=h1.obj r o a g m;rcases o with l|l|l|l
    ·exact .inl (mG h1 rv p2)
    ·exact .inl (mG h1 rv p2)
    ·
      obtain⟨Nh,q,rk⟩:=ro;refine .inr (.inl ⟨a,Nh,rfl,q,λo=>?_⟩);have x:Ext X0 H1 X0 (upd H1 a (.frz o (.dK Nh))):=Ext.mut (yJ m) q (λ_ z=>nomatch z) (λ_ _ z=>nomatch z) _;have Qf:=rk.mono x;have h2:o8 (wc X) X0 (G1.set r (.rod l)) (upd H1 a (.frz o (.dK Nh))):=h1.setR g (λz=>z) m x ⟨Nh,o,v9,Qf⟩;have p3:=c7.from p2 x;exact c7.ok p3 h2 _ (wO v9 Qf)
    ·
      obtain⟨Nh,o,q,rk⟩:=ro;exact .inr (.inr ⟨a,o,Nh,rfl,q,c7.ok p2 h1 _ (wO q rk)⟩)
  |_=>exact .inl (mG h1 rv p1)⟩
end
end DL
namespace W
open PySem PySem.Spec L2 DL
open PyProof.Rows hiding St
section
theorem HA:Wp (itW f U) G R↔Wp (f U) G λx G1=>Wp (nC x) G1 R:=by unfold itW;simp only[m6]
theorem rQ:Wp (nC (.tup l)) G R↔R ⟨l,λ_=>true⟩ G:=j7
theorem gC(e:G[p]? =some (.lst l)):Wp (nC (.ref p)) G R↔R ⟨l,ckO p (.lst l)⟩ G:=by unfold nC;simp only[m6,S8,e,P0];exact rX e
end
end W
namespace DL
open PySem PySem.Spec L2
open PyProof.Rows hiding St
section
theorem oU{a:Addr}{o:Obj}{n:Nat}(hT:T= "list"\/T= "tuple")(ho:s.heap.get? a=some o)(hc:o.cls= .type T)(hd:o.data= .seq vs.toArray n)(Qj:vs.length<64)(hS:StrsAre vs ss)
 (h:∀(h1 h':Heap) (tk e:Nat) out Pc,(∀b o,s.heap.get? b=some o->h1.get? b=some o)->(∀b o,h1.get? b=some o->h'.get? b=some o)->h'.get? h1.objs.size=some (JK "list" out.toArray e)->StrsAre out Pc->Pc.Perm ss->sortedS Pc=true->Q (.ref h1.objs.size) {s with heap:=h',toks:=tk}):
 zv (zD prog w) A (call (.builtin "sorted") [.ref a]) Q E s:=by
 have hz:vs.length<=ze:=zw (xD Qj) (by decide);refine XT kind_sorted plain_sorted entry_sorted (args_sorted1 _) ?_;unfold Yt.«sorted»;refine zc (zt ?_);refine zc (wpAny_collect_seq a hT ho hc hd (λh1 hk=>?_) (by rw[zq];exact hz));refine zc (wpAny_newList ?_ hz);have hoL:(h1.push (JK "list" vs.toArray 0)).get? h1.objs.size=some (JK "list" vs.toArray 0):=zy _ rfl;refine zc (yV (yF slot_list_sort ⟨_,hoL,rfl⟩ entry_list_sort (list_sort_treeK strKind_oneLt hoL hS.keysOf (λv₁ v₂ d7 e=>keyKind_strs (by rw[<-e];exact hS)) Qj λNv a1 a2=>⟨_,rfl,?_⟩) (args_list_sort _)));obtain⟨Pc,b1,b2,b3⟩:=sorted_out_str hS a1 a2;obtain⟨e,he⟩:=sortedHeap_at hoL;refine zt ⟨_,rfl,h h1 _ s.toks e ((yr Nv).map (·.2)).toList Pc hk (λb o hb=>?_) (by rw[JR];exact he) b1 b2 b3⟩;have Nw:b<h1.objs.size:=zj hb;rw[sortedHeap_old (zB Nw) (by rw[size_push'];exact xX Nw),Heap.get?_push_ne _ _ _ (zB Nw)];exact hb
end
def kH(l:List D):M D:=do
 let ss <-S1 (c5 l)
 if ss.length<64 then O1 (.lst ((A3 ss).map .str))else M.stuck
def b9:List D->M D:=λds=>match ds with
 |[.tup l]=>kH l
 |[.ref r]=>do
   match <-K6 r with
   | .lst l=>kH l
   | .dct l=>do
     let ss <-S1 (v8 l)
     if ss.length<64 then O1 (.lst ((A3 ss).map .str))else M.stuck
   |_=>M.stuck
 |_=>M.stuck
section
theorem WD:∀ {l} {ss} {vs} {us},c5 l=some ss->m9 c μ H l vs->t8 vs us->StrsAre us ss
 |[],_,_,_,e,r,v=>by cases e;cases r;cases v;exact .nil
 | .str x::t,ss,_,_,e,r,v=>by
   replace e:=show (c5 t).map (_ :: ·)=some _ from e;rcases h:c5 t with _|q
   ·rw[h]at e;exact u5 e
   ·
     rw[h]at e
     cases e
     obtain⟨v0,tl,rfl,r0,rt⟩:=r
     cases v with
     |cons ru rt2=>
       rw[A2 r0]at ru;obtain⟨tk,rfl⟩:=ru;exact .cons _ _ (WD h rt rt2)
 | .non::_,_,_,_,e,_,_=>by exact u5 e
 | .bl _::_,_,_,_,e,_,_=>by exact u5 e
 | .int _::_,_,_,_,e,_,_=>by exact u5 e
 | .tup _::_,_,_,_,e,_,_=>by exact u5 e
 | .ref _::_,_,_,_,e,_,_=>by exact u5 e
 | .fn _::_,_,_,_,e,_,_=>by exact u5 e
 | .ty _::_,_,_,_,e,_,_=>by exact u5 e
theorem gJ:∀ {l} {ss},c5 l=some ss->ss.length=l.length
 |[],_,e=>by cases e;rfl
 | .str x::t,ss,e=>by
   replace e:=show (c5 t).map (_ :: ·)=some _ from e;rcases h:c5 t with _|q
   ·rw[h]at e;exact u5 e
   ·rw[h]at e;cases e;simp[gJ h]
 | .non::_,_,e=>by exact u5 e
 | .bl _::_,_,e=>by exact u5 e
 | .int _::_,_,e=>by exact u5 e
 | .tup _::_,_,e=>by exact u5 e
 | .ref _::_,_,e=>by exact u5 e
 | .fn _::_,_,e=>by exact u5 e
 | .ty _::_,_,e=>by exact u5 e
theorem LJ(I:Inv X Ng U H s)(hr:o8 (wc X) μ G H)(rl:m9 (wc X) μ H l vs)(rv:t8 vs us)(hT:T= "list"\/T= "tuple")(ho:s.heap.get? a=some o)(hc:o.cls= .type T)(hd:o.data= .seq us.toArray n)
 (p:c7 (wc X) Z μ H (kH l G) λd X1 _ H'=>∀v,f9 (wc X) X1 H' d v->Q v H'):zv (zD X.prog X.w) X.A (call (.builtin "sorted") [.ref a]) (EP X Ng U Q) X.xe s:=by
 obtain⟨ss,es,p2⟩:=U5 p;split at p2
 case isFalse=>exact p2.elim
 rename_i Qj;have hS:=WD es rl rv;have hlen0:us.length=ss.length:=by rw[gJ es,rl.length,rv.length]
 refine oU hT ho hc hd (by lia) hS λh1 h' tk e out Pc k1 k2 he Qg hp hs=>?_;have e2:=cL hp hs;subst e2;obtain⟨ws,ew,rv',rl2⟩:=mH (μ:=μ) Qg;have I1:Inv X Ng U H {s with heap:=h1,toks:=tk}:=I.kept k1;have hf:=I1.hok.fresh (zk _);have Nm:ws.length<=ze:=by
  rw[ew,zn];have e3:(A3 ss).length=ss.length:=(xG ss leS).length_eq;have:(64:Nat)<=ze:=by decide
  lia
 exact⟨.ref h1.objs.size,upd H h1.objs.size (.lst ws),I1.laid k2 (zk _) ⟨Nm,out,e,rv',he⟩,rfl,h9 hr rl2 p2 _ hf⟩
theorem pQ(hc:X.calm=true):U7 X Z (.builtin "sorted") b9:=⟨by
 intro Ng s U H xs us Q I r Nk;obtain⟨ds,μ,G,rl,hr,p⟩:=Nk;rcases ds with _|⟨_|_|_|_|l|i|_|_,_|⟨_,_⟩⟩<;>try exact p.elim
 all_goals (delta b9 at p;dsimp only at p)
 · obtain⟨v,rfl,rv⟩:=S2 rl;obtain⟨u,rfl,ru⟩:=Z1 r;unfold f9 at rv;obtain⟨a,vs,rfl,q,Pf⟩:=rv
   cases ru
   obtain⟨Nj,rv,⟨o,h1,h2,n,h3⟩,hz⟩:=I.tuple q;exact LJ I hr Pf rv (.inr rfl) h1 h2 h3 p
 · obtain⟨v,rfl,rv⟩:=S2 rl;obtain⟨u,rfl,ru⟩:=Z1 r;have rv':=rv;unfold f9 at rv';obtain⟨a,m,rfl⟩:=rv'
   cases ru
   obtain⟨o,g,p1⟩:=J8 p;have ro:=hr.obj i o a g m;rcases o with l|l|l|l
   ·
     obtain⟨vs,q,Pf⟩:=ro;obtain⟨Nj,rv,pl,hz⟩:=I.list (SqL.of q);obtain⟨o,h1,h2,n,h3⟩:=pl.isList;exact LJ I hr Pf rv (.inl rfl) h1 h2 h3 p1
   ·exact p1.elim
   ·
     refine(lY (Z:=Z) hc).h Ng s U H [.ref a] [.ref a] Q I r ⟨[.ref i],μ,G,rl,hr,?_⟩;have eo:K6 i G=some (.ok (.dct l),G):=by unfold K6;simp only[g]
     have e:fI [.ref i] G= ((do
      let ss <-S1 (v8 l)
      if ss.length<64 then O1 (.lst ((A3 ss).map .str))else M.stuck:M D)) G:=by
      show ((K6 i >>= λo=>match o with
       | .dct l => (do
         let ss <-S1 (v8 l)
         if ss.length<64 then O1 (.lst ((A3 ss).map .str))else M.stuck:M D)
       |_=>M.stuck):M D) G=_
      rw[M.bind_ok eo]
     rw[e];exact p1
   ·exact p1.elim⟩
theorem QT(h:X.calm=true):BD b9 "sorted" X Z:=⟨.inl ⟨_,pQ h,qY⟩⟩
end
end DL
namespace W
open PySem PySem.Spec L2 DL
open PyProof.Rows hiding St
section
theorem AR(e:G[r]? =some (.dct l))(hs:v8 l=some ss)(Qj:ss.length<64):Wp (b9 [.ref r]) G Q↔Q (.ref G.length) (G++[.lst ((A3 ss).map .str)]):=by unfold b9;simp only[m6,S8,e,P0,a8,hs,if_pos Qj,V0]
end
end W
namespace DL
open PySem
section
end
end DL
namespace DL
open PySem
open PyProof.Rows (IsTup)
section
variable{prog:zF}{w:zO}{A:zV}{R:Result->zm->Prop}{I:Addr}{fp wr:List Addr}{n:Nat}{P:Nat->zg->Prop}{St:Nat->Heap->Prop}{K:Type}[DecidableEq K]{knd:KeyKind prog w K}
end
section
variable{prog:zF}{w:zO}{A:zV}{E:VSP}{s:zm}{K:Type}[DecidableEq K]{knd:KeyKind prog w K}
end
end DL
namespace DL
open PySem PySem.Spec L2
open PyProof.Rows hiding St
section
variable{X:Cx}{Z:XC}{μ:List Addr}{H:Hp}{G:DH}
end
section
end
end DL
namespace W
open PySem PySem.Spec L2 DL
open PyProof.Rows hiding St
end W
namespace DL
open PySem PySem.Spec L2
open PyProof.Rows hiding St
section
end
end DL
namespace W
open PySem PySem.Spec L2 DL
open PyProof.Rows hiding St
end W
namespace DL
open PySem PySem.W
open PyProof.Rows hiding St
def tOk{α:Type}(lt:Nat->Nat->Bool)(n:Nat):KasT α->(α->Prop)->Prop
 | .ret a,Q=>Q a
 | .ask i j k,Q=>i<n/\j<n/\tOk lt n (k (lt i j)) Q
section
theorem tOk.bind:∀t,tOk lt n t (λa=>tOk lt n (f a) Q)->tOk lt n (t.bind f) Q
 | .ret _,h=>h
 | .ask i j k,h=>⟨h.1,h.2.1,tOk.bind (k (lt i j)) h.2.2⟩
theorem tOk.mono(hq:∀a,Q a->Q' a):∀t,tOk lt n t Q->tOk lt n t Q'
 | .ret a,h=>hq a h
 | .ask i j k,h=>⟨h.1,h.2.1,tOk.mono hq (k (lt i j)) h.2.2⟩
end
structure OrdN(lt:Nat->Nat->Bool)(n:Nat):Prop where
 tr:∀i j k,lt i j=true->lt j k=true->lt i k=true
 tot:∀i j,i<n->j<n->i≠j->lt i j=false->lt j i=true
structure KD(p:Array Nat)(n:Nat):Prop where
 pm:p.toList.Perm (jJ n)
section
theorem KD.size(h:KD p n):p.size=n:=by have:=h.pm.length_eq;simpa using this
theorem KD.ne(h:KD p n)(hi:i<n)(hj:j<n)(hij:i≠j):p.getD i 0≠p.getD j 0:=by
 have hs:=h.size;have nd:p.toList.Nodup:=h.pm.nodup_iff.mpr List.nodup_range;have e1:p.getD i 0=p.toList[i]'(by simp;lia):=by simp[Array.getD,hs,hi]
 have e2:p.getD j 0=p.toList[j]'(by simp;lia):=by simp[Array.getD,hs,hj]
 rw[e1,e2];intro e;exact hij ((Xi nd).mp e)
end
end DL
namespace DL
open PySem PySem.Spec L2
open PyProof.Rows hiding St
section
end
section
end
section
end
section
end
section
end
section
end
def CR(K:zd)(mg:Str->Option zg)(d:D)(u:zg):Prop:=∃v,u9 v u/\∀ μ H,f9 ⟨K,mg⟩ μ H d v
def CRL(K:zd)(mg:Str->Option zg)(l:List D)(us:List zg):Prop:=∃vs,t8 vs us/\∀ μ H,m9 ⟨K,mg⟩ μ H l vs
section
variable{K:zd}{mg:Str->Option zg}
theorem cr_str:CR K mg (.str x) (.str x t):=⟨.str x,⟨t,rfl⟩,λμ H=>by unfold f9;rfl⟩
theorem cr_int:CR K mg (.int i) (.int i t):=⟨.int i,⟨t,rfl⟩,λμ H=>by unfold f9;rfl⟩
theorem cr_bl:CR K mg (.bl b) (.bool b):=⟨.bl b,rfl,λμ H=>by unfold f9;rfl⟩
theorem cr_non:CR K mg .non .none:=⟨.non,rfl,λμ H=>by unfold f9;rfl⟩
theorem crl_nil:CRL K mg [] []:=⟨[],.nil,λ_ _=>rfl⟩
theorem crl_cons(h:CR K mg d u)(t:CRL K mg l us):CRL K mg (d::l) (u::us):=by obtain⟨v,r,h⟩:=h;obtain⟨vs,rs,t⟩:=t;exact⟨v::vs,.cons r rs,λμ H=>⟨v,vs,rfl,h μ H,t μ H⟩⟩
theorem cr_tup(hl:K.lookup a=some ⟨.type "tuple",none,.seq us.toArray n,sl⟩)(hz:Nat.ble us.length 100=true)(h:CRL K mg l us):CR K mg (.tup l) (.ref a):=by obtain⟨vs,rs,t⟩:=h;refine⟨.ref a,rfl,λμ H=>?_⟩;unfold f9;refine⟨a,vs,rfl,.inr ⟨_,us.toArray,n,hl,rfl,rfl,?_,rs⟩,t μ H⟩;rw[zq];exact zw (jT hz) (by decide)
end
structure SD(K:zd)(mg:Str->Option zg)(x:Str)(d:D):Prop where
 ex:∃u,mg x=some u/\CR K mg d u
section
theorem CZ(hc:SD X.K X.mg x d)(hg:Gl X x)(hdb:(x==("__debug__" :Str))=false):DE X Z (.Name x pos) (cE d):=⟨by
 intro Ng s U H Q I Nk;refine Nk.elim λX9 μ G sr hr p=>?_;obtain⟨u,hm,v,ru,rv⟩:=hc.ex;exact C8 I hg hm ⟨v,H,I,ru,c7.ok p hr v (rv μ H)⟩ hdb⟩
end
def isStrM:D->M Unit:=λx=>match x with
 | .str _=>pure ()
 |_=>M.stuck
section
variable{X:Cx}{Z:XC}{o e:Expr}{es:List Expr}{fo:Fe}{fs:DSt->M (List D)}{name:Str}{id:String}{mm:D->List D->M D}{apos cpos:Pos}
theorem wm{H:Hp}{G:DH}{d:D}{v:V}{f:Unit->M α}{K:α->List Addr->DH->Hp->Prop}(r:f9 c μ H d v)(p:c7 c Z μ H ((isStrM d >>= f) G) K):tyV c.K "str" v H/\c7 c Z μ H (f () G) K:=by
 rcases d with _|_|_|x|_|_|_|_<;>try (exact p.elim;done)
 ·rw[A2 r];exact⟨rfl,p⟩
theorem nM(slot:Slot "str" name id)(hty:typeOf (.builtin id)=pure (.type "method_descriptor"))(hm:MtD X Z id mm)(ho:DE X Z o fo)(ha:DA X Z (e::es) fs)
 (hbase:Ya o name X.env (eval o X.env)=eval o X.env)
 (hfew:((yy cpos (zC (e::es) X.env)).all (λx=> !x.1)&&(JF cpos (YJ [] X.env)).all (λx=>x.1.isSome)
   && decide ((e::es).length+([]:List Keyword).length+(if ([]:List Keyword).isEmpty then 0 else 1)<30))=true)
 (hline:(apos.endLine==cpos.line)=true) (hs:zC (e::es) X.env= (false,eval e X.env)::zC es X.env) (Pj:(yy cpos (zC es X.env)).any (·.1)=false):
 DE X Z (.Call (.Attribute o name apos) (e::es) [] cpos) (mtE isStrM mm fo fs):=
 DE.of (lI PySem.F.plainAttrs_str slot hty hm ho.h ha.h hbase hfew hline hs Pj) λU H Q Nk=>Nk.elim λX9 μ G s h p=>⟨X9,μ,G,s,h,(c7.bind p).mono λd X0 G1 H1 x1 h1 p1 v rv=>by obtain⟨ty,p2⟩:=wm rv p1;exact⟨ty,X9,X0,G1,s.mono x1,h1,(c7.bind p2).mono λds WX G2 H2 x2 h2 p3 vs rvs=>⟨d,ds,WX,G2,rv.mono x2,rvs,h2,p3⟩⟩⟩
end
def aB(sep:Str)(l:List D):M D:=do
 let ss <-S1 (c5 l)
 if (ss.map (·.length)).sum+ss.length*sep.length<=16777216 then pure (.str (ZR sep ss))else M.stuck
def n9:D->List D->M D:=λx ds=>match x,ds with
 | .str sep, [.tup l]=>aB sep l
 | .str sep, [.ref r]=>do
   match <-K6 r with
   | .lst l=>aB sep l
   |_=>M.stuck
 |_,_=>M.stuck
section
theorem bZ:MtD X Z "str.join" n9:=by
 intro Ng s U H x xs v us Q I rx rvs Nk;obtain⟨d,ds,μ,G,rd,rl,hr,p⟩:=Nk;unfold n9 at p;split at p
 · rename_i sep l;rw[A2 rd]at rx;obtain⟨t,rfl⟩:=rx;obtain⟨v1,rfl,rv1⟩:=S2 rl;obtain⟨u,rfl,ru⟩:=Z1 rvs;unfold f9 at rv1;obtain⟨a,vs,rfl,q,Pf⟩:=rv1
   cases ru
   obtain⟨Nj,rv,tp,hz⟩:=I.tuple q;unfold aB at p;obtain⟨ss,es,p2⟩:=U5 p;split at p2
   case isFalse=>exact p2.elim
   rename_i hok;exact join_tuple tp (WD es Pf rv) hok λt' k=>⟨.str (ZR sep ss),H,I.tok k,⟨t',rfl⟩,c7.ok p2 hr _ (by unfold f9;rfl)⟩
 · rename_i sep r;rw[A2 rd]at rx;obtain⟨t,rfl⟩:=rx;obtain⟨v1,rfl,rv1⟩:=S2 rl;obtain⟨u,rfl,ru⟩:=Z1 rvs;unfold f9 at rv1;obtain⟨a,m,rfl⟩:=rv1
   cases ru
   obtain⟨o,g,p1⟩:=J8 p;have ro:=hr.obj r o a g m;rcases o with l|l|l|l
   ·
     obtain⟨vs,q,Pf⟩:=ro;obtain⟨Nj,rv,pl,hz⟩:=I.list (SqL.of q);unfold aB at p1;obtain⟨ss,es,p2⟩:=U5 p1;split at p2
     case isFalse=>exact p2.elim
     rename_i hok;exact join_list pl.isList (WD es Pf rv) hok λt' k=>⟨.str (ZR sep ss),H,I.tok k,⟨t',rfl⟩,c7.ok p2 hr _ (by unfold f9;rfl)⟩
   ·exact p1.elim
   ·exact p1.elim
   ·exact p1.elim
 ·exact p.elim
end
end DL
namespace W
open PySem PySem.Spec L2 DL
open PyProof.Rows hiding St
section
theorem eI:Wp (isStrM (.str z)) G R↔R () G:=j7
theorem Mv(e:G[r]? =some (.lst l))(hs:c5 l=some ss)(hok:(ss.map (·.length)).sum+ss.length*sep.length<=16777216):Wp (n9 (.str sep) [.ref r]) G Q↔Q (.str (ZR sep ss)) G:=by
 have h:n9 (.str sep) [.ref r]= (do
  match <-K6 r with
  | .lst l=>aB sep l
  |_=>M.stuck):=rfl
 rw[h];simp only[m6,S8,e,P0,aB,a8,hs,if_pos hok,j7]
end
end W
namespace DL
open PySem PySem.Spec L2
open PyProof.Rows hiding St
section
variable{X:Cx}{Z:XC}{μ:List Addr}{H:Hp}
variable{e t:Expr}{lo hi:Option Expr}{fa:Fe}{fl fh ft:Fo}{p2 pos:Pos}
end
end DL
namespace W
open PySem PySem.Spec L2 DL
open PyProof.Rows hiding St
section
end
end W
namespace DL
open PySem PySem.Spec L2
open PyProof.Rows hiding St
section
theorem Md(U:St)(H:Hp)(Q:VK)(h:v3 (wc X) Z (vC o o' fa fb fc) U H Q):lN (y8 (wc X) Z o) (y8 (wc X) Z o') (v3 (wc X) Z fa) (v3 (wc X) Z fb) (v3 (wc X) Z fc) U H Q:=by
 obtain⟨X9,μ,G,s,h,p⟩:=h;exact⟨X9,μ,G,s,h,(c7.bind p).mono λx X0 G1 H1 x1 h1 p1 v rv=>
  ⟨X9,X0,G1,s.mono x1,h1,(c7.bind p1).mono λy WX G2 H2 x2 h2 p2 u ru=>⟨x,y,WX,G2,rv.mono x2,ru,h2,(c7.bind p2).mono λz μ3 G3 H3 x3 h3 p3 w rw'=>by
   obtain⟨k,rfl,p4⟩:=oZ p3;refine⟨k,vA rw',?_⟩
   cases k with
   |true=>exact⟨X9,μ3,G3,s.mono (x1.trans (x2.trans x3)),h3,(c7.bind p4).mono λt μ4 G4 H4 x4 h4 p5 q rq=>⟨y,t,μ4,G4,ru.mono (x3.trans x4),rq,h4,p5⟩⟩
   |false=>exact c7.ok p4 h3 _ ofB⟩⟩⟩
theorem NQ(ho:OpD X Z (zY op) o)(ho':OpD X Z (zY op') o')(ha:DE X Z a fa)(hb:DE X Z b fb)(hc:DE X Z c fc)
 (hm:lastMarks [op,op'] [b,c]=false):DT X Z (.Compare a [op,op'] [b,c] pos) (fA (vC o o' fa fb fc)):=
 DT.of (BZ ho.h ho'.h ha.h hb.h hc.h hm) λU H Q Nk=>Nk.elim λX9 μ G s h p=>Md U H _ ⟨X9,μ,G,s,h,(c7.bind p).mono λx X0 G1 H1 x' h1 p1 v rv=>by
  cases x with
  |bl k'=>unfold f9 at rv;exact⟨k',rv,c7.ok p1 h1⟩
  |_=>exact p1.elim⟩
end
section
end
end DL
namespace W
open PySem PySem.Spec L2 DL
open PyProof.Rows hiding St
end W
namespace DL
open PySem PySem.Spec L2
open PyProof.Rows hiding St
section
variable{X:Cx}{Z:XC}{o e:Expr}{es:List Expr}{fo:Fe}{fs:DSt->M (List D)}{name:Str}{id:String}{mm:D->List D->M D}{apos cpos:Pos}
end
section
end
section
end
section
end
end DL
namespace W
open PySem PySem.Spec L2 DL
open PyProof.Rows hiding St
end W
namespace DL
open PySem PySem.Spec L2
open PyProof.Rows hiding St
section
end
section
end
end DL
namespace W
open PySem PySem.Spec L2 DL
open PyProof.Rows hiding St
end W
namespace DL
open PySem PySem.Spec L2
open PyProof.Rows hiding St
theorem b8(e:m G=some (.ok a,G'))(q:Q a G'):Wp m G Q:=⟨a,G',e,q⟩
def PB(Q:DPP):Fl->DH->Prop
 | .nx _,G=>Q .non G
 | .rt d,G=>Q d G
 |_,_=>False
section
variable{m:Nat}{f S g:Fs}{ds as:List D}{d:D}{G G':DH}{Q:DPP}{P A:Fl->DH->Prop}{U X2:DSt}{e:Fe}
theorem t7(w:Wp (f (ds.map some++yo (m-ds.length) none)) G (PB Q)):Wp (v6 m f ds) G Q:=
 qV.mpr (w.mono λfl G1 h=>match fl,h with
  | .nx _,h=>h
  | .rt _,h=>h
  | .bk _,h=>h.elim
  | .ct _,h=>h.elim)
theorem o7(q:Q d G):PB Q (.rt d) G:=q
theorem gB(e:f (ds.map some++yo (m-ds.length) none) G=some (.ok (.rt d),G'))(q:Q d G'):Wp (v6 m f ds) G Q:=t7 (b8 e q)
theorem w6(e:S U G=some (.ok (.nx X2),G'))(w:Wp (g X2) G' P):Wp (seqS S g U) G P:=d9.mpr (b8 e w)
end
section
variable{a b c:Fe}{d x y z:D}{G G1 G2:DH}{R:List D->DH->Prop}{U:DSt}
theorem J3(w:Wp (t U) G λk G1=>(k=true->Wp (f U) G1 P)/\(k=false->Wp (g U) G1 P)):Wp (ifS t f g U) G P:=
 bV.mpr (w.mono λk G1 h=>by cases k with|true=>exact h.1 rfl|false=>exact h.2 rfl)
theorem D6(w:Wp (t U) G λk G1=>(k=true->Wp (u U) G1 B)/\(k=false->B false G1)):Wp (u4 t u U) G B:=
 fR.mpr (w.mono λk G1 h=>by cases k with|true=>exact h.1 rfl|false=>exact h.2 rfl)
theorem S4(w:Wp (t U) G λk G1=>(k=true->B true G1)/\(k=false->Wp (u U) G1 B)):Wp (orT t u U) G B:=
 tY.mpr (w.mono λk G1 h=>by cases k with|true=>exact h.1 rfl|false=>exact h.2 rfl)
theorem aH{S:DSt->Prop}{R:DPP}(hS:S (U.set i (some d)))(w:Wp (a (U.set i (some d))) G R):Wp (E1 i d U) G λWY G1=>G1=G/\S WY/\Wp (Z6 WY) G λb G2=>b=true/\G2=G/\Wp (a WY) G R:=
 R8.mpr ⟨rfl,hS,W.wp_trueT.mpr ⟨rfl,rfl,w⟩⟩
theorem nV{g:Fg}(e:fs U G=some (.ok [.int j],G1))(h0:0<=j)(h1:j<=10000)(w:Wp (M9 g t a (λ_=>true) (v5 0 j.toNat) (Z2 caps U)) G1 λys G2=>Q (.ref G2.length) (G2++[.lst ys])):Wp (T5 (O7 fs) caps g t a U) G Q:=by refine W.wp_comp.mpr (W.rng1.mpr (b8 e ((W.rng1_int ⟨by lia,by lia⟩).mpr ⟨?_,w⟩)));show (v5 0 j.toNat).length<=ze;unfold v5;rw[zn,jE];exact zw (by lia) (show 10000<=ze by decide)
theorem IS(w:Wp (t U) G λk G1=>(k=true->Wp (f U) G1 A)/\(k=false->Wp (g U) G1 A))(k:∀fl G1,A fl G1->P fl G1):Wp (ifS t f g U) G P:=(J3 w).mono k
theorem v7(w:Wp (a U) G λd G1=>P (.nx (U.set i (some d))) G1):Wp (J1 a (E1 i) U) G P:=MB.mpr (w.mono λ_ _ h=>R8.mpr h)
theorem o6(w:Wp (a U) G λd G1=>P (.rt d) G1):Wp (retS a U) G P:=iQ.mpr w
theorem o4(e:fs U G=some (.ok as,G1))(h:as.length=n)(w:Wp (F as) G1 Q):Wp (L0 (fnX n F) fs U) G Q:=pF.mpr (b8 e (Q9.mpr ⟨h,w⟩))
theorem O6(e:fs U G=some (.ok as,G1))(w:Wp (F as) G1 Q):Wp (L0 F fs U) G Q:=pF.mpr (b8 e w)
theorem J5(w:Wp (fs U) G λas G1=>Wp (F as) G1 Q):Wp (L0 F fs U) G Q:=pF.mpr w
theorem D4(ea:a U G=some (.ok x,G1))(eb:b U G1=some (.ok y,G2))(w:Wp (o x y) G2 Q):Wp (binE o a b U) G Q:=NK.mpr (b8 ea (b8 eb w))
theorem bin_w(w:Wp (a U) G λx G1=>Wp (b U) G1 λy G2=>Wp (o x y) G2 Q):Wp (binE o a b U) G Q:=NK.mpr w
theorem u0(e:a U G=some (.ok x,G1))(w:Wp (fs U) G1 λxs G2=>R (x::xs) G2):Wp (y0 a fs U) G R:=GJ.mpr (b8 e w)
theorem j9(w:Wp (a U) G λx G1=>Wp (fs U) G1 λxs G2=>R (x::xs) G2):Wp (y0 a fs U) G R:=GJ.mpr w
theorem m5(w:Wp (a U) G λx G1=>∃k,x= .bl k/\B k G1):Wp (fA a U) G B:=PP.mpr w
end
def FH(K:zd)(x:Str)(st:Stmt):Prop:=∃(f:Addr) (od an:Option Addr) (sl:Array (Option zg)) (oc kV dc pm cd ct:zg),jF K zJ x=some (some (.ref f))/\
 K.lookup f=some ⟨oc,od,.func (yq x x (L6 st) (N5 st) (o5 st) .none kV dc pm an cd ct),sl⟩/\Zk K cd x=true/\jZ K (.ref f)=true
section
variable{K:zd}{h:Heap}{mg:Str->Option zg}{x:Str}{st:Stmt}
theorem FH.of{oc kV dc pm cd ct:zg}(a:jF K zJ x=some (some (.ref f)))
 (l:K.lookup f=some ⟨oc,od,.func (yq x x (L6 st) (N5 st) (o5 st) .none kV dc pm an cd ct),sl⟩) (e:Zk K cd x=true) (k:jZ K (.ref f)=true):FH K x st:=
 ⟨f,od,an,sl,oc,kV,dc,pm,cd,ct,a,l,e,k⟩
variable{ps:List Str}
theorem FH.ff(H:FH K x st)(X:K.In h)(G:h.Ns zJ mg)(b:∀kV doc pm an Pb ct us,us.length=ps.length->bindArgs (yq x x (L6 st) (N5 st) (o5 st) .none kV doc pm an Pb ct) ⟨us, []⟩=pure (ps.zip us)):∃f fd,FF K mg x st ps f fd:=by obtain⟨f,od,an,sl,oc,kV,dc,pm,cd,ct,a,l,e,k⟩:=H;exact⟨_,_,ED l e k,(ED l e k).binds b,yj X G a⟩
theorem sR(h:us.length=n+1):∃a t,us=a::t/\t.length=n:=by
 rcases us with _|⟨a,t⟩
 ·cases h
 ·exact⟨a,t,rfl,ZJ h⟩
theorem BLs.of(X:K.In h)(G:h.Ns zJ mg)(z:∀b∈bltL,jF K zJ b=some none):BLs mg:=⟨λb hb=>JG X G (z b hb)⟩
end
abbrev OU(h:Heap)(z TI TO:Addr)(f0:zg)(b:Bool):Prop:=
 h.get? z=some {cls:=.type "zip",dict:=none,data:=.fields #[f0,.bool b,.bool false,.ref TI,.ref TO],slots:= #[]}
section
variable{prog:zF}{w:zO}{A:zV}{E:VSP}{s:zm}{k1 k2:Bool}{i:Nat}{z TI TO i1 i2 l1 l2 T:Addr}{xs ys:Array zg}{b:Bool}
structure ZSt(k1 k2:Bool)(z TI TO i1 i2 l1 l2:Addr)(xs ys:Array zg)(n0 i:Nat)(h:Heap):Prop where
 hz:(Zy h z TI TO .none/\∃a b,yD h TO a b)\/∃T b,OU h z TI TO (xJ ((n0+T:Nat):Int)) b/\T<i
 hTI:yD h TI (.ref i1) (.ref i2)
 h1:SI k1 h i1 l1 i
 h2:SI k2 h i2 l2 i
 c1:SC k1 h l1 xs
 c2:SC k2 h l2 ys
end
section
variable{H:Hp}{n0:Nat}{ws:List (V×V)}
end
section
variable{X:Cx}{Z:XC}{a b:Expr}{fs:DSt->M (List D)}{p1 p2 pos1 pos2:Pos}
end
end DL
namespace TS
open PySem PyProof.Rows
section
variable{prog:zF}{w:zO}{A:zV}{E:VSP}{s:zm}
def kz(p:jP):Int:=numOf p.1
def isI(p:jP):Prop:=∃n t,p.1= .int n t
end
def leK(x y:jP):Prop:=kz x<=kz y
def Srt(l:List jP):Prop:=l.Pairwise leK
theorem Srt.app{a b:List jP}(ha:Srt a)(hb:Srt b)(h:∀x∈a,∀y∈b,leK x y):Srt (a++b):=jW.mpr ⟨ha,hb,h⟩
theorem Srt.left{a b:List jP}(h:Srt (a++b)):Srt a:=(jW.mp h).1
theorem Srt.right{a b:List jP}(h:Srt (a++b)):Srt b:=(jW.mp h).2.1
theorem Srt.mid{a b:List jP}(h:Srt (a++b)):∀x∈a,∀y∈b,leK x y:=(jW.mp h).2.2
structure MI(L out A B:List jP):Prop where
 perm:(out++(A++B)).Perm L
 so:Srt out
 oa:∀x∈out,∀y∈A,leK x y
 ob:∀x∈out,∀y∈B,leK x y
 sa:Srt A
 sb:Srt B
theorem MI.ak{L out C A B:List jP}(h:MI L out (C++A) B)(k:∀c∈C,∀y∈B,leK c y):MI L (out++C) A B where
 perm:=by have:=h.perm;simp only[zu]at this ⊢;exact this
 so:=h.so.app h.sa.left λx hx y hy=>h.oa x hx y (by simp[hy])
 oa:=λx hx y hy=>by
  rcases jw.mp hx with hx|hx
  ·exact h.oa x hx y (by simp[hy])
  ·exact h.sa.mid x hx y hy
 ob:=λx hx y hy=>by
  rcases jw.mp hx with hx|hx
  ·exact h.ob x hx y hy
  ·exact k x hx y hy
 sa:=h.sa.right
 sb:=h.sb
theorem MI.bk{L out C A B:List jP}(h:MI L out A (C++B))(k:∀c∈C,∀x∈A,leK c x):MI L (out++C) A B where
 perm:=by refine List.Perm.trans ?_ h.perm;rw[zu];refine XW _ ?_;rw[<-zu,<-zu];exact XL _ JM
 so:=h.so.app h.sb.left λx hx y hy=>h.ob x hx y (by simp[hy])
 oa:=λx hx y hy=>by
  rcases jw.mp hx with hx|hx
  ·exact h.oa x hx y hy
  ·exact k x hx y hy
 ob:=λx hx y hy=>by
  rcases jw.mp hx with hx|hx
  ·exact h.ob x hx y (by simp[hy])
  ·exact h.sb.mid x hx y hy
 sa:=h.sa
 sb:=h.sb.right
structure MJ(L A B S:List jP):Prop where
 perm:(A++(B++S)).Perm L
 ss:Srt S
 as:∀x∈A,∀y∈S,leK x y
 bs:∀x∈B,∀y∈S,leK x y
 sa:Srt A
 sb:Srt B
theorem MJ.ak{L A C B S:List jP}(h:MJ L (A++C) B S)(k:∀b∈B,∀c∈C,leK b c):MJ L A B (C++S) where
 perm:=by refine List.Perm.trans ?_ h.perm;rw[zu];refine XW _ ?_;rw[<-zu,<-zu];exact XL _ JM
 ss:=h.sa.right.app h.ss λx hx y hy=>h.as x (by simp[hx]) y hy
 as:=λx hx y hy=>by
  rcases jw.mp hy with hy|hy
  ·exact h.sa.mid x hx y hy
  ·exact h.as x (by simp[hx]) y hy
 bs:=λx hx y hy=>by
  rcases jw.mp hy with hy|hy
  ·exact k x hx y hy
  ·exact h.bs x hx y hy
 sa:=h.sa.left
 sb:=h.sb
theorem MJ.bk{L A B C S:List jP}(h:MJ L A (B++C) S)(k:∀a∈A,∀c∈C,leK a c):MJ L A B (C++S) where
 perm:=by have:=h.perm;simp only[zu]at this ⊢;exact this
 ss:=h.sb.right.app h.ss λx hx y hy=>h.bs x (by simp[hx]) y hy
 as:=λx hx y hy=>by
  rcases jw.mp hy with hy|hy
  ·exact k x hx y hy
  ·exact h.as x hx y hy
 bs:=λx hx y hy=>by
  rcases jw.mp hy with hy|hy
  ·exact h.sb.mid x hx y hy
  ·exact h.bs x (by simp[hx]) y hy
 sa:=h.sa
 sb:=h.sb.left
theorem mO(a:Array jP)(i j:Nat):(a.extract i j).toList= (a.toList.drop i).take (j-i):=by simp
def g7(a:Array jP):Prop:=∀p∈a.toList,isI p
theorem g7.at{a:Array jP}(h:g7 a){i:Nat}{p:jP}(e:a[i]? =some p):isI p:=h p (by rw[<-yh]at e;exact yJ e)
theorem g7.get{a:Array jP}(h:g7 a){i:Nat}(hi:i<a.size):∃p,a[i]? =some p/\isI p:=⟨_,yf hi,h.at (yf hi)⟩
def Same(st Nv:Zx):Prop:=xh Nv=xh st/\yr Nv=yr st/\ZH Nv=ZH st/\YM Nv=YM st
theorem Same.refl{st:Zx}:Same st st:=⟨rfl,rfl,rfl,rfl⟩
theorem Same.trans{a b c:Zx}(h:Same a b)(k:Same b c):Same a c:=⟨k.1.trans h.1,k.2.1.trans h.2.1,k.2.2.1.trans h.2.2.1,k.2.2.2.trans h.2.2.2⟩
structure LI(a b:Array jP)(out:Array jP)(ia ib:Nat):Prop where
 mi:MI (a.toList++b.toList) out.toList (a.toList.drop ia) (b.toList.drop ib)
 ha:ia+1<a.size
 hb:ib<b.size
 sz:out.size=ia+ib
section
variable{a b out:Array jP}{ia ib:Nat}
theorem iR{c:Array jP}{i k:Nat}:c.toList.drop i= (c.extract i (i+k)).toList++c.toList.drop (i+k):=by rw[mO,xQ,<-XV,jS]
theorem MI.ga{k:Nat}(h:MI (a.toList++b.toList) out.toList (a.toList.drop ia) (b.toList.drop ib))(q:∀c∈(a.extract ia (ia+k)).toList,∀y∈b.toList.drop ib,leK c y):MI (a.toList++b.toList) (out++a.extract ia (ia+k)).toList (a.toList.drop (ia+k)) (b.toList.drop ib):=by rw[iR (k:=k)]at h;rw[jy];exact h.ak q
end
section
variable{prog:zF}{w:zO}{A:zV}{E:VSP}{s:zm}
end
section
variable{prog:zF}{w:zO}{A:zV}{E:VSP}{s:zm}
end
structure HI(a b:Array jP)(out:Array jP)(na nb:Nat):Prop where
 mj:MJ (a.toList++b.toList) (a.toList.take na) (b.toList.take nb) out.toList.reverse
 ha:0<na
 hb:1<nb
 la:na<=a.size
 lb:nb<=b.size
 sz:out.size+na+nb=a.size+b.size
section
variable{a b out:Array jP}{na nb:Nat}
theorem take_add{c:Array jP}{k n:Nat}(h:k<=n):c.toList.take n=c.toList.take k++(c.extract k n).toList:=by
 rw[mO];have:n=k+(n-k):=by lia
 conv=>lhs;rw[this]
 rw[List.take_add]
theorem Bk(o c:Array jP):(o++c.reverse).toList.reverse=c.toList++o.toList.reverse:=by rw[jy,Array.toList_reverse,List.reverse_append,List.reverse_reverse]
theorem MJ.ga{k:Nat}(h:MJ (a.toList++b.toList) (a.toList.take na) (b.toList.take nb) out.toList.reverse)(hk:k<=na)(q:∀y∈b.toList.take nb,∀c∈(a.extract k na).toList,leK y c):MJ (a.toList++b.toList) (a.toList.take k) (b.toList.take nb) (out++(a.extract k na).reverse).toList.reverse:=by rw[take_add hk]at h;rw[Bk];exact h.ak q
end
section
variable{prog:zF}{w:zO}{A:zV}{E:VSP}{s:zm}
end
section
variable{prog:zF}{w:zO}{A:zV}{E:VSP}{s:zm}
structure Aft(st Nv:Zx)(l:List jP)(p:Array (Nat×Nat×Nat)):Prop where
 kind:xh Nv=XA
 arr:(yr Nv).toList=l
 pend:ZH Nv=p
 fail:YM Nv=none
end
def ND(a:Array jP):Prop:=(a.toList.map kz).Nodup
theorem tE{a:Array jP}{i:Nat}{p:jP}(e:a[i]? =some p):K a i=kz p:=by unfold K;rw[e];rfl
theorem ND.ne{a:Array jP}(h:ND a){i j:Nat}(hi:i<a.size)(hj:j<a.size)(ne:i≠j):K a i≠K a j:=by rw[tE (yf hi),tE (yf hj)];intro e;have:=Xi (i:=i) (j:=j) (h₀:=by simpa using hi) (h₁:=by simpa using hj) h;simp only[List.getElem_map,Array.getElem_toList]at this;exact ne (this.mp e)
theorem g7.perm{a b:Array jP}(h:g7 a)(p:b.Perm a):g7 b:=λx hx=>h x ((XM.mp p).mem_iff.mp hx)
theorem ND.perm{a b:Array jP}(h:ND a)(p:b.Perm a):ND b:=((XM.mp p).map kz).nodup_iff.mpr h
def Asc(a:Array jP)(lo m:Nat):Prop:=∀i,i+1<m->K a (lo+i)<K a (lo+i+1)
theorem Asc.lt{a:Array jP}{lo m:Nat}(h:Asc a lo m):∀ {j i:Nat},i<j->j<m->K a (lo+i)<K a (lo+j)
 |0,i,hij,_=>by lia
 |j+1,i,hij,hj=>by
   have h1:=h j hj;by_cases e:i=j
   ·subst e;exact h1
   ·exact JQ (h.lt (show i<j by lia) (by lia)) h1
theorem Asc.snoc{a:Array jP}{lo m:Nat}(h:Asc a lo m)(k:K a (lo+m-1)<K a (lo+m))(hm:1<=m):Asc a lo (m+1):=λi hi=>by
 by_cases e:i+1<m
 ·exact h i e
 · have:i=m-1:=by lia
   subst this;rw[show lo+(m-1)=lo+m-1 by lia,show lo+m-1+1=lo+m by lia];exact k
structure Run(lo:Nat)(st Nv:Zx):Prop where
 kind:xh Nv=XA
 pend:ZH Nv=ZH st
 fail:YM Nv=none
 perm:(yr Nv).Perm (yr st)
 low:∀i,i<lo->(yr Nv)[i]? = (yr st)[i]?
theorem Run.refl{lo:Nat}{st:Zx}(hk:xh st=XA)(hf:YM st=none):Run lo st st:=⟨hk,rfl,hf,.refl _,λ_ _=>rfl⟩
theorem Run.size{lo:Nat}{st Nv:Zx}(h:Run lo st Nv):(yr Nv).size= (yr st).size:=h.perm.size_eq
section
variable{prog:zF}{w:zO}{A:zV}{E:VSP}{s:zm}
theorem lt_at{st:Zx}{i j:Nat}{Q:Option Bool->Zx->Prop}(hk:xh st=XA)(ha:g7 (yr st))(hi:i<(yr st).size)(hj:j<(yr st).size)(h:Q (some (decide (K (yr st) i<K (yr st) j))) st):wpS (zD prog w) A E s (ltAt' i j) Q st:=by
 obtain⟨p,e1,n,t,hp⟩:=ha.get hi;obtain⟨q,e2,m,u,hq⟩:=ha.get hj;obtain⟨p1,p2⟩:=p;obtain⟨q1,q2⟩:=q
 cases hp
 cases hq
 rw[tE e1,tE e2]at h;exact wpS_ltAt hk e1 e2 h
end
theorem Run.trans{lo:Nat}{a b c:Zx}(h:Run lo a b)(k:Run lo b c):Run lo a c:=⟨k.kind,k.pend.trans h.pend,k.fail,k.perm.trans h.perm,λi hi=>(k.low i hi).trans (h.low i hi)⟩
theorem Kq{a:Array jP}{lo k l:Nat}(nd:ND a)(hs:lo+k<a.size)(h:Asc a lo k)(hl:l<=k)(h1:∀i,i<l->K a (lo+i)<=K a (lo+k))(h2:∀i,l<=i->i<k->K a (lo+k)<K a (lo+i)):Asc (bubble a (lo+k) (lo+k-(lo+l))) lo (k+1):=by
 have hd:lo+k-(lo+l)=k-l:=by lia
 rw[hd];have hK:=λj=>K_bubble (xs:=a) (src:=lo+k) (d:=k-l) hs (by lia) j;intro i hi;rw[hK,hK];have e:lo+k-(k-l)=lo+l:=by lia
 rw[e];by_cases c1:lo+i=lo+l
 · rw[if_pos c1,if_neg (by lia),if_pos (by lia)];have:i=l:=by lia
   subst this;rw[show lo+i+1-1=lo+i by lia];exact h2 i (zk _) (by lia)
 · rw[if_neg c1];by_cases c2:lo+i+1=lo+l
   ·rw[if_pos c2,if_neg (by lia)];have:=h1 i (by lia);have:=nd.ne (i:=lo+i) (j:=lo+k) (by lia) (by lia) (by lia);lia
   · rw[if_neg c2];by_cases c3:lo+l<lo+i/\lo+i<=lo+k
     ·rw[if_pos c3,if_pos (by lia)];have:=h (i-1) (by lia);rw[show lo+(i-1)=lo+i-1 by lia,show lo+i-1+1=lo+i by lia]at this;rw[show lo+i+1-1=lo+i by lia];exact this
     ·rw[if_neg c3,if_neg (by lia)];exact h i (by lia)
section
variable{prog:zF}{w:zO}{A:zV}{E:VSP}{s:zm}
theorem bin_w{st:Zx}{lo n ok:Nat}{Q:Bool->Zx->Prop}(hk:xh st=XA)(hf:YM st=none)(ha:g7 (yr st))(nd:ND (yr st))(h1:1<=ok)(hn:ok<=n)(hs:lo+n<=(yr st).size)(h0:Asc (yr st) lo ok)
 (h:∀Nv,Run lo st Nv->Asc (yr Nv) lo n->Q true Nv):wpS (zD prog w) A E s (binarySort' lo n ok) Q st:=by
 unfold binarySort';refine wpS_bind (wpS_mono (wpS_forRange (I:=λk c Nv=>c= (none,())/\Run lo st Nv/\ok<=k/\k<=n/\Asc (yr Nv) lo k) (Q:=λc Nv=>c= (none,())/\Run lo st Nv/\Asc (yr Nv) lo n) ?_ ?_ ⟨rfl,.refl hk hf,by lia,by lia,by rw[Nat.max_eq_left h1];exact h0⟩) ?_)
 · rintro k c st1 _ hx ⟨rfl,hR,g1,g2,g3⟩;dsimp only;have hz:=hR.size;have ha1:=ha.perm hR.perm;have nd1:=nd.perm hR.perm;refine wpS_bind (wpS_mono (wpS_forRange (I:=λx c Nv=>Nv=st1/\∃l r,c= (none,l,r)/\l<=r/\r<=k/\r-l+x<=k/\(∀i,i<l->K (yr st1) (lo+i)<=K (yr st1) (lo+k))/\∀i,r<=i->i<k->K (yr st1) (lo+k)<K (yr st1) (lo+i)) (Q:=λc Nv=>Nv=st1/\∃l,c= (none,l,l)/\l<=k/\(∀i,i<l->K (yr st1) (lo+i)<=K (yr st1) (lo+k))/\∀i,l<=i->i<k->K (yr st1) (lo+k)<K (yr st1) (lo+i)) ?_ ?_ ⟨rfl,0,k,rfl,by lia,by lia,by lia,λi hi=>by lia,λi a b=>by lia⟩) ?_)
   · rintro x c st2 _ hx2 ⟨rfl,l,r,rfl,q1,q2,q3,q4,q5⟩;dsimp only;by_cases hl:l>=r
     · rw[if_pos hl];have:l=r:=by lia
       subst this;exact JJ ⟨rfl,l,rfl,q2,q4,q5⟩
     · rw[if_neg hl];refine wpS_bind (lt_at hR.kind ha1 (by lia) (by lia) ?_);dsimp only;have hm1:l<=(l+r) / 2:=by lia
       have hm2:(l+r) / 2<r:=by lia
       generalize (l+r) / 2=m at hm1 hm2;by_cases Nw:K (yr st2) (lo+k)<K (yr st2) (lo+m)
       · rw[if_pos (decide_eq_true Nw)];refine JJ ⟨rfl,l,m,rfl,by lia,by lia,by lia,q4,λi a b=>?_⟩;by_cases e:i=m
         ·subst e;exact Nw
         ·exact JQ Nw (g3.lt (show m<i by lia) b)
       · rw[if_neg (by simpa using Nw)];refine JJ ⟨rfl,m+1,r,rfl,by lia,by lia,by lia,λi a=>?_,q5⟩;by_cases e:i=m
         ·subst e;lia
         ·have:=g3.lt (show i<m by lia) (by lia);lia
   · rintro c st2 ⟨rfl,l,r,rfl,q1,q2,q3,q4,q5⟩;have:l=r:=by rw[Nat.zero_max]at q3;lia
     subst this;exact⟨rfl,l,rfl,q2,q4,q5⟩
   ·rintro c st2 ⟨rfl,l,rfl,q2,q4,q5⟩;dsimp only;refine wpS_bind ?_;show wpS _ _ _ _ (moveDown' (lo+k) (lo+l)) _ _;rw[moveDown'_eq];refine wpS_modify (JJ ⟨rfl,hR.trans ⟨hR.kind,rfl,hR.fail,bubble_perm _ _ _,λi hi=>?_⟩,by lia,by lia,Kq nd1 (by lia) g3 q2 q4 q5⟩);show (bubble (yr st2) (lo+k) (lo+k-(lo+l)))[i]? =_;rw[getElem?_bubble (by lia) _ (by lia),if_neg (by lia),if_neg (by lia)]
 ·rintro c st1 ⟨rfl,hR,g1,g2,g3⟩;rw[Nat.max_eq_right (by lia)]at g3;exact⟨rfl,hR,g3⟩
 ·rintro c st1 ⟨rfl,hR,g3⟩;exact JJ (h st1 hR g3)
end
def lay:Nat->List (List jP)->List Nat->List (Nat×Nat×Nat)
 |o,r::rs,p::ps=>(o,r.length,p)::lay (o+r.length) rs ps
 |_,_,_=> []
theorem RN:∀ {rs1:List (List jP)} {ps1:List Nat} {rs2:List (List jP)} {ps2:List Nat} {o:Nat},rs1.length=ps1.length->lay o (rs1++rs2) (ps1++ps2)=lay o rs1 ps1++lay (o+rs1.flatten.length) rs2 ps2
 |[], [],_,_,o,_=>by simp[lay]
 |[],_::_,_,_,_,h=>by cases h
 |_::_, [],_,_,_,h=>by cases h
 |r::rs1,p::ps1,rs2,ps2,o,h=>by show (o,r.length,p)::lay (o+r.length) (rs1++rs2) (ps1++ps2)= (o,r.length,p)::(lay (o+r.length) rs1 ps1++_);rw[RN (ZJ h),List.flatten_cons,za,Nat.add_assoc]
structure GI(a0:List jP)(st:Zx)(rs:List (List jP))(ps:List Nat)(T:List jP):Prop where
 kind:xh st=XA
 fail:YM st=none
 arr:(yr st).toList=rs.flatten++T
 perm:(yr st).toList.Perm a0
 len:rs.length=ps.length
 pend:ZH st= (lay 0 rs ps).toArray
 ok:∀r∈rs,0<r.length/\Srt r
section
variable{prog:zF}{w:zO}{A:zV}{E:VSP}{s:zm}
end
theorem GI.push{a0:List jP}{st:Zx}{rs:List (List jP)}{ps:List Nat}{C T:List jP}{lo n:Nat}(g:GI a0 st rs ps (C++T))(hC:0<C.length)(sC:Srt C)(e:rs.flatten.length=lo)(en:C.length=n):GI a0 (setPending st ((ZH st).push (lo,n,0))) (rs++[C]) (ps++[0]) T:=by
 refine⟨g.kind,g.fail,?_,g.perm,by rw[za,za,g.len];rfl,?_,λr hr=>?_⟩
 ·show (yr st).toList=_;rw[g.arr];simp
 ·show (ZH st).push (lo,n,0)=_;rw[g.pend,RN g.len,List.push_toArray,Nat.zero_add,e];subst en;rfl
 · rcases jw.mp hr with hr|hr
   ·exact g.ok r hr
   ·rw[zR.mp hr];exact⟨hC,sC⟩
section
variable{prog:zF}{w:zO}{A:zV}{E:VSP}{s:zm}
end
section
variable{prog:zF}{w:zO}{A:zV}{E:VSP}{s:zm}
end
end TS
namespace DL
open PySem PySem.Spec L2
open PyProof.Rows hiding St
section
variable{prog:zF}{w:zO}{A:zV}{E:VSP}{s:zm}{T:String}{r d:Addr}{n:Nat}{P:Nat->zg->Prop}{OK:Heap->Prop}{Q:VSP}
end
section
variable{X:Cx}{Z:XC}{c:Wc}{μ:List Addr}{H:Hp}{G:DH}
end
def FP(Nz:Option Int)(old:Array zg):Prop:=match Nz with
 |none=>old= #[]
 |some b=>∃t t',old= #[.int b t,.int b t']
def LM(r:Option Int)(v:zg):Prop:=match r with
 |none=>v= .none
 |some b=>∃t,v= .int b t
def OB(a:Option Int)(n:Int):Option Int:=match a with
 |none=>some n
 |some b=>some (if n>b then n else b)
def B8(l:List Int):Option Int:=l.foldl OB none
def rN(a:Option Int)(n:Int):Option Int:=match a with
 |none=>some n
 |some b=>some (if n<b then n else b)
section
variable{prog:zF}{w:zO}{A:zV}{E:VSP}
theorem QV{a b:Int}{t t':Tok}(h:Q (.bool (decide (a>b))) s):zv (zD prog w) A (Jp .Gt (.int a t) (.int b t')) Q E s:=richCompare_gives (op:=.Gt) (Xk _ _ t) (Xk _ _ t') F.slot_int_gt F.entry_int_gt (F.args_int_gt_2 _ _) (gives_int_gt _ _ t t') (λx=>nomatch x) h
theorem Kj{a b:Int}{t t':Tok}(h:Q (.bool (decide (a<b))) s):zv (zD prog w) A (Jp .Lt (.int a t) (.int b t')) Q E s:=richCompare_gives (op:=.Lt) (Xk _ _ t) (Xk _ _ t') F.slot_int_lt F.entry_int_lt (F.args_int_lt_2 _ _) (gives_int_lt _ _ t t') (λx=>nomatch x) h
end
def UD(d:D):M (List Int):=match d with
 | .ref r=>(K6 r >>= listOf) >>= λl=>S1 (V2 l)
 |_=>M.stuck
section
theorem PK:∀ {vs} {ns},vs.length=ns.length->(∀i u,vs[i]? =some u->∃t,u=Value.int (ns.getD i 0) t)->IntsAre vs ns
 |[], [],_,_=>.nil
 |v::vs,n::ns,e,h=>by obtain⟨t,rfl⟩:=h 0 v rfl;exact .cons _ t (PK (ZJ e) λi u hu=>by simpa using h (i+1) u (by simpa using hu))
theorem vc{f:List Int->M α}{K:α->List Addr->DH->Hp->Prop}(h:o8 c μ G H)(rv:f9 c μ H d v)(p:c7 c Z μ H ((UD d >>= f) G) K):
 ∃l ns a vs,v= .ref a/\m9 c μ H l vs/\SqL c.K H a vs/\V2 l=some ns/\c7 c Z μ H (f ns G) K:=by
 obtain⟨r,rfl⟩:∃r,d= .ref r:=match d,p with
  | .ref r,_=>⟨r,rfl⟩
 obtain⟨ns,⟨l,a,vs,e1,e2,e3,e4⟩,q⟩:∃ns,(∃l a vs,v= .ref a/\m9 c μ H l vs/\SqL c.K H a vs/\V2 l=some ns)/\c7 c Z μ H (f ns G) K:=by
  have p':c7 c Z μ H (((K6 r >>= listOf) >>= λl=>S1 (V2 l) >>= f) G) K:=by rw[<-M.bind_assoc];exact p
  obtain⟨l,a,vs,e1,e2,e3,p2⟩:=oE h rv p';obtain⟨ns,e4,p3⟩:=U5 p2;exact⟨ns,⟨l,a,vs,e1,e2,e3,e4⟩,p3⟩
 exact⟨l,ns,a,vs,e1,e2,e3,e4,q⟩
end
section
end
structure L9(X:Cx)(e:Expr)(k:Int):Prop where
 h:PE X e (tC (.int k))
section
variable{X:Cx}{Z:XC}{pos:Pos}{e f:Expr}{i j k:Int}
theorem Dx{m pos}:L9 X (.Constant (.int i) m pos) i:=⟨MM⟩
theorem MP(he:L9 X e i)(hf:L9 X f j)(hc:QA i j)(hk:i ^ j.toNat=k):L9 X (.BinOp e .Pow f pos) k:=⟨by
 subst hk;exact PE.mono (dG uN he.h hf.h) λU H Q q=>⟨i,j,rfl,rfl,hc,q⟩⟩
theorem QQ(he:L9 X e i)(hf:L9 X f j)(hk:i-j=k):L9 X (.BinOp e .Sub f pos) k:=⟨by
 subst hk;exact PE.mono (dG rM he.h hf.h) λU H Q q=>⟨i,j,rfl,rfl,q⟩⟩
end
end DL
namespace DL
open PySem PySem.W
open PyProof.Rows hiding St
structure WO(lt:Nat->Nat->Bool):Prop where
 tr:∀i j k,lt j i=false->lt k j=false->lt k i=false
 as:∀i j,lt i j=true->lt j i=false
section
def dH{α:Type}(lt:Nat->Nat->Bool):KasT α->α
 | .ret a=>a
 | .ask i j k=>dH lt (k (lt i j))
theorem tOk.run:∀t,tOk lt n t Q->tOk lt n t (λa=>a=dH lt t/\Q a)
 | .ret a,h=>⟨rfl,h⟩
 | .ask i j k,h=>⟨h.1,h.2.1,tOk.run (k (lt i j)) h.2.2⟩
theorem tOk.is:∀t,tOk lt n t Q->Q (dH lt t)
 | .ret a,h=>h
 | .ask i j k,h=>tOk.is (k (lt i j)) h.2.2
end
end DL
namespace DL
open PySem PySem.Spec L2
open PyProof.Rows hiding St
section
variable{X:Cx}{Ng:PNS}{U:St}{H:Hp}{s:zm}
end
section
variable{prog:zF}{w:zO}{A:zV}{E:VSP}{s:zm}{C:Bool->zm->Prop}
end
section
variable{X:Cx}{Z:XC}{Ng:PNS}{U:St}{H:Hp}{s:zm}{F:List D->M D}{k:Nat}{f:Addr}{fd:xg}{ps:List Str}{μ:List Addr}{G:DH}
end
section
variable{X:Cx}{Z:XC}{e:Expr}{fe:Fe}{p pf kp pos:Pos}{x:Str}{F:List D->M D}
end
section
variable{prog:zF}{w:zO}{A:zV}{E:VSP}{s:zm}
end
section
variable{X:Cx}{Z:XC}{es:List Expr}{pos:Pos}
end
section
variable{X:Cx}{Z:XC}
def SE(i n:Nat)(tab:Str->Option (List D->M D))(fs:DSt->M (List D)):Fe:=λU=>match U[i]? with
 |some (some (.fn x))=>match tab x with
   |some F=>fs U >>= fnX n F
   |none=>M.stuck
 |_=>M.stuck
theorem NW{α:Type}{X9:DSt}{c:Wc}{H:Hp}{G:DH}{K:D->List Addr->DH->Hp->Prop}(p:c7 c Z μ H (SE i n tab fs X9 G) K):
 ∃x F,X9[i]? =some (some (.fn x))/\tab x=some F/\c7 c Z μ H ((fs X9 >>= fnX n F) G) K:=by
 delta SE at p;rcases hx:X9[i]? with _|_|d
 ·rw[hx]at p;exact p.elim
 ·rw[hx]at p;exact p.elim
 · rw[hx]at p;rcases d with _|_|_|_|_|_|x|_<;>try exact p.elim
   have p:c7 c Z μ H ((match tab x with|some F=>fs X9 >>= fnX n F|none=>M.stuck:M D) G) K:=p;rcases hF:tab x with _|F
   ·rw[hF]at p;exact p.elim
   ·rw[hF]at p;exact⟨x,F,rfl,hF,p⟩
theorem KU{e:Expr}{y:Str}(hT:∀x F,tab x=some F->∃k kk,V8 F n x X.prog X.w X.K X.mg X.base k/\M7 kk X.A/\k<=kk)(hv:PE X (.Name y p) (y9 i))(ha:DA X Z (e::es) fs)(hs:(e::es).all K1=true):
 DE X Z (.Call (.Name y p) (e::es) [] pos) (SE i n tab fs):=⟨by
 intro Ng s U H Q I h;obtain⟨X9,μ,G,sr,hr,pp⟩:=h;obtain⟨x,F,hx,hF,pp⟩:=NW (α:=D) pp;obtain⟨k,kk,hC,hrm,hk⟩:=hT x F hF;obtain⟨f,fd,ps,f1,f2,f3,f4⟩:=hC.ex;rw[jB,zP]at hs;obtain⟨v,e1,r⟩:=sr.2 i _ hx;unfold f9 at r;obtain⟨a,ea,rfl⟩:=r;have ea:X.mg x=some (.ref a):=ea;rw[f2]at ea
 cases ea
 refine xn (thn (hv Ng s U H (λv' H'=>v'= .ref f/\H'=H) I ⟨_,e1,rfl,rfl⟩) λu s1 ⟨v',H',I1,rv,e2,e3⟩=>?_);subst e2 e3
 cases rv
 refine Zl (h₀:=X.base) I1.ok.mod.kin f3 (thn (ha.h pos Ng s1 U H' (λvs H2=>spD (wc X) n F vs H2 Q E0) I1 ⟨X9,μ,G,sr,hr,(c7.bind pp).mono λds' X0 G1 H1 x' h1 p1 vs rv=>?_⟩) λus s2 ⟨vs,H2,I2,r2,q2⟩=>⟨I2.kIn,?_⟩) (S0 hs.1) (by rw[M8];exact Q8 hs.2)
 ·obtain⟨hl,p2⟩:=wK p1;exact⟨by rw[<-rv.length];exact hl,ds',X0,G1,rv,h1,p2⟩
 ·exact SG (dvs:= []) (ds:= []) f1 (hrm.mono hk) f4 .nil PM I2 r2 (by rw[zX];exact q2)⟩
end
def bC:List D->M D:=λds=>match ds with
 |[.int n]=>if n.natAbs.log2<1920 then pure (.str (ym (Zc n)))else M.stuck
 |_=>M.stuck
def P2:List D->M D:=λds=>match ds with
 |[.int i]=>pure (.int i)
 |[.bl k]=>pure (.int (if k then 1 else 0))
 |[.str z]=>match YK z with
   |some n=>if z.length<=640 then pure (.int n)else M.stuck
   |none=>M.stuck
 |_=>M.stuck
def E2(z p:Str)(i:Int):Bool:=decide (fromIndex z.length i+p.length<=z.length)&&yZ z p (fromIndex z.length i)
def startsD:D->List D->M D:=λx ds=>match x,ds with
 | .str z, [.str p,.int i]=>pure (.bl (E2 z p i))
 |_,_=>M.stuck
section
variable{X:Cx}{Z:XC}
theorem DR:U7 X Z (.type "str") bC:=⟨by
 intro Ng s U H xs us Q I r Nk;obtain⟨ds,μ,G,rl,hr,p⟩:=Nk;rcases ds with _|⟨_|_|n|_|_|_|_|_,_|⟨_,_⟩⟩<;>try exact p.elim
 obtain⟨v,rfl,rv⟩:=S2 rl;obtain⟨u,rfl,ru⟩:=Z1 r;rw[A1 rv]at ru;obtain⟨t,rfl⟩:=ru;have p:c7 (wc X) Z μ H ((if n.natAbs.log2<1920 then pure (.str (ym (Zc n)))else M.stuck:M D) G) _:=p;split at p
 case isFalse=>exact p.elim
 rename_i hn;exact PySem.P.str_of_int hn ⟨.str (ym (Zc n)),H,I.tok _,⟨_,rfl⟩,c7.ok p hr _ (by unfold f9;rfl)⟩⟩
theorem ET:U7 X Z (.type "int") P2:=⟨by
 intro Ng s U H xs us Q I r Nk;have hE:=Nk;obtain⟨ds,μ,G,rl,hr,p⟩:=Nk;rcases ds with _|⟨_|b|n|z|_|_|_|_,_|⟨_,_⟩⟩<;>try exact p.elim
 ·exact(LL (X:=X) (Z:=Z)).h Ng s U H xs us Q I r ⟨_,μ,G,rl,hr,p⟩
 ·exact(LL (X:=X) (Z:=Z)).h Ng s U H xs us Q I r ⟨_,μ,G,rl,hr,p⟩
 · obtain⟨v,rfl,rv⟩:=S2 rl;obtain⟨u,rfl,ru⟩:=Z1 r;rw[A2 rv]at ru;obtain⟨t,rfl⟩:=ru;have p:c7 (wc X) Z μ H ((match YK z with|some n=>if z.length<=640 then pure (.int n)else M.stuck|none=>M.stuck:M D) G) _:=p;rcases hz:YK z with _|n
   ·rw[hz]at p;exact p.elim
   · rw[hz]at p;have p:c7 (wc X) Z μ H ((if z.length<=640 then pure (.int n)else M.stuck:M D) G) _:=p;split at p
     case isFalse=>exact p.elim
     rename_i hl;exact PySem.W.KIN.call_text hz hl ⟨.int n,H,I.tok _,⟨_,rfl⟩,c7.ok p hr _ ofI⟩⟩
theorem qb(_:X.calm=true):BD bC "str" X Z:=⟨.inr ⟨_,DR,sU⟩⟩
theorem TV(_:X.calm=true):BD P2 "int" X Z:=⟨.inr ⟨_,ET,OW⟩⟩
theorem Hc:MtD X Z "str.startswith" startsD:=by
 intro Ng s U H x xs v us Q I rx rvs Nk;obtain⟨d,ds,μ,G,rd,rl,hr,p⟩:=Nk;unfold startsD at p;split at p
 ·rename_i z q i;rw[A2 rd]at rx;obtain⟨t,rfl⟩:=rx;obtain⟨v1,v2,rfl,r1,r2⟩:=qh rl;obtain⟨u1,u2,rfl,s1,s2⟩:=aA rvs;rw[A2 r1]at s1;rw[A1 r2]at s2;obtain⟨t1,rfl⟩:=s1;obtain⟨t2,rfl⟩:=s2;exact call_gives Js (Xj _ _ _) F.entry_str_startswith (F.args_str_startswith_3 _ _ _) (gives_str_startswith_from z q i t t1 t2) (show (PySem.Made.val _).post _ s from⟨.bl (E2 z q i),H,I,rfl,c7.ok p hr _ (by unfold f9;rfl)⟩)
 ·exact p.elim
def L3(a b:Str)(Fa Fb:List D->M D):Str->Option (List D->M D):=λx=>if x=a then some Fa else if x=b then some Fb else none
theorem sY(ha:∃k kk,V8 Fa n a X.prog X.w X.K X.mg X.base k/\M7 kk X.A/\k<=kk)(hb:∃k kk,V8 Fb n b X.prog X.w X.K X.mg X.base k/\M7 kk X.A/\k<=kk)
 (hN:X.N[i]? =some y) (hv:Vis X.env.scope y) (hd:(y==("__debug__" :Str))=false) (hcd:(y==("__classdict__" :Str))=false) (hs:(e::es).all K1=true) (hA:DA X Z (e::es) fs):
 DE X Z (.Call (.Name y p) (e::es) [] pos) (SE i n (L3 a b Fa Fb) fs):=KU (λx F h=>by
 unfold L3 at h;split at h
 ·rename_i k;cases h;rw[k];exact ha
 · split at h
   ·rename_i k;cases h;rw[k];exact hb
   ·cases h) (NA hN hv hd hcd) hA hs
end
section
variable{prog:zF}{w:zO}{A:zV}{E:VSP}{s:zm}
end
section
variable{prog:zF}{w:zO}{A:zV}{E:VSP}{s:zm}
end
section
variable{prog:zF}{w:zO}{A:zV}{E:VSP}{s:zm}
end
section
variable{X:Cx}{Z:XC}{c:Wc}{μ:List Addr}{H:Hp}{G:DH}
end
section
variable{X:Cx}{Z:XC}{ea eb:Expr}{fa fb:Fe}{p p1 p2 q1 q2 q3 pos:Pos}
end
def dQ(A:zV)(s:zm)(y x:zg)(b:Bool):Prop:=
 ∀(prog:zF) (w:zO) (E:VSP) (Q:VSP),Q (.bool b) s->zv (zD prog w) A (Jp .GtE y x) Q E s
inductive GeR(A:zV)(s:zm):List zg->List zg->Bool->Prop
 |nil:GeR A s [] [] true
 |eq {x y xs ys b}:yL A s x y true->GeR A s xs ys b->GeR A s (x::xs) (y::ys) b
 |ne {x y xs ys b}:yL A s x y false->dQ A s x y b->GeR A s (x::xs) (y::ys) b
section
open PySem.SeqAt
open PySem.AutoSeq1 (wpAny_loadPart')
open PySem.MeetsSeq PySem.MeetsSeq2 PySem.MeetsSeq3
end
section
variable{X:Cx}{Z:XC}
end
section
end
def VF(c:Wc)(μ:List Addr)(H:Hp)(Nz:Option (D×D))(old:Array zg):Prop:=match Nz with
 |none=>old= #[]
 |some b=>∃v vk u uk,f9 c μ H b.1 v/\u9 v u/\f9 c μ H b.2 vk/\u9 vk uk/\old= #[u,uk]
theorem VF.mono(x:Ext μ H X1 H')(h:VF c μ H Nz old):VF c X1 H' Nz old:=by
 rcases Nz with _|b
 ·exact h
 ·obtain⟨v,vk,u,uk,a1,a2,a3,a4,a5⟩:=h;exact⟨v,vk,u,uk,a1.mono x,a2,a3.mono x,a4,a5⟩
section
variable{X:Cx}{Z:XC}{Ng:PNS}{U:St}{k:Nat}{f:Addr}{fd:xg}{ps:List Str}{F:List D->M D}{A:zV}
end
section
variable{X:Cx}{Z:XC}{F:List D->M D}{x:Str}{e:Expr}{fe:Fe}{p pf kp pos:Pos}
end
section
variable{prog:zF}{w:zO}{A:zV}{E:VSP}{s:zm}{K:Type}[DecidableEq K]{knd:KeyKind prog w K}
end
section
variable{X:Cx}{Z:XC}{ea:Expr}{fa:Fe}{p q1 ap pos:Pos}
end
inductive CdE(w:zO)(K:zd)(mg:Str->Option zg):List DictEntry->List (Str×D)->Prop
 |nil:CdE w K mg [] []
 |cons {z:Str} {t:Tok} {u:zg} {d:D} {es:List DictEntry} {tb:List (Str×D)} (h:CR K mg d u) (r:CdE w K mg es tb):CdE w K mg ({hash:=PyData.keyHash w.params z,key:=.str z t,val:=u}::es) ((z,d)::tb)
structure CdOk(w:zO)(K:zd)(mg:Str->Option zg)(x:Str)(tb:List (Str×D)):Prop where
 ex:∃a es n,mg x=some (.ref a)/\K.lookup a=some ⟨.type "dict",none,.dict (List.toArray es) n, #[]⟩/\CdE w K mg es tb
 nd:(tb.map (·.1)).Nodup
section
variable{X:Cx}{Z:XC}{b:Expr}{fb:Fe}{x:Str}{tb:List (Str×D)}{p pos:Pos}
end
mutual
def pyD:D->PyData
 | .non=>.none
 | .bl b=>.bool b
 | .int i=>.int i
 | .str x=>.str x
 | .tup l=>.tuple (pyL l)
 | .ref _=>.none
 | .fn _=>.none
 | .ty _=>.none
def pyL:List D->List PyData
 |[]=> []
 |d::r=>pyD d::pyL r
end
mutual
def mB:D->Bool
 | .non=>true
 | .bl _=>true
 | .int _=>true
 | .str _=>true
 | .tup l=>QE l
 | .ref _=>false
 | .fn _=>false
 | .ty _=>false
def QE:List D->Bool
 |[]=>true
 |d::r=>mB d&&QE r
end
mutual
theorem Bx:∀d:D,(pyD d).hasDict=false
 | .non=>rfl
 | .bl _=>rfl
 | .int _=>rfl
 | .str _=>rfl
 | .tup l=>by unfold pyD;exact LN l
 | .ref _=>rfl
 | .fn _=>rfl
 | .ty _=>rfl
theorem LN:∀l:List D,PyData.hasDictAll (pyL l)=false
 |[]=>rfl
 |d::r=>by unfold pyL;show ((pyD d).hasDict||PyData.hasDictAll (pyL r))=false;rw[Bx d,LN r];rfl
end
section
variable{X:Cx}{Z:XC}{Ng:PNS}{U:St}{H:Hp}{s:zm}
theorem TZ(I:Inv X Ng U H s)(q:SqT X.K H a vs):∃o Nj n,s.heap.get? a=some o/\o.cls= .type "tuple"/\o.data= .seq Nj n/\t8 vs Nj.toList:=by
 rcases q with q|⟨o,Nj,n,hl,hc,hd,_,hv⟩
 ·obtain⟨_,Nj,hv,o,e,c,n,d⟩:=(show N8 X.prog X.w H s.heap a (.tup vs)from nI I.hok q);exact⟨o,Nj.toArray,n,e,c,(Yc d).1,by simpa using hv⟩
 ·exact⟨o,Nj,n,I.kIn _ _ hl,hc,(Yc hd).1,hv⟩
mutual
theorem AU(I:Inv X Ng U H s):∀d {v} {u},mB d=true->f9 (wc X) μ H d v->u9 v u->∃as,Reads s.heap u (pyD d) as
 | .non,v,u,_,r,q=>by unfold f9 at r;subst r;cases q;exact⟨_,.none⟩
 | .bl b,v,u,_,r,q=>by unfold f9 at r;subst r;cases q;exact⟨_,.bool b⟩
 | .int i,v,u,_,r,q=>by unfold f9 at r;subst r;obtain⟨t,rfl⟩:=q;exact⟨_,.int i t⟩
 | .str x,v,u,_,r,q=>by unfold f9 at r;subst r;obtain⟨t,rfl⟩:=q;exact⟨_,.str x t⟩
 | .tup l,v,u,hd,r,q=>by
   unfold f9 at r;obtain⟨a,vs,rfl,sq,rl⟩:=r
   cases q
   obtain⟨o,Nj,n,e,c,d,hv⟩:=TZ I sq;obtain⟨as,ra⟩:=lM I l (by unfold mB at hd;exact hd) rl hv;unfold pyD;exact⟨as,.tuple e c d ra⟩
 | .ref _,v,u,hd,_,_=>by unfold mB at hd;cases hd
 | .fn _,v,u,hd,_,_=>by unfold mB at hd;cases hd
 | .ty _,v,u,hd,_,_=>by unfold mB at hd;cases hd
theorem lM(I:Inv X Ng U H s):∀l {vs} {us},QE l=true->m9 (wc X) μ H l vs->t8 vs us->∃as,ReadsAll s.heap us (pyL l) as
 |[],vs,us,_,r,q=>by unfold m9 at r;subst r;cases q;exact⟨_,.nil⟩
 |d::l,vs,us,hd,r,q=>by
   unfold m9 at r;obtain⟨v,r',rfl,r1,r2⟩:=r;unfold QE at hd;rw[zP]at hd
   cases q with
   |cons q1 q2=>
     obtain⟨as,h1⟩:=AU I d hd.1 r1 q1;obtain⟨bs,h2⟩:=lM I l hd.2 r2 q2;unfold pyL;exact⟨_,.cons h1 h2⟩
end
end
section
variable{X:Cx}{Z:XC}
end
end DL
namespace W
open PySem PySem.Spec L2 DL
open PyProof.Rows hiding St
end W
namespace DL
open PySem PySem.Spec L2
open PyProof.Rows hiding St
section
variable{X:Cx}{Z:XC}{o:Expr}{fo:Fe}{name:Str}{id:String}{mm:D->List D->M D}{apos cpos:Pos}
end
def sV:zg->Str
 | .str x _=>x
 |_=> ""
def byT(w:zO):Bool:=w.params.followText "set-order"
def TSet(prog:zF)(w:zO)(h:Heap)(a:Addr)(ss:List Str):Prop:=∃o es ep t,h.get? a=some o/\o.ExactSet/\o.data= .set es ep t/\ElemsOf (strKind prog w) es.toList/\(es.toList.map λe=>sV e.2).Perm ss/\es.size<scanBound/\t.fits es.size=true/\t.led= (!byT w)/\(0<es.size->t.plain=false)
section
variable{prog:zF}{w:zO}{A:zV}{E:VSP}{s:zm}
end
theorem StrsAre.at:∀ {vs} {ss},StrsAre vs ss->∀(i:Nat) v,vs[i]? =some v->∃x t,ss[i]? =some x/\v= .str x t
 |_,_,.nil,i,v,h=>by simp at h
 |_,_,.cons x t hr,0,v,h=>by simp at h;exact⟨x,t,rfl,h.symm⟩
 |_,_,.cons n t hr,i+1,v,h=>by simp only[ZP]at h ⊢;exact StrsAre.at hr i v h
section
variable{prog:zF}{w:zO}{A:zV}{R:Result->zm->Prop}{I:Addr}{fp wr:List Addr}{G:Array GenState->Array GenState->Prop}{n:Nat}{P:Nat->zg->Prop}{St:Nat->zm->Prop}
end
section
end
abbrev sO(es:Array (Int×zg))(ep:Nat)(t:SetTable):Obj:={cls:=.type "set",dict:=none,data:=.set es ep t,slots:= #[]}
section
end
section
end
structure SWalk(prog:zF)(w:zO)(A:zV)(s:zm)(a:Addr)(ss:List Str)(I:Addr)(h':Heap):Prop where
 keep:∀b o,s.heap.get? b=some o->h'.get? b=some o
 new:s.heap.objs.size<=I
 walk:∃(J:Addr) (vs:List zg) (Pc:List Str) (St:Nat->Heap->Prop),s.heap.objs.size<=J/\StrsAre vs Pc/\Pc.Perm ss/\Walks prog w A I [I,J,a] [I] vs.length (λi v=>vs[i]? =some v) St/\St 0 h'
section
end
section
variable{prog:zF}{w:zO}{A:zV}{E:VSP}{s:zm}{a I:Addr}{es:Array (Int×zg)}{ep:Nat}{t:SetTable}
end
section
variable{prog:zF}{w:zO}{s:zm}{a I:Addr}{es:Array (Int×zg)}{ep:Nat}{t:SetTable}
theorem TSet.type(hS:TSet prog w s.heap a ss):s.TypeIs (.ref a) "set":=by obtain⟨o,es,ep,t,ho,⟨x1,_⟩,_⟩:=hS;exact⟨o,ho,x1⟩
end
section
end
section
end
section
end
end DL
namespace W
open PySem PySem.Spec L2 DL
open PyProof.Rows hiding St
end W
namespace DL
open PySem PySem.Spec L2
open PyProof.Rows hiding St
def lcg(m i:Nat):Nat:=(i*5+1) % (m+1)
def itr(m:Nat):Nat->Nat->Nat
 |0,i=>i
 |k+1,i=>itr m k (lcg m i)
def tL(m:Nat):Prop:=∀i≤m,∀j≤m,∃k≤m,itr m k i=j
def rC(owner:Array (Option Nat))(r:Option Nat):Prop:=∃j,r=some j/\owner[j]? =some none
theorem Kz{owner:Array (Option Nat)}(h:(jJ n).find? (λk=>(owner.getD (i+k) (some 0)).isNone)=some k):owner[i+k]? =some none:=by
 have:=List.find?_some h;have e:owner.getD (i+k) (some 0)=none:=by simpa using this
 rw[Xt]at e;rcases h2:owner[i+k]? with _|o
 ·rw[h2]at e;cases e
 ·rw[h2]at e;have:o=none:=e;rw[this]
theorem GQ(h:owner[i]? =some none):rC owner (jH mask owner (f+1) i p):=by
 unfold jH;have hr:∃m,YS mask i+1-i=m+1:=by
  unfold YS;split
  ·exact⟨9,by omega⟩
  ·exact⟨0,by omega⟩
 obtain⟨m,hm⟩:=hr;have:((jJ (YS mask i+1-i)).find? λk=>(owner.getD (i+k) (some 0)).isNone)=some 0:=by rw[hm,ZV,List.find?_cons_of_pos];rw[Xt,Nat.add_zero,h];rfl
 rw[this];exact⟨i,by simp,h⟩
theorem VM{owner:Array (Option Nat)}(h:rC owner (jH mask owner f (Yl mask i p).1 (Yl mask i p).2)):rC owner (jH mask owner (f+1) i p):=by
 unfold jH;split
 ·rename_i k hk;exact⟨i+k,rfl,Kz hk⟩
 ·exact h
theorem oK(hj:owner[j]? =some none):∀k f i,k<f->itr mask k i=j->rC owner (jH mask owner f i 0)
 |0,f+1,i,_,e=>by have e:i=j:=e;rw[<-e]at hj;exact GQ hj
 |k+1,f+1,i,hf,e=>by
   refine VM ?_;have e1:(Yl mask i 0).1=lcg mask i:=by show (i*5+1+0 / 32) % (mask+1)=_;simp[lcg]
   have e2:(Yl mask i 0).2=0:=by show 0 / 32=0;rfl
   rw[e1,e2];exact oK hj k f _ (by omega) e
theorem tK(hF:tL mask)(hj:owner[j]? =some none)(hm:j<=mask):∀n f i p,p<32 ^ n->n+mask<f->i<=mask->rC owner (jH mask owner f i p)
 |0,f,i,p,hp,hf,hi=>by
   obtain rfl:p=0:=by simpa using hp
   obtain⟨k,hk,e⟩:=hF i hi j hm;exact oK hj k f i (by omega) e
 |n+1,f+1,i,p,hp,hf,hi=>by
   refine VM (tK hF hj hm n f _ _ ?_ (by omega) ?_)
   ·show p / 32<32 ^ n;rw[JL]at hp;omega
   ·show (i*5+1+p / 32) % (mask+1)<=mask;have:=Jo (i*5+1+p / 32) (show 0<mask+1 by omega);omega
structure FG(mask:Nat)(k:Nat)(owner:Array (Option Nat)):Prop where
 sz:owner.size=mask+1
 pm:(owner.toList.filterMap id).Perm (jJ k)
theorem AN:∀ {l:List (Option α)} {j:Nat},l[j]? =some none->((l.set j (some x)).filterMap id).Perm (x::l.filterMap id)
 |[],_,h=>by simp at h
 |a::l,0,h=>by
   have:a=none:=by simpa using h
   subst this;simp
 |a::l,j+1,h=>by
   have ih:=AN (x:=x) (l:=l) (j:=j) (by simpa using h);rw[List.set_cons_succ];rcases a with _|a
   ·simpa using ih
   ·show (a::XU id (l.set j (some x))).Perm (x::a::XU id l);exact(List.Perm.cons a ih).trans (List.Perm.swap ..)
theorem tO:∀ {l:List (Option Nat)},(l.filterMap id).length<l.length->∃j,j<l.length/\l[j]? =some none
 |[],h=>by simp at h
 |none::l,h=>⟨0,by simp,rfl⟩
 |some a::l,h=>by obtain⟨j,h1,h2⟩:=tO (l:=l) (by simpa using h);exact⟨j+1,by simpa using h1,by simpa using h2⟩
theorem bR(h:Int):xW h<32 ^ 13:=by
 unfold xW;have h1:=xi h (show (0:Int)<2 ^ 64 by decide);have h2:=xM h (show (2 ^ 64:Int)≠0 by decide);have:(32:Nat) ^ 13=36893488147419103232:=by decide
 omega
theorem FG.step{owner:Array (Option Nat)}(hF:tL mask)(I:FG mask k owner)(hk:k<=mask)(h:Int):∃j,jH mask owner (Xe mask) (xW h % (mask+1)) (xW h)=some j/\FG mask (k+1) (owner.setIfInBounds j (some k)):=by
 have hl:(owner.toList.filterMap id).length=k:=by rw[I.pm.length_eq,jE]
 obtain⟨j0,hj0,e0⟩:=tO (l:=owner.toList) (by rw[hl,yQ,I.sz];omega);rw[yh]at e0;have hm:j0<=mask:=by rw[yQ,I.sz]at hj0;omega
 have hi:xW h % (mask+1)<=mask:=by have:=Jo (xW h) (show 0<mask+1 by omega);omega
 obtain⟨j,e,ho⟩:=tK hF e0 hm 13 (Xe mask) _ _ (bR h) (by unfold Xe;omega) hi;refine⟨j,e,by simp[I.sz],?_⟩;rw[Array.toList_setIfInBounds];refine(AN (by rw[yh];exact ho)).trans ?_;rw[List.range_succ];exact(List.Perm.cons k I.pm).trans (List.perm_append_singleton ..).symm
section
variable{prog:zF}{w:zO}{A:zV}{E:VSP}{s:zm}{a:Addr}
end
section
end
section
end
section
theorem TSet.obj(hS:TSet prog w h a ss):∃es ep t,h.get? a=some (sO es ep t)/\t.fits es.size=true:=by obtain⟨o,es,ep,t,ho,⟨x1,x2,x3⟩,hd,_,_,_,hf,_⟩:=hS;obtain⟨oc,od,odt,os⟩:=o;obtain rfl:oc= .type "set":=x1;obtain rfl:od=none:=x2;obtain rfl:os= #[]:=x3;obtain rfl:odt= .set es ep t:=hd;exact⟨es,ep,t,ho,hf⟩
end
inductive cA(w:zO):List DictEntry->List Str->Prop
 |nil:cA w [] []
 |cons {e:DictEntry} {x:Str} {tk:Tok} {es:List DictEntry} {xs:List Str}:e.key= .str x tk->e.hash=hashStr w x->cA w es xs->cA w (e::es) (x::xs)
theorem cA.len(h:cA w es xs):es.length=xs.length:=by
 induction h with
 |nil=>rfl
 |cons _ _ _ ih=>simp[ih]
theorem cA.at(h:cA w es xs):∀ {i:Nat} {e:DictEntry},es[i]? =some e->∃x tk,xs[i]? =some x/\e.key= .str x tk/\e.hash=hashStr w x:=by
 induction h with
 |nil=>intro i e h;simp at h
 |cons h1 h2 _ ih=>
   intro i e h;rcases i with _|i
   ·simp at h;subst h;exact⟨_,_,rfl,h1,h2⟩
   ·simpa using ih (by simpa using h)
section
end
section
end
section
end
end DL
namespace W
open PySem PySem.Spec L2 DL
open PyProof.Rows hiding St
end W
namespace DL
open PySem PySem.Spec L2
open PyProof.Rows hiding St
structure Ev where
 P:zF
 w:zO
 K:zd
 mg:Str->Option zg
 base:Heap
structure EvX(E:Ev):Prop where
 ex:∃h:Heap,E.K.In h/\h.Ns zJ E.mg
abbrev Ck(E:Ev)(F:List D->M D)(n:Nat)(x:Str)(k:Nat):Prop:=V8 F n x E.P E.w E.K E.mg E.base k
def BA(x:Str)(st:Stmt)(ps:List Str):Prop:=∀(kV doc pm:zg) (an:Option Addr) (Pb ct:zg) (us:List zg),us.length=ps.length->bindArgs (yq x x (L6 st) (N5 st) (o5 st) .none kV doc pm an Pb ct) ⟨us, []⟩=pure (ps.zip us)
section
variable{E:Ev}{x:Str}{st:Stmt}{k n m:Nat}{fb:Fs}
theorem U1(N ps:List Str)(X:EvX E)(Y:FH E.K x st)(S:M5 N ps (o5 st))(b:BA x st ps)(hn:ps.length=n)(hm:N.length=m)
 (hb:M5 N ps (o5 st)->∀f Pb A outer s H Z,M7 k (A.deeper (yc x (o5 st) s.heap.objs.size f Pb))->DB (W3 CX0 E.P E.w E.K E.mg E.base N x (o5 st) f Pb A outer s H Z).nox ZF (N5 st) fb):Ck E (v6 m fb) n x (k+1):=by
 obtain⟨h,X,G⟩:=X.ex;obtain⟨f,fd,c⟩:=Y.ff X G b;exact V8.of c (QM c S hn hm (hb S f))
theorem QC(ps:List Str)(X:EvX E)(Y:FH E.K x st)(b:BA x st ps)(hn:ps.length=n):Ck E (λ_=>M.stuck) n x k:=by obtain⟨h,X,G⟩:=X.ex;obtain⟨f,fd,c⟩:=Y.ff X G b;exact V8.of c (Dc hn)
end
def FHs(K:zd)(top:Nat->Stmt):List Str->List Nat->Prop
 |x::r,i::s=>FH K x (top i)/\FHs K top r s
 |_,_=>True
section
variable{K:zd}{top:Nat->Stmt}{x:Str}{i:Nat}{r:List Str}{s:List Nat}{mg:Str->Option zg}{d:D}{u:zg}{h:Heap}
theorem FHs.c(h:FH K x (top i))(t:FHs K top r s):FHs K top (x::r) (i::s):=⟨h,t⟩
structure CC(K:zd)(mg:Str->Option zg)(x:Str)(d:D):Prop where
 ex:∃u,jF K zJ x=some (some u)/\CR K mg d u
theorem CC.of(g:jF K zJ x=some (some u))(r:CR K mg d u):CC K mg x d:=⟨u,g,r⟩
theorem CC.ok(c:CC K mg x d)(X:K.In h)(G:h.Ns zJ mg):SD K mg x d:=by obtain⟨u,g,r⟩:=c.ex;exact⟨u,yj X G g,r⟩
theorem vm{fa:Addr}{P:zF}{w:zO}{N:List Str}{k m:Nat}{fb:Fs}(X:K.In h)(G:h.Ns zJ mg)(hfa:mg "law" =some (.ref fa))(Y:FH K "law" (top i))(b:BA "law" (top i) ["script"])(S:M5 N ["script"] (o5 (top i)))(hm:N.length=m)
 (hs:∀kV dc pm an cd ct (s:zm) (v:zg),Yu s (yq "law" "law" (L6 (top i)) (N5 (top i)) (o5 (top i)) .none kV dc pm an cd ct) ⟨[v], []⟩ [("script",v)])
 (hb:∀base,M5 N ["script"] (o5 (top i))->∀Pb A outer s H Z,M7 k (A.deeper (yc "law" (o5 (top i)) s.heap.objs.size fa Pb))->DB (W3 CX0 P w K mg base N "law" (o5 (top i)) fa Pb A outer s H Z).nox ZF (N5 (top i)) fb)
 (pure:∀ns:List Int,ns.length<=63->∃G',v6 m fb [.ref 0] [.rol (ns.map D.int)]=some (.ok (.bl true),G')):
 ∃fd:xg,(∀(s:zm) (v:zg),Yu s fd ⟨[v], []⟩ [("script",v)])/\∀base:Heap,K.In base->base.Ns zJ mg->X4 P w K mg base CX0 (k+1) fa fd ["script"] (wD K):=by
 obtain⟨f,od,an,sl,oc,kV,dc,pm,cd,ct,a,l,e,kp⟩:=Y;have q:=hfa.symm.trans (yj X G a)
 cases q
 exact⟨_,hs kV dc pm an cd ct,λbase _ _=>KS (QM ⟨ED l e kp,(ED l e kp).binds b,yj X G a⟩ S rfl hm (hb base S)) pure⟩
theorem walk63{l:PySem.W.OpenLaw}{q:zF}{loose:List Str}{XP:(Str->Option zg)->Heap->Prop}{YP:zO->Heap->Prop}{d:DefRec}{K:Params->zd}(k:Nat)(hn:l.most=some 63)(hdf:d.params.defaults= [])(hr:M7 k YR)
 (hY:∀(w:zO) (h:Heap),YP w h->(K w.params).In h)
 (F:∀(w:zO) (mg:Str->Option zg) (fa:Addr) (h:Heap),(K w.params).In h->h.Ns zJ mg->mg d.name=some (.ref fa)->
   ∃fd:xg,(∀(s:zm) (u:zg),Yu s fd ⟨[u], []⟩ [("script",u)])/\∀base:Heap,(K w.params).In base->base.Ns zJ mg->X4 l.prog w (K w.params) mg base CX0 k fa fd ["script"] (wD (K w.params))):
 PySem.W.WalkO q loose XP YP l.row.toRowW d [] (λf vs=>PySem.call f vs):=
 L2.walk_of hn (by decide) hdf hr hY F (λ_ _ a ns hl hO hS=>⟨a,ns,rfl,hS,hO,hl,λ_=>rfl⟩) λ_ _ _ _ _ z=>z
end
def TrF(h:Heap)(e T:Addr)(cls:zg):Prop:=∃oe vs oT ts,h.get? e=some oe/\oe.cls=cls/\oe.data= .fields vs/\vs[1]? =some (.ref T)/\T≠e/\h.get? T=some oT/\oT.data= .fields ts/\ts[3]? =some .none
structure Lv(S:List Addr)(e T:Addr)(h h':Heap):Prop where
 keep:∀b o,h.get? b=some o->b∉S->b≠e->b≠T->h'.get? b=some o
 slot:∀b o,h.get? b=some o->b∈S->b≠e->b≠T->∃sl,h'.get? b=some {o with slots:=sl}
section
variable{M:Model}{A:zV}{E:VSP}{s:zm}{base:Heap}{env:Env}{outer:List Env}{L e:Addr}{oe:Obj}{vs:Array zg}{Q:Unit->zm->Prop}
theorem uH{head:zg}{hadNext:Bool}(hfr:A.frames=some (env::outer))(hl:s.heap.FunFrames base (env::outer))(hf:env.frame=some L)
 (he:s.heap.get? e=some oe) (hd:oe.data= .fields vs) (hsz:1<vs.size)
 (h:∀h',Lv (frs (env::outer)) e s.heap.objs.size s.heap h'->TrF h' e s.heap.objs.size oe.cls->Q () {s with heap:=h'}):
 zv M A (do let a <-frameOf env;let pl <-entryPlaceOf L hadNext;let b <-Jn head a .none (xJ L) .none pl;setField (.ref e) 1 b) (λ_ s'=>zv M A (Ja (.ref e) none) Q E s') E s:=by
 have nf:e∉frs (env::outer):=λhm=>by obtain⟨_,o,ho,k⟩:=hl.mem hm;rw[he]at ho;cases ho;exact k vs hd
 refine zc (wpAny_frameOf_fun hfr hl hf λh1 k1=>?_);refine zc (wpAny_entryPlaceOf λpl Nx=>?_);unfold Jn newFields;refine zc (yw ?_ (Nx.sizeOk5 _ _ _ _ _));have e1:h1.get? e=some oe:=(k1.2.1 e nf).trans he;generalize hO:({cls:=.type "traceback",dict:=none,data:=.fields ([head,.ref L,.none,xJ L,.none]++(if pl.isEmpty then yo 6 Value.none else pl)).toArray}:Obj)=O;have hOd:O.data= .fields ([head,.ref L,.none,xJ L,.none]++(if pl.isEmpty then yo 6 Value.none else pl)).toArray:=by rw[<-hO]
 have hOf:O.isFreed=false:=by rw[<-hO];rfl
 have e2:=zf (h:=h1) O e1;refine xH e2 hd hsz ?_;have ne:h1.objs.size≠e:=yM (zj e1);have d3:=xf hd (·.setIfInBounds 1 (Value.ref h1.objs.size));have e3:=yi (yn (·.setIfInBounds 1 (Value.ref h1.objs.size))) e2 (Za d3);have t3:=(jt (h1.push O) (yn (·.setIfInBounds 1 (Value.ref h1.objs.size))) (Ne.symm ne)).trans (zy h1 hOf);unfold Ja;refine zc (jz e3 d3 (x:=.ref h1.objs.size) (by simp[hsz]) ?_);rw[if_pos (show (Value.ref h1.objs.size != Value.none)=true from by simp)];have sz1:h1.objs.size=s.heap.objs.size:=k1.1;refine xH t3 hOd (by simp only[zq,za,zp,ye];lia) (h _ ?_ ?_)
 · have kp:∀b o,b≠e->h1.get? b=some o->(((h1.push O).update e (yn (·.setIfInBounds 1 (Value.ref h1.objs.size)))).update h1.objs.size (yn (·.setIfInBounds 3 ((none:Option Addr).elim Value.none λf=>xJ f)))).get? b=some o:=λb o hb q=>by
    rw[jt _ _ (yM (zj q)),jt _ _ (Ne.symm hb)];exact zf _ q
   refine⟨λb o q nS nE _=>kp b o nE ((k1.2.1 b nS).trans q),λb o q _ nE _=>?_⟩;obtain⟨sl,hs⟩:=k1.2.2 b o q;exact⟨sl,kp b _ nE hs⟩
 ·rw[<-sz1];refine⟨_,_,_,_,?_,Obj.cls_mapFields _ _,d3,by simp[hsz],ne,yi _ t3 (Za (xf hOd _)),xf hOd _,by first|(simp;done)|(rcases Nx with rfl|⟨_,_,_,_,_,_,_,rfl⟩<;>simp)⟩;rw[jt _ _ ne];exact e3
theorem Fj(hfr:A.frames=some (env::outer))(hl:s.heap.FunFrames base (env::outer))(hf:env.frame=some L)
 (he:s.heap.get? e=some oe) (hd:oe.data= .fields vs) (h1:vs[1]? =some .none)
 (h:∀h',Lv (frs (env::outer)) e s.heap.objs.size s.heap h'->TrF h' e s.heap.objs.size oe.cls->Q () {s with heap:=h'}):zv M A (leaving env (.ref e)) Q E s:=by
 unfold leaving Jb;simp only[hf];refine zc (zc (jz he hd h1 ?_));rw[if_neg (by decide)];exact uH hfr hl hf he hd (jM.mp h1).1 h
theorem kU{T:Addr}{cls:zg}(hfr:A.frames=some (env::outer))(hl:s.heap.FunFrames base (env::outer))(hf:env.frame=some L)(ht:TrF s.heap e T cls)
 (h:∀h' h1,Lv [] e T s.heap h1->h1.objs.size=s.heap.objs.size->Lv (frs (env::outer)) e s.heap.objs.size h1 h'->TrF h' e s.heap.objs.size cls->Q () {s with heap:=h'}):zv M A (leaving env (.ref e)) Q E s:=by
 obtain⟨oe,vs,oT,ts,he,rfl,hd,h1,ne,hT,dT,h3⟩:=ht;unfold leaving Jb;simp only[hf];refine zc (zc (jz he hd h1 ?_));rw[if_pos (show (Value.ref T != Value.none)=true from by simp)];refine zc (jz hT dT h3 ?_);rw[if_neg (show ¬((Value.none==xJ L)=true)from by simp[xJ])];refine zc (xH hT dT (jM.mp h3).1 ?_);have other:∀b,b≠T->(s.heap.update T (yn (·.setIfInBounds 3 Value.none))).get? b=s.heap.get? b:=λb hb=>jt _ _ (Ne.symm hb);have nT:∀b o,s.heap.get? b=some o->(∀vs,o.data≠ .fields vs)->b≠T:=λb o hb k q=>by rw[q,hT]at hb;cases hb;exact k ts dT
 have sz:(s.heap.update T (yn (·.setIfInBounds 3 Value.none))).objs.size=s.heap.objs.size:=JB ..;refine uH (s:={s with heap:=s.heap.update T (yn (·.setIfInBounds 3 Value.none))}) hfr (hl.of_keeps λb o hb k=>⟨o,(other b (nT b o hb k)).trans hb,rfl⟩) hf ((other e (Ne.symm ne)).trans he) hd (jM.mp h1).1 λh' l t=>?_;dsimp only at l t;rw[sz]at l t;exact h h' _ ⟨λb o q _ _ nb=>(other b nb).trans q,λb o q hb=>nomatch hb⟩ sz l t
end
def CXd(P:zF)(w:zO):CXT:=λouter H s E e s'=>∃a T cls H',e= .ref a/\s.heap.get? a=none/\s.heap.get? T=none/\H' a=none/\H' T=none/\s'.os=s.os/\ZG s'.gens/\Un (frs outer) [] H H' s.heap s'.heap/\HOk P w H' s'.heap/\TrF s'.heap a T cls/\E cls none H'
theorem kO{P:zF}{w:zO}{H:Hp}(x:HOk P w H h)(k:∀b u o,H b=some o->h.get? b=some u->h'.get? b=some u):HOk P w H h':=λa o e=>
 (x a o e).stay (λb u hb q=>by
   rcases hb with rfl|hb
   ·exact k _ u _ e q
   ·exact k _ u _ hb q) (λ_ q=>q) λ_ _ q=>q
theorem WH{h h' base:Heap}:∀l:List Env,(∀b o,b∈frs l->h.get? b=some o->(∀vs,o.data≠ .fields vs)->∃sl,h'.get? b=some {o with slots:=sl})->h.FunFrames base l->h'.FunFrames base l
 |[],_,_=>trivial
 |env::r,k,hl=>by obtain⟨hk,⟨L,o,hf,hn,ho,hd⟩,hr⟩:=hl;obtain⟨sl,e⟩:=k L o (by unfold frs;rw[yt,hf];exact zh ..) ho hd;exact⟨hk,⟨L,_,hf,hn,e,hd⟩,WH r (λb o hb=>k b o (by unfold frs;rw[yt,hf];exact zo _ hb)) hr⟩
section
variable{P:zF}{w:zO}{K:zd}{mg:Str->Option zg}{base:Heap}{N:List Str}{qual:Str}{scope:Scope}{f:Addr}{cd:zg}{A:zV}{outer:List Env}{s0:zm}{H0:Hp}{E:XK}{Ng:PNS}{U:St}{H H':Hp}{s s':zm}
theorem UK(I:Inv (W3 (CXd P w) P w K mg base N qual scope f cd A outer s0 H0 E) Ng U H s)(un:Un (frs (yc qual scope s0.heap.objs.size f cd::outer)) [] H H' s.heap s'.heap)(os:s'.os=s.os)(bare:ZG s'.gens)(hok:HOk P w H' s'.heap)
 {a T:Addr} {cls:zg} {h':Heap} (ha:s.heap.get? a=none) (hT:s'.heap.get? T=none) (na:H' a=none) (kp:∀b o,s'.heap.get? b=some o->b∉frs (yc qual scope s0.heap.objs.size f cd::outer)->(s.heap.get? b≠none\/H' b≠none)->h'.get? b=some o) (sl:∀b o,s'.heap.get? b=some o->b∈frs (yc qual scope s0.heap.objs.size f cd::outer)->s.heap.get? b≠none->(∀vs,o.data≠ .fields vs)->∃sl,h'.get? b=some {o with slots:=sl}) (tr:TrF h' a T cls) (hE:E cls none H'):
 CXd P w outer H0 s0 E (.ref a) {s' with heap:=h'}:=by
 have th:∀b o,s0.heap.get? b=some o->∃o',s.heap.get? b=some o':=λb o q=>I.base.there b o q (λz=>nomatch z);have up:∀b,s.heap.get? b=none->s0.heap.get? b=none:=λb q=>by
  rcases e:s0.heap.get? b with _|o
  ·rfl
  ·obtain⟨o',z⟩:=th b o e;rw[q]at z;cases z
 have up2:∀b,s'.heap.get? b=none->s.heap.get? b=none:=λb q=>by
  rcases e:s.heap.get? b with _|o
  ·rfl
  ·obtain⟨o',z⟩:=un.there b o e (λz=>nomatch z);rw[q]at z;cases z
 have nT:H' T=none:=by
  rcases e:H' T with _|o
  ·rfl
  · have:=hok T o e;have lt:=this.lt;rcases q:s'.heap.get? T with _|u
    · have:HOk P w H' s'.heap:=hok;exact absurd q (by
       intro q;have hx:=hok T o e
       cases o with
       |lst xs=>obtain⟨_,_,_,_,z⟩:=hx;rw[q]at z;cases z
       |tup xs=>obtain⟨_,_,_,_,z,_⟩:=hx;rw[q]at z;cases z
       |dK Nh=>obtain⟨_,_,_,_,_,_,_,z,_⟩:=hx;rw[q]at z;cases z
       |dT Nh=>obtain⟨_,_,_,_,_,_,_,z,_⟩:=hx;rw[q]at z;cases z
       |set S n=>obtain⟨_,_,_,_,z,_⟩:=hx;rw[q]at z;cases z
       |ins C dx fs=>obtain⟨_,_,_,z,_⟩:=hx;rw[q]at z;cases z
       |own y=>obtain⟨_,z⟩:=hx;rw[q]at z;cases z
       |xd fs=>obtain⟨_,⟨_,_,_,z,_⟩,_⟩:=hx;rw[q]at z;cases z
       |rng lo hi=>obtain⟨_,_,_,z⟩:=hx;rw[q]at z;cases z
       |frz ob u=>obtain⟨z,_⟩:=hx;rw[q]at z;cases z
       |tbl ps=>rw[show s'.heap.get? T=some {cls:=.none,data:=.fields ps}from hx]at q;cases q
       |met f y=>rw[show s'.heap.get? T=some (xN (.ref f) (.ref y))from hx]at q;cases q
       |ext φ=>obtain⟨_,⟨_,z⟩,_⟩:=hx;rw[q]at z;cases z)
    ·rw[q]at hT;cases hT
 have nl:∀b o,s0.heap.get? b=some o->b∉frs outer->b∉frs (yc qual scope s0.heap.objs.size f cd::outer):=λb o q hb z=>by
  rcases zl.mp (I.stkSub b z)with e|z
  ·exact absurd (zj q) (by have:=I.ok.above;rw[e];exact Nat.not_lt.mpr this)
  ·exact hb z
 refine⟨a,T,cls,H',rfl,up a ha,up T (up2 T hT),na,nT,os.trans I.os,bare,⟨?_,?_,?_,?_,?_,?_,?_⟩,?_,tr,hE⟩
 ·intro b o q n hb _;have q1:=I.base.keep b o q n hb (λz=>nomatch z);have n1:=I.base.free b o q n (λz=>nomatch z);have q2:=un.keep b o q1 n1 (nl b o q hb) (λz=>nomatch z);exact kp b o q2 (nl b o q hb) (.inl (by rw[q1];exact λz=>nomatch z))
 ·intro b o q n hb _;obtain⟨sl1,q1⟩:=I.base.slot b o q n hb (λz=>nomatch z);have n1:=I.base.free b o q n (λz=>nomatch z);have hb2:b∈frs (yc qual scope s0.heap.objs.size f cd::outer):=zo _ hb;obtain⟨sl2,q2⟩:=un.slot b _ q1 n1 hb2 (λz=>nomatch z);obtain⟨_,o',ho',nd⟩:=I.ok.funs.mem hb;have ho':s0.heap.get? b=some o':=ho';rw[q]at ho';cases ho';obtain⟨sl3,q3⟩:=sl b _ q2 hb2 (by rw[q1];exact λz=>nomatch z) nd;exact⟨sl3,q3⟩
 ·intro b o q n _;have n1:=I.base.free b o q n (λz=>nomatch z);obtain⟨o',q1⟩:=th b o q;exact un.free b o' q1 n1 (λz=>nomatch z)
 · intro b o q _;obtain⟨o1,q1⟩:=th b o q;obtain⟨o2,q2⟩:=un.there b o1 q1 (λz=>nomatch z);by_cases hb:b∈frs outer
   ·obtain⟨_,o',ho',nd⟩:=I.ok.funs.mem hb;have ho':s0.heap.get? b=some o':=ho';rw[q]at ho';cases ho';have n0:H0 b=none:=I.ok.frf b hb;obtain⟨sl1,r1⟩:=I.base.slot b o q n0 hb (λz=>nomatch z);have n1:=I.base.free b o q n0 (λz=>nomatch z);have hb2:b∈frs (yc qual scope s0.heap.objs.size f cd::outer):=zo _ hb;obtain⟨sl2,r2⟩:=un.slot b _ r1 n1 hb2 (λz=>nomatch z);obtain⟨sl3,r3⟩:=sl b _ r2 hb2 (by rw[r1];exact λz=>nomatch z) nd;exact⟨_,r3⟩
   ·exact⟨o2,kp b o2 q2 (nl b o q hb) (.inl (by rw[q1];exact λz=>nomatch z))⟩
 ·exact λb xs q=>un.tups b xs (I.base.tups b xs q)
 ·exact λb o u q=>un.frzs b o u (I.base.frzs b o u q)
 ·intro b ps q;obtain⟨m1,q1⟩:=I.base.tbls b ps q;obtain⟨m2,q2⟩:=un.tbls b _ q1;exact⟨m1++m2,by rw[q2,YF]⟩
 · refine kO hok λb u o e q=>?_;refine kp b u q (λhb=>?_) (.inr (by rw[e];exact λz=>nomatch z));have n1:=I.stkFree b hb;rcases q1:s.heap.get? b with _|o1
   ·obtain⟨_,o2,z,_⟩:=I.stack.mem hb;have z:s.heap.get? b=some o2:=z;rw[q1]at z;cases z
   ·rw[un.free b o1 q1 n1 (λz=>nomatch z)]at e;cases e
end
section
variable{P:zF}{w:zO}{K:zd}{mg:Str->Option zg}{base:Heap}{N:List Str}{qual:Str}{scope:Scope}{f:Addr}{cd:zg}{A:zV}{outer:List Env}{s0:zm}{H0:Hp}{E:XK}
theorem uV:wB (CXd P w) (W3 (CXd P w) P w K mg base N qual scope f cd A outer s0 H0 E) E:=by
 intro Ng U H s e s' I h;obtain⟨a,T,cls,H',rfl,ha,hT,na,nT,os,bare,un,hok,tr,hE⟩:=h;have hl:s'.heap.FunFrames base (yc qual scope s0.heap.objs.size f cd::outer):=WH _ (λb o hb q _=>un.slot b o q (I.stkFree b hb) hb (λz=>nomatch z)) I.stack;have ne1:∀b,(s.heap.get? b≠none\/H' b≠none)->b≠a:=λb hb z=>by
  rw[z]at hb;rcases hb with hb|hb
  ·exact hb ha
  ·exact hb na
 have ne2:∀b,(s.heap.get? b≠none\/H' b≠none)->b≠T:=λb hb z=>by
  rw[z]at hb;rcases hb with hb|hb
  ·exact hb hT
  ·exact hb nT
 have ne3:∀b o,s'.heap.get? b=some o->b≠s'.heap.objs.size:=λb o q=>zB (zj q);refine kU (base:=base) I.ok.frames hl rfl tr λh' h1 l1 sz1 l2 t2=>?_;refine UK I un os bare hok ha (Yn (zk _)) na (λb o q nb hb=>?_) (λb o q hb hb2 nd=>?_) t2 hE
 ·exact l2.keep b o (l1.keep b o q (λz=>nomatch z) (ne1 b hb) (ne2 b hb)) nb (ne1 b hb) (ne3 b o q)
 ·exact l2.slot b o (l1.keep b o q (λz=>nomatch z) (ne1 b (.inl hb2)) (ne2 b (.inl hb2))) hb (ne1 b (.inl hb2)) (ne3 b o q)
theorem Gd{Ng:PNS}{U:St}{H:Hp}{s:zm}{h1:Heap}{a:Addr}{cls:zg}{args:List zg}(I:Inv (W3 (CXd P w) P w K mg base N qual scope f cd A outer s0 H0 E) Ng U H s)(m:Heap.MadeExcOf s.heap h1 a cls args)(hE:E cls none H):
 (W3 (CXd P w) P w K mg base N qual scope f cd A outer s0 H0 E).xe (.ref a) {s with heap:=h1}:=by
 obtain⟨t,e1,_,_⟩:=m.there;have kp:=m.keeps;have ha:=m.new;have na:H a=none:=by
  rcases e:H a with _|o
  ·rfl
  · rcases q:s.heap.get? a with _|u
    · have hx:=I.hok a o e
      cases o with
      |lst xs=>obtain⟨_,_,_,_,z⟩:=hx;rw[q]at z;cases z
      |tup xs=>obtain⟨_,_,_,_,z,_⟩:=hx;rw[q]at z;cases z
      |dK Nh=>obtain⟨_,_,_,_,_,_,_,z,_⟩:=hx;rw[q]at z;cases z
      |dT Nh=>obtain⟨_,_,_,_,_,_,_,z,_⟩:=hx;rw[q]at z;cases z
      |set S n=>obtain⟨_,_,_,_,z,_⟩:=hx;rw[q]at z;cases z
      |ins C dx fs=>obtain⟨_,_,_,z,_⟩:=hx;rw[q]at z;cases z
      |own y=>obtain⟨_,z⟩:=hx;rw[q]at z;cases z
      |xd fs=>obtain⟨_,⟨_,_,_,z,_⟩,_⟩:=hx;rw[q]at z;cases z
      |rng lo hi=>obtain⟨_,_,_,z⟩:=hx;rw[q]at z;cases z
      |frz ob u=>obtain⟨z,_⟩:=hx;rw[q]at z;cases z
      |tbl ps=>rw[show s.heap.get? a=some {cls:=.none,data:=.fields ps}from hx]at q;cases q
      |met f y=>rw[show s.heap.get? a=some (xN (.ref f) (.ref y))from hx]at q;cases q
      |ext φ=>obtain⟨_,⟨_,z⟩,_⟩:=hx;rw[q]at z;cases z
    ·rw[q]at ha;cases ha
 have hok1:HOk P w H h1:=I.hok.kept kp;have un:Un (frs (yc qual scope s0.heap.objs.size f cd::outer)) [] H H s.heap h1:=⟨λb o q _ _ _=>kp b o q,λb o q _ _ _=>⟨o.slots,kp b o q⟩,λb o q n _=>n,λb o q _=>⟨o,kp b o q⟩,λ_ _ q=>q,λ_ _ _ q=>q,λb ps q=>⟨#[],by simpa using q⟩⟩;have hl:h1.FunFrames base (yc qual scope s0.heap.objs.size f cd::outer):=WH _ (λb o hb q _=>⟨o.slots,kp b o q⟩) I.stack;have ne1:∀b,(s.heap.get? b≠none\/H b≠none)->b≠a:=λb hb z=>by
  rw[z]at hb;rcases hb with hb|hb
  ·exact hb ha
  ·exact hb na
 have ne3:∀b o,h1.get? b=some o->b≠h1.objs.size:=λb o q=>zB (zj q);refine Fj (s:={s with heap:=h1}) (base:=base) I.ok.frames hl rfl e1 rfl rfl λh' l t=>?_;refine UK (s':={s with heap:=h1}) I un rfl I.bare hok1 ha (Yn (zk _)) na (λb o q nb hb=>?_) (λb o q hb hb2 nd=>?_) t hE
 ·exact l.keep b o q nb (ne1 b hb) (ne3 b o q)
 ·exact l.slot b o q hb (ne1 b (.inl hb2)) (ne3 b o q)
end
structure eA(base:Heap)(C:Addr)(B newId initId:String)(bmB:List zg):Prop where
 facts:ExcBaseFacts B newId initId bmB
 ex:∃nm q Nn bs bm hdct sn sub ab col dd k0 k1 k2 k3 k5 mN,base.get? C=some (excClassObj nm q C Nn bs bm hdct sn sub ab col dd k0 k1 k2 k3 k5 newId)/\base.Ns Nn mN/\mN "__init__" =none/\OwnTail base bmB bm/\bm.contains (.type "BaseException")=true
def pP(E:XK)(C:Addr)(t:TA):TS:=λ_ U H=>t U H λvs H1=>vs.length<=ze/\E (.ref C) none H1
theorem NV{P:zF}{w:zO}{K:zd}{mg:Str->Option zg}{base:Heap}{N:List Str}{qual:Str}{scope:Scope}{f:Addr}{cd:zg}{A:zV}{outer:List Env}{s0:zm}{H0:Hp}{E:XK}{x:Str}{es:List Expr}{e1:Expr}{C:Addr}{np cpos pos:Pos}{t:TA}{B newId initId:String}{bmB:List zg}
 (hg:Gl (W3 (CXd P w) P w K mg base N qual scope f cd A outer s0 H0 E) x) (hm:mg x=some (.ref C)) (hC:eA base C B newId initId bmB) (ha:PA (W3 (CXd P w) P w K mg base N qual scope f cd A outer s0 H0 E) (e1::es) t)
 (hdb:(x==("__debug__" :Str))=false) (he:zC (e1::es) (yc qual scope s0.heap.objs.size f cd)= (false,eval e1 (yc qual scope s0.heap.objs.size f cd))::zC es (yc qual scope s0.heap.objs.size f cd)) (Nx:(yy cpos (zC es (yc qual scope s0.heap.objs.size f cd))).any (·.1)=false):
 PS (W3 (CXd P w) P w K mg base N qual scope f cd A outer s0 H0 E) (.Raise (some (.Call (.Name x np) (e1::es) [] cpos)) none pos) (pP E C t):=by
 intro Ng s U H D I h;obtain⟨nm,q,Nn,bs,bm,hdct,sn,sub,ab,col,dd,k0,k1,k2,k3,k5,mN,q1,q2,q3,q4,q5⟩:=hC.ex;refine wpAny_Raise_call_subT (C:=C) (bm:=bm) (nm:=nm) (q:=q) (N:=Nn) (bs:=bs) (hdct:=hdct) (sn:=sn) (sub:=sub) (ab:=ab) (col:=col) (dd:=dd) (k0:=k0) (k1:=k1) (k2:=k2) (k3:=k3) (k5:=k5) (mN:=mN) hC.facts q5 (I.ok.hd rfl) (by rw[show (W3 (CXd P w) P w K mg base N qual scope f cd A outer s0 H0 E).env=yc qual scope s0.heap.objs.size f cd from rfl,he];exact Nx) q3 (C8 I hg hm ⟨rfl,?_⟩ hdb);have w1:=ha cpos Ng s U H _ I h;have he2:yy cpos (zC (e1::es) (W3 (CXd P w) P w K mg base N qual scope f cd A outer s0 H0 E).env)= (false,eval e1 (yc qual scope s0.heap.objs.size f cd))::yy cpos (zC es (yc qual scope s0.heap.objs.size f cd)):=by show yy cpos (zC (e1::es) (yc qual scope s0.heap.objs.size f cd))=_;rw[he];rfl
 rw[he2]at w1 ⊢;refine JI (thn w1 λus s1 Nq=>?_);obtain⟨vs,H1,I1,r,l1,hE⟩:=Nq;have kb:∀b o,base.get? b=some o->s1.heap.get? b=some o:=I1.bk;refine⟨rfl,by rw[<-r.length];exact l1,kb _ _ q1,?_,q4.keeps kb,λh' e m=>Gd I1 m hE⟩;obtain⟨o,Qh,ep,z1,z2⟩:=q2;exact⟨o,Qh,ep,kb _ _ z1,z2⟩
def ZE(mg:Str->Option zg)(E:XK):XC:=λx _ _ H=>∃C,mg x=some (.ref C)/\E (.ref C) none H
def spX(c:Wc)(n:Nat)(F:List D->M D):Sp:=λvs H Q E=>vs.length=n/\∃ds μ G,m9 c μ H ds vs/\o8 c μ G H/\c7 c (ZE c.mg E) μ H (F ds G) λd X1 _ H'=>∀v,f9 c X1 H' d v->Q v H'
def fnZ(n:Nat)(F:List D->M D):List D->M D:=λds=>if ds.length=n then F ds else M.stuck
def W8(x:Str)(fs:DSt->M (List D)):Fs:=λU=>do
 let _ <-fs U
 (λG=>some (.error x,G))
theorem IF{H:Hp}{n:Nat}{G:DH}{K:D->List Addr->DH->Hp->Prop}(p:c7 cc Z μ H (fnZ n F ds G) K):ds.length=n/\c7 cc Z μ H (F ds G) K:=by
 unfold fnZ at p;split at p
 ·rename_i h;exact⟨h,p⟩
 ·exact p.elim
section
variable{P:zF}{w:zO}{K:zd}{mg:Str->Option zg}{base:Heap}
theorem okX{x qual:Str}{st:Stmt}{f:Addr}{fd:xg}{N ps:List Str}{k:Nat}{sp:Sp}(F:Fun K x qual st f fd)(S:M5 N ps (o5 st))(len:∀vs H Q E,sp vs H Q E->vs.length=ps.length)
 (hbody:∀(Pb:zg) (A:zV) (outer:List Env) (s:zm) (H:Hp) (vs:List V) (Q:VK) (E:XK),M7 k (A.deeper (yc qual (o5 st) s.heap.objs.size f Pb))->sp vs H Q E->
   ∃t,PSs (W3 (CXd P w) P w K mg base N qual (o5 st) f Pb A outer s H E) (N5 st) t/\t {nx:=λ_ H'=>Q .non H',rt:=Q} (start N vs) H):X4 P w K mg base (CXd P w) (k+1) f fd ps sp:=by
 obtain⟨oc,od,kV,doc,pm,an,Pb,ct,osl,rfl,lk,hcd⟩:=F.ex;exact kJ lk hcd S len λA outer s H vs Q E hr hsp=>hbody Pb A outer s H vs Q E hr hsp
theorem FV{x:Str}{st:Stmt}{f:Addr}{k n m:Nat}{fb:Fs}(F:FF K mg x st ps f fd)(S:M5 N ps (o5 st))(hn:ps.length=n)(hm:N.length=m)
 (hbody:∀(Pb:zg) (A:zV) (outer:List Env) (s:zm) (H:Hp) (E:XK),M7 k (A.deeper (yc x (o5 st) s.heap.objs.size f Pb))->DB (W3 (CXd P w) P w K mg base N x (o5 st) f Pb A outer s H E) (ZE mg E) (N5 st) fb):
 X4 P w K mg base (CXd P w) (k+1) f fd ps (spX ⟨K,mg⟩ n (v6 m fb)):=by
 refine okX F.F S (λvs H Q E h=>by rw[hn];exact h.1) λPb A outer s H vs Q E hr h=>⟨_,(hbody Pb A outer s H E hr).h,?_⟩;obtain⟨hl,ds,μ,G,rl,hG,p⟩:=h;subst hm;refine⟨_,μ,G,SM rl,hG,(c7.bind p).mono λfl X0 G1 H1 x1 h1 p1=>?_⟩
 cases fl with
 |nx X9=>exact λU _=>c7.ok p1 h1 _ ofN
 |rt d=>exact λv rv=>c7.ok p1 h1 v rv
 |bk _=>exact p1.elim
 |ct _=>exact p1.elim
theorem dS{k n:Nat}{f:Addr}(hn:ps.length=n):X4 P w K mg base (CXd P w) k f fd ps (spX ⟨K,mg⟩ n λ_=>M.stuck):=
 ⟨λvs H Q E h=>by rw[hn];exact h.1,λA outer s H args us vs Q E _ _ _ _ h=>by obtain⟨_,ds,μ,G,_,_,p⟩:=h;exact p.elim⟩
variable{N:List Str}{qual:Str}{scope:Scope}{cd:zg}{A:zV}{outer:List Env}{s0:zm}{H0:Hp}{E:XK}{fa:Addr}
theorem vz{X:Cx}{B newId initId:String}{bmB:List zg}{C:Addr}{e1:Expr}(hX:X=W3 (CXd P w) P w K mg base N qual scope fa cd A outer s0 H0 E)(hg:Gl X x)(hm:mg x=some (.ref C))(hC:eA base C B newId initId bmB)(ha:DA X (ZE mg E) [e1] fs)
 (hdb:(x==("__debug__" :Str))=false) (he:zC [e1] X.env= (false,eval e1 X.env)::zC [] X.env) (Nx:(yy cpos (zC [] X.env)).any (·.1)=false) (hl:∀ U G ds G',fs U G=some (.ok ds,G')->ds.length=1):
 DS X (ZE mg E) (.Raise (some (.Call (.Name x np) [e1] [] cpos)) none pos) (W8 x fs):=by
 subst hX;refine DS.of (NV hg hm hC ha.h hdb he Nx) λD U H Nk=>Nk.elim λX9 μ G s h p=>?_;have p1:=c7.bind p;refine⟨X9,μ,G,s,h,?_⟩;rcases r:fs X9 G with _|⟨r0,G1⟩
 ·rw[r]at p1;exact p1.elim
 · rw[r]at p1
   cases r0 with
   |error y=>exact p1
   |ok ds=>
     intro X0 H1 x1 h1 vs rv;obtain⟨C',z1,z2⟩:=p1 X0 H1 x1 h1 X0 H1 (Ext.refl _ _) h1;rw[hm]at z1;cases z1;refine⟨?_,z2⟩;rw[<-rv.length,hl _ _ _ _ r];decide
end
section
variable{M:Model}{A:zV}{E:VSP}{s:zm}{base:Heap}{env:Env}{outer:List Env}{L e:Addr}{Q:Unit->zm->Prop}
theorem pO{T:Addr}{cls:zg}(hfr:A.frames=some (env::outer))(hl:s.heap.FunFrames base (env::outer))(hf:env.frame=some L)(ht:TrF s.heap e T cls)
 (h:∀h' h1,Lv [] e T s.heap h1->h1.objs.size=s.heap.objs.size->Lv (frs (env::outer)) e s.heap.objs.size h1 h'->TrF h' e s.heap.objs.size cls->Q () {s with heap:=h'}):zv M A (Jb (.ref e) env) (λ_ s'=>zv M A (Ja (.ref e) none) Q E s') E s:=by
 obtain⟨oe,vs,oT,ts,he,rfl,hd,h1,ne,hT,dT,h3⟩:=ht;unfold Jb;simp only[hf];refine zc (jz he hd h1 ?_);rw[if_pos (show (Value.ref T != Value.none)=true from by simp)];refine zc (jz hT dT h3 ?_);rw[if_neg (show ¬((Value.none==xJ L)=true)from by simp[xJ])];refine zc (xH hT dT (jM.mp h3).1 ?_);have other:∀b,b≠T->(s.heap.update T (yn (·.setIfInBounds 3 Value.none))).get? b=s.heap.get? b:=λb hb=>jt _ _ (Ne.symm hb);have nT:∀b o,s.heap.get? b=some o->(∀vs,o.data≠ .fields vs)->b≠T:=λb o hb k q=>by rw[q,hT]at hb;cases hb;exact k ts dT
 have sz:(s.heap.update T (yn (·.setIfInBounds 3 Value.none))).objs.size=s.heap.objs.size:=JB ..;refine uH (s:={s with heap:=s.heap.update T (yn (·.setIfInBounds 3 Value.none))}) hfr (hl.of_keeps λb o hb k=>⟨o,(other b (nT b o hb k)).trans hb,rfl⟩) hf ((other e (Ne.symm ne)).trans he) hd (jM.mp h1).1 λh' l t=>?_;dsimp only at l t;rw[sz]at l t;exact h h' _ ⟨λb o q _ _ nb=>(other b nb).trans q,λb o q hb=>nomatch hb⟩ sz l t
theorem FO{T:Addr}{cls:zg}(ht:TrF s.heap e T cls)(h:∀h',Lv [] e T s.heap h'->TrF h' e T cls->Q () {s with heap:=h'}):zv M A (Ja (.ref e) none) Q E s:=by obtain⟨oe,vs,oT,ts,he,rfl,hd,h1,ne,hT,dT,h3⟩:=ht;have other:∀b,b≠T->(s.heap.update T (yn (·.setIfInBounds 3 ((none:Option Addr).elim Value.none λf=>xJ f)))).get? b=s.heap.get? b:=λb hb=>jt _ _ (Ne.symm hb);unfold Ja;refine zc (jz he hd h1 ?_);rw[if_pos (show (Value.ref T != Value.none)=true from by simp)];refine xH hT dT (jM.mp h3).1 (h _ ⟨λb o q _ _ nb=>(other b nb).trans q,λb o q hb=>nomatch hb⟩ ?_);have d3:=xf dT (·.setIfInBounds 3 ((none:Option Addr).elim Value.none λf=>xJ f));exact⟨_,_,_,_,(other e (Ne.symm ne)).trans he,rfl,hd,h1,ne,yi _ hT (Za d3),d3,by simp[(jM.mp h3).1]⟩
end
section
variable{X:Cx}{Ng:PNS}{U S:St}{H:Hp}{s:zm}{a T:Addr}{cls:zg}
theorem TD{h':Heap}(I:Inv X Ng U H s)(ha:X.WZ.heap.get? a=none)(hT:X.WZ.heap.get? T=none)(pn:∀p∈X.pn++Ng,p.1≠a/\p.1≠T)(na:H a=none)(nT:H T=none)(tr:TrF s.heap a T cls)
 (kp:∀b o,s.heap.get? b=some o->b≠a->b≠T->b∉frs X.stack->h'.get? b=some o) (sl:∀b o,s.heap.get? b=some o->b≠a->b≠T->b∈frs X.stack->∃sl,h'.get? b=some {o with slots:=sl}):Inv X Ng U H {s with heap:=h'}:=by
 obtain⟨oe,vs,oT,ts,he,hc,hd,h1,ne,hTT,dT,h3⟩:=tr;have df:∀b o,s.heap.get? b=some o->(∀vs,o.data≠ .fields vs)->b≠a/\b≠T:=λb o q k=>⟨λz=>by rw[z,he]at q;cases q;exact k _ hd,λz=>by rw[z,hTT]at q;cases q;exact k _ dT⟩;have any:∀b o,s.heap.get? b=some o->b≠a->b≠T->∃sl,h'.get? b=some {o with slots:=sl}:=λb o q x y=>by
  by_cases hb:b∈frs X.stack
  ·exact sl b o q x y hb
  ·exact⟨o.slots,kp b o q x y hb⟩
 have nl:∀b o,X.WZ.heap.get? b=some o->b∉X.fs->b∉frs X.stack:=λb o q hb z=>by
  rcases zl.mp (I.stkSub b z)with e|z
  ·exact absurd (zj q) (by have:=I.ok.above;rw[e];exact Nat.not_lt.mpr this)
  ·exact hb z
 have n0:∀b o,X.WZ.heap.get? b=some o->b≠a/\b≠T:=λb o q=>⟨λz=>(by rw[z,ha]at q;cases q),λz=>(by rw[z,hT]at q;cases q)⟩;have cel:∀c v,s.heap.IsCell c v->h'.IsCell c v:=λc v ⟨o,q,d⟩=>by obtain⟨x,y⟩:=df c o q (λvs z=>by rw[d]at z;cases z);obtain⟨l,q'⟩:=any c o q x y;exact⟨_,q',d⟩
 obtain⟨m,hN,hl⟩:=I.loc;refine⟨I.ok,I.os,I.bare,⟨λb o q n hb hx=>?_,λb o q n hb hx=>?_,I.base.free,λb o q hx=>?_,I.base.tups,I.base.frzs,I.base.tbls⟩,⟨m,?_,λi x v q1 q2 q3=>?_⟩,λx c q=>?_,I.free,I.freeC,λp hp=>?_,?_,I.len⟩
 ·exact kp b o (I.base.keep b o q n hb hx) (n0 b o q).1 (n0 b o q).2 (nl b o q hb)
 ·obtain⟨l1,q1⟩:=I.base.slot b o q n hb hx;obtain⟨l2,q2⟩:=any b _ q1 (n0 b o q).1 (n0 b o q).2;exact⟨l2,q2⟩
 ·obtain⟨o1,q1⟩:=I.base.there b o q hx;obtain⟨l2,q2⟩:=any b _ q1 (n0 b o q).1 (n0 b o q).2;exact⟨_,q2⟩
 ·obtain⟨o,es,ep,ho,hd,hr⟩:=hN;obtain⟨x,y⟩:=df _ o ho (λvs z=>by rw[hd]at z;cases z);obtain⟨l,q'⟩:=any _ o ho x y;exact⟨_,es,ep,q',hd,hr⟩
 · obtain⟨u,r,k⟩:=hl i x v q1 q2 q3;refine⟨u,r,?_⟩;rcases k with k|⟨k,c,k1,k2⟩
   ·exact .inl k
   ·exact .inr ⟨k,c,k1,cel c _ k2⟩
 ·obtain⟨v,k⟩:=I.cell x c q;exact⟨v,cel c v k⟩
 · obtain⟨q1,q2,q3,q4,q5⟩:=I.pin p hp;refine⟨kp _ _ q1 (pn p hp).1 (pn p hp).2 λz=>?_,q2,q3,q4,q5⟩;rcases zl.mp (I.stkSub _ z)with e|z
   ·exact q3 e
   ·exact q4 z
 · refine kO I.hok λb u o e q=>kp b u q (λz=>?_) (λz=>?_) λz=>?_
   ·rw[z,na]at e;cases e
   ·rw[z,nT]at e;cases e
   ·rw[I.stkFree b z]at e;cases e
def EC(X:Cx)(Ng:PNS)(S:St)(R:XK):VSP:=λe s'=>∃a T cls H',e= .ref a/\Inv X Ng S H' s'/\X.WZ.heap.get? a=none/\X.WZ.heap.get? T=none/\(∀p∈X.pn++Ng,p.1≠a/\p.1≠T)/\H' a=none/\H' T=none/\TrF s'.heap a T cls/\R cls none H'
def CxT(X:Cx)(Ng:PNS)(S:St)(R:XK):Cx:={X with xe:=EC X Ng S R,pn:=X.pn++Ng}
variable{R:XK}
theorem qj(k:X.Ok):(CxT X Ng S R).Ok:=⟨k.mod,k.kind,k.glob,k.blt,k.above,k.inj,k.has,k.cab,k.hd,k.frames,k.stk,k.exf,k.bs,k.bsz,k.noex,k.exfs,k.funs,k.frf,k.gd⟩
theorem vM(I:Inv X Ng U H s):Inv (CxT X Ng S R) [] U H s:=⟨qj I.ok,I.os,I.bare,I.base,I.loc,I.cell,I.free,I.freeC,λp hp=>I.pin p (by rw[zX]at hp;exact hp),I.hok,I.len⟩
theorem vj(k:(CxT X Ng S R).Ok):X.Ok:=⟨k.mod,k.kind,k.glob,k.blt,k.above,k.inj,k.has,k.cab,k.hd,k.frames,k.stk,k.exf,k.bs,k.bsz,k.noex,k.exfs,k.funs,k.frf,k.gd⟩
theorem F6{p1:PNS}(I:Inv (CxT X Ng S R) p1 U H s):Inv X Ng U H s:=⟨vj I.ok,I.os,I.bare,I.base,I.loc,I.cell,I.free,I.freeC,λp hp=>I.pin p (jN _ hp),I.hok,I.len⟩
theorem OY{p1:PNS}{e:zg}{s':zm}(Pk:X.ex= [])(I:Inv (CxT X Ng S R) p1 S H s)(h:CXd X.prog X.w X.stack H s R e s'):EC X Ng S R e s':=by
 obtain⟨a,T,cls,H',rfl,ha,hT,na,nT,os,bare,un,hok,tr,hE⟩:=h;have I:=F6 I;have up:∀b,s.heap.get? b=none->X.WZ.heap.get? b=none:=λb q=>by
  rcases e:X.WZ.heap.get? b with _|o
  ·rfl
  ·obtain⟨o',z⟩:=I.base.there b o e (by rw[Pk];exact λz=>nomatch z);rw[q]at z;cases z
 refine⟨a,T,cls,H',rfl,I.call' os un hok bare (λb hb=>nomatch hb),up a ha,up T hT,λp hp=>⟨λz=>?_,λz=>?_⟩,na,nT,tr,hE⟩
 ·have:=(I.pin p hp).1;rw[z,ha]at this;cases this
 ·have:=(I.pin p hp).1;rw[z,hT]at this;cases this
end
def bI(x:Str)(f g:Fs):Fs:=λU G=>match f U G with
 |some (.error y,G')=>if y=x then g U G' else none
 |r=>r
def CxH(X:Cx)(a:Addr):Cx:={X with A:=X.A.mark (some (.ref a)),calm:=false,xe:=λ_ _=>False}
section
variable{X:Cx}{Ng:PNS}{U S:St}{H:Hp}{s:zm}{a T C:Addr}{x:Str}
theorem GF(I:Inv X Ng U H s):Inv (CxH X a) Ng U H s:=⟨(λk=>⟨k.mod,k.kind,k.glob,k.blt,k.above,k.inj,k.has,k.cab,λz=>(nomatch z),k.frames,k.stk,k.exf,k.bs,k.bsz,k.noex,k.exfs,k.funs,k.frf,k.gd⟩:X.Ok->(CxH X a).Ok) I.ok,I.os,I.bare,I.base,I.loc,I.cell,I.free,I.freeC,I.pin,I.hok,I.len⟩
theorem gE(k:X.Ok)(I:Inv (CxH X a) Ng U H s):Inv X Ng U H s:=⟨k,I.os,I.bare,I.base,I.loc,I.cell,I.free,I.freeC,I.pin,I.hok,I.len⟩
structure BAt(X:Cx)(body:List Stmt)(f:Fs):Prop where
 h:∀(Ng:PNS) (S:St) (R:XK) (s:zm) (H:Hp) (D:y6),Inv (CxT X Ng S R) [] S H s->w8 (wc X) (ZE X.mg R) f D S H->zv (zD X.prog X.w) X.A (execs body X.env) (SP (CxT X Ng S R) [] D) (EC X Ng S R) s
theorem Mm{B newId initId:String}{bmB:List zg}{np hp pos:Pos}{body suite:List Stmt}{b₀:Stmt}{f g:Fs}(hst:X.stack=X.env::X.outer)(hfr:X.env.frame=some X.env.locals)(Pk:X.ex= [])(hg:Gl X x)(hm:X.mg x=some (.ref C))(hC:eA X.base C B newId initId bmB)(hdb:(x==("__debug__" :Str))=false)
 (hb:BAt X body f) (hs:∀a,DB (CxH X a) ZF (b₀::suite) g):DS X ZF (.Try body [.ExceptHandler (some (.Name x np)) none (b₀::suite) hp] [] [] pos) (bI x f g):=by
 refine⟨λNg s U H D I hL=>?_⟩;obtain⟨X9,μ,G,sr,hr,p⟩:=hL;obtain⟨nm,q,Nn,bs,bm,hdct,sn,sub,ab,col,dd,k0,k1,k2,k3,k5,mN,q1,q2,q3,q4,q5⟩:=hC.ex;refine wpAny_Try_except (jK (hb.h Ng U (λc _ H1=>c= .ref C/\∃ X0 G1,Ext μ H X0 H1/\o8 (wc X) X0 G1 H1/\c7 (wc X) ZF X0 H1 (g X9 G1) (λfl X1 _ H'=>F7 (wc X) D fl X1 H')) s H D (vM I) ⟨X9,μ,G,sr,hr,?_⟩) (λfl s1 h1=>?_) (λe s1 h1=>?_))
 · unfold bI at p;rcases r:f X9 G with _|⟨r0,G1⟩
   ·rw[r]at p;exact p
   · rw[r]at p
     cases r0 with
     |ok fl=>exact p
     |error y=>
       intro X0 H1 x1 h1;dsimp only at p;split at p
       ·rename_i e;subst e;exact⟨C,hm,rfl,X0,G1,x1,h1,p.from x1⟩
       ·exact p.elim
 · cases fl with
   |next=>
     obtain⟨X2,H',I',k⟩:=h1;exact xu ⟨X2,H',F6 I',k⟩
   |brk=>
     obtain⟨X2,H',I',k⟩:=h1;exact⟨X2,H',F6 I',k⟩
   |cont=>
     obtain⟨X2,H',I',k⟩:=h1;exact⟨X2,H',F6 I',k⟩
   |ret u=>
     obtain⟨v,X2,H',I',k⟩:=h1;exact⟨v,X2,H',F6 I',k⟩
 · obtain⟨a,T,cls,H',rfl,I',ha,hT,pn,na,nT,tr,rfl,X0,G1,ex,hr1,p1⟩:=h1;have kk:=I'.ok;have fr:X.A.frames=some (X.env::X.outer):=hst▸I'.ok.frames;have st:s1.heap.FunFrames X.base (X.env::X.outer):=hst▸I'.stack;refine pO (base:=X.base) fr st hfr tr λh' h1 l1 sz l2 t2=>?_;rw[<-hst]at l2;have kp:∀b o,s1.heap.get? b=some o->b≠a->b≠T->b∉frs X.stack->h'.get? b=some o:=λb o q na nT nf=>l2.keep b o (l1.keep b o q (λz=>nomatch z) na nT) nf na (zB (zj q));have sl:∀b o,s1.heap.get? b=some o->b≠a->b≠T->b∈frs X.stack->∃sl,h'.get? b=some {o with slots:=sl}:=λb o q na nT nf=>l2.slot b o (l1.keep b o q (λz=>nomatch z) na nT) nf na (zB (zj q));have I2:Inv X Ng U H' {s1 with heap:=h'}:=TD I' ha hT pn na nT tr kp sl;refine wpAny_handleBy_cons (codeAny_handlers_test (C8 (X:=CxH X a) (GF I2) hg hm ?_ hdb)) (by intro q;cases q);obtain⟨oe,vs,oT,ts,he,hc,_⟩:=id t2;refine wpAny_excMatches_sub_self (I2.bk _ _ q1) he hc q5 ?_;refine codeAny_handlers_suite (FO t2 λh3 l3 t3=>?_);have I3:Inv X Ng U H' {s1 with heap:=h3}:=TD I' ha hT pn na nT tr (λb o q na nT nf=>l3.keep b o (kp b o q na nT nf) (λz=>nomatch z) na (zB (zj q))) λb o q na nT nf=>by
    obtain⟨l,z⟩:=sl b o q na nT nf;exact⟨l,l3.keep b _ z (λz=>nomatch z) na (zB (zj q))⟩
   refine jK ((hs a).h Ng _ U H' D (GF I3) ⟨X9,X0,G1,sr.mono ex,hr1,p1⟩) (λfl s4 h4=>?_) λ_ _ z=>z.elim
   cases fl with
   |next=>
     obtain⟨X2,H',I',k⟩:=h4;exact⟨X2,H',gE kk I',k⟩
   |brk=>
     obtain⟨X2,H',I',k⟩:=h4;exact⟨X2,H',gE kk I',k⟩
   |cont=>
     obtain⟨X2,H',I',k⟩:=h4;exact⟨X2,H',gE kk I',k⟩
   |ret u=>
     obtain⟨v,X2,H',I',k⟩:=h4;exact⟨v,X2,H',gE kk I',k⟩
end
def tAt(S:St)(t:TE):TE:=λU H Q=>U=S/\t U H Q
section
variable{X:Cx}{Ng:PNS}{U S:St}{H:Hp}{s:zm}{a T C:Addr}{x:Str}{R:XK}
structure EAt(X:Cx)(e:Expr)(f:Fe):Prop where
 h:∀(Ng:PNS) (S:St) (R:XK),PE (CxT X Ng S R) e (tAt S (v3 (wc X) (ZE X.mg R) f))
theorem dX(Pk:X.ex= [])(hF:X4 X.prog X.w X.K X.mg X.base (CXd X.prog X.w) k f fd ps (spX (wc X) n F))(hr:M7 k X.A)(hg:Gl X x)(hm:X.mg x=some (.ref f))(hk:jZ X.K (.ref f)=true)(hb:r6 X.K fd ps [])
 (ha:∀Ng S R,DA (CxT X Ng S R) (ZE X.mg R) (e::es) fs)
 (hdb:(x==("__debug__" :Str))=false) (he:zC (e::es) X.env= (false,eval e X.env)::zC es X.env) (Nx:(yy pos (zC es X.env)).any (·.1)=false):
 EAt X (.Call (.Name x p) (e::es) [] pos) (L0 (fnZ n F) fs):=by
 refine⟨λNg S R p1 s U H Q I hh=>?_⟩;obtain⟨rfl,X9,μ,G,sr,hG,pp⟩:=hh;refine xn (C8 (X:=CxT X Ng U R) I hg hm ?_ hdb);refine Zl (h₀:=X.base) I.ok.mod.kin hk (thn ((ha Ng U R).h pos p1 s U H (λvs H1=>spX (wc X) n F (vs++[]) H1 Q R) I ⟨X9,μ,G,sr,hG,(c7.bind pp).mono λds' X0 G1 H1 x' h1 p1 vs rv=>?_⟩) λus s1 Nq=>Nq.elim λvs H1 I1 r q=>⟨I1.kIn,?_⟩) he Nx
 ·obtain⟨hl,p2⟩:=IF p1;rw[zX];exact⟨by rw[<-rv.length];exact hl,ds',X0,G1,rv,h1,p2⟩
 · have r2:t8 (vs++[]) (us++[]):=r.append .nil;have hl:(us++[]).length=ps.length:=by rw[<-r2.length];exact hF.len _ _ _ _ q
   refine wpAny_call (Xv (hF.run X.A X.stack s1 H1 ⟨us, []⟩ (us++[]) (vs++[]) Q R hr I1.env0 (hb s1 us I1.kIn hl) r2 q) λr s' hq=>?_)
   cases r with
   |error e=>exact OY Pk I1 hq
   |ok fl=>
     cases fl with
     |ret u=>exact I1.after hq
     |next=>exact ya hq
     |brk=>exact ya hq
     |cont=>exact ya hq
theorem CP(h:EAt X e f)(hs:zC [e] X.env= (false,eval e X.env)::zC [] X.env):EAt X (.List [e] pos) (lstE (y0 f F0)):=by
 refine⟨λNg S R=>PE.mono (BG (R9 (h.h Ng S R) A9 hs)) λU H Q hh=>?_⟩;obtain⟨rfl,X9,μ,G,s,h,p⟩:=hh;refine⟨rfl,X9,μ,G,s,h,(c7.bind (c7.bind p)).mono λd X0 G1 H1 x' h1 p1 v rv=>?_⟩;have p2:=c7.ok (c7.bind p1) h1;have p3:=c7.ok p2 h1;show (_/\∀q,H1 q=none->Q (.ref q) (upd H1 q (.lst [v])));split at p3
 ·rename_i hz;exact⟨hz,λq hq=>h9 (vs:= [v]) h1 (show m9 (wc X) X0 H1 [d] [v] from⟨v, [],rfl,rv,rfl⟩) p3 q hq⟩
 ·exact p3.elim
theorem MR{gg}(he:EAt X e fa)(hg:∀Ng S R,DG (CxT X Ng S R) (ZE X.mg R) tg gg)(hs:ZY [tg] e pos.line X.env=pure false)(hw:ZZ [tg] e X.env=pure none)
 (h1:(yW [tg] X.env).map (·.2)= [Yr tg X.env]):BAt X [.Assign [tg] e pos] (J1 fa gg):=by
 refine⟨λNg S R s H D I hh=>?_⟩;have w:=kI (X:=CxT X Ng S R) (he.h Ng S R) (hg Ng S R).h hs hw h1;refine XY (thn (w [] s S H D I ⟨rfl,?_⟩) λfl s1 k=>?_)
 · obtain⟨X9,μ,G,s,h,p⟩:=hh;exact⟨X9,μ,G,s,h,(c7.bind p).mono λd X0 G1 H1 x' h1 p1 v rv=>
    ⟨d,X9,X0,G1,rv,s.mono x',h1,(c7.bind p1).mono λdσ2 WX G2 H2 x2 h2 p2 σ2 s2=>c7.ok p2 h2 σ2 s2⟩⟩
 · cases fl with
   |next=>exact xu k
   |_=>exact k
end
def VE:List zg:= [.type "ValueError",.type "Exception",.type "BaseException",.type "object"]
theorem eA.of{K:zd}{h:Heap}{C:Addr}(X:K.In h)(q:xY K C VE "ValueError.__new__" =true):eA h C "ValueError" "ValueError.__new__" "ValueError.__init__" VE:=by
 refine⟨PySem.F.excBase_ValueError,?_⟩;unfold xY at q;split at q
 · rename_i dd cd sl ho;split at q
   · rename_i C' bm k0 k1 k2 k3 n k5 hm hs;simp only[zP,beq_iff_eq,yK]at q;obtain⟨⟨⟨⟨⟨rfl,rfl⟩,hdel⟩,ht⟩,hok⟩,hni⟩:=q;obtain⟨nm,bs,mro,ns,qn,hd,sn,sub,ab,col,del⟩:=cd;dsimp only at hm hdel hok hni;subst hm hdel;have hsl:sl= #[k0,k1,k2,k3,some (.builtin "ValueError.__new__"),k5]:=by
      obtain⟨l⟩:=sl;simp only at hs;rw[hs]
     subst hsl;have T:=PySem.W.tail_of_in X ht;exact⟨nm,qn,ns,bs,bm,hd,sn,sub,ab,col,dd,k0,k1,k2,k3,k5,_,X _ _ ho,.of_isNs (PySem.W.isNs_of_in X hok),PySem.W.nsMap_none_of_in X hok hni,T,T.hasType (by decide)⟩
   ·cases q
 ·cases q
structure iB(K:zd)(mg:Str->Option zg)(x:Str):Prop where
 ex:∃C,mg x=some (.ref C)/\xY K C VE "ValueError.__new__" =true
theorem iB.of{K:zd}{mg:Str->Option zg}{x:Str}{h:Heap}{C:Addr}(X:K.In h)(G:h.Ns zJ mg)(e:jF K zJ x=some (some (.ref C)))(q:xY K C VE "ValueError.__new__" =true):iB K mg x:=⟨C,yj X G e,q⟩
structure XI(K:zd)(x:Str):Prop where
 ex:∃C,jF K zJ x=some (some (.ref C))/\xY K C VE "ValueError.__new__" =true
theorem XI.of{K:zd}{x:Str}{C:Addr}(e:jF K zJ x=some (some (.ref C)))(q:xY K C [.type "ValueError",.type "Exception",.type "BaseException",.type "object"] "ValueError.__new__" =true):XI K x:=⟨C,e,q⟩
theorem XI.ok{K:zd}{mg:Str->Option zg}{x:Str}{h:Heap}(c:XI K x)(X:K.In h)(G:h.Ns zJ mg):iB K mg x:=by obtain⟨C,e,q⟩:=c.ex;exact .of X G e q
structure gA(F:List D->M D)(n:Nat)(x:Str)(P:zF)(w:zO)(K:zd)(mg:Str->Option zg)(base:Heap)(k:Nat):Prop where
 ex:∃f fd ps,X4 P w K mg base (CXd P w) k f fd ps (spX ⟨K,mg⟩ n F)/\mg x=some (.ref f)/\jZ K (.ref f)=true/\r6 K fd ps []
abbrev CkZ(E:Ev)(F:List D->M D)(n:Nat)(x:Str)(k:Nat):Prop:=gA F n x E.P E.w E.K E.mg E.base k
section
variable{E:Ev}{x:Str}{st:Stmt}{k n m:Nat}{fb:Fs}
theorem A7(N ps:List Str)(X:EvX E)(Y:FH E.K x st)(S:M5 N ps (o5 st))(b:BA x st ps)(hn:ps.length=n)(hm:N.length=m)
 (hb:M5 N ps (o5 st)->∀f Pb A outer s H Z,M7 k (A.deeper (yc x (o5 st) s.heap.objs.size f Pb))->DB (W3 (CXd E.P E.w) E.P E.w E.K E.mg E.base N x (o5 st) f Pb A outer s H Z) (ZE E.mg Z) (N5 st) fb):CkZ E (v6 m fb) n x (k+1):=by
 obtain⟨h,X,G⟩:=X.ex;obtain⟨f,fd,c⟩:=Y.ff X G b;exact⟨f,fd,ps,FV c S hn hm (hb S f),c.m,c.F.kp,c.b⟩
theorem Fh(ps:List Str)(X:EvX E)(Y:FH E.K x st)(b:BA x st ps)(hn:ps.length=n):CkZ E (λ_=>M.stuck) n x k:=by obtain⟨h,X,G⟩:=X.ex;obtain⟨f,fd,c⟩:=Y.ff X G b;exact⟨f,fd,ps,dS hn,c.m,c.F.kp,c.b⟩
end
theorem c7.zmono{α:Type}{c:Wc}{Z Z':XC}{μ:List Addr}{H:Hp}{r:Option (Except Str α×DH)}{K:α->List Addr->DH->Hp->Prop}(h:c7 c Z μ H r K)(k:∀x μ G H,Z x μ G H->Z' x μ G H):c7 c Z' μ H r K:=by
 match r,h with
 |some (.ok a,G'),h=>exact h
 |some (.error x,G'),h=>exact λWX H2 p2 e=>k _ _ _ _ (h WX H2 p2 e)
structure LC(X:Cx)(Z:XC):Prop where
 ex:∃E:XK,wB (CXd X.prog X.w) X E/\∀x μ G H,Z x μ G H->ZE X.mg E x μ G H
theorem aV{X:Cx}:LC X ZF:=⟨λ_ _ _=>False,λ_ _ _ _ _ _ _ h=>(by obtain⟨_,_,_,_,_,_,_,_,_,_,_,_,_,_,z⟩:=h;exact z.elim),λ_ _ _ _ z=>z.elim⟩
section
variable{P:zF}{w:zO}{K:zd}{mg:Str->Option zg}{base:Heap}{N:List Str}{qual:Str}{scope:Scope}{cd:zg}{A:zV}{outer:List Env}{s0:zm}{H0:Hp}{E:XK}{fa:Addr}
theorem tR:LC (W3 (CXd P w) P w K mg base N qual scope fa cd A outer s0 H0 E) (ZE mg E):=⟨E,uV,λ_ _ _ _ z=>z⟩
theorem uY{e1:Expr}(hC:iB K mg x)(hg:Gl (W3 (CXd P w) P w K mg base N qual scope fa cd A outer s0 H0 E) x)(ha:DA (W3 (CXd P w) P w K mg base N qual scope fa cd A outer s0 H0 E) (ZE mg E) [e1] (y0 fe F0))
 (hdb:(x==("__debug__" :Str))=false) (hs: [e1].all K1=true):DS (W3 (CXd P w) P w K mg base N qual scope fa cd A outer s0 H0 E) (ZE mg E) (.Raise (some (.Call (.Name x np) [e1] [] cpos)) none pos) (W8 x (y0 fe F0)):=by
 obtain⟨C,hm,qq⟩:=hC.ex;rw[jB,zP]at hs;refine⟨λNg s U H D I hL=>(vz rfl hg hm (eA.of I.ok.mod.kin qq) ha hdb (S0 hs.1) (by rw[M8];exact Q8 hs.2) λU G ds G' h=>?_).h Ng s U H D I hL⟩;unfold y0 F0 at h;simp only[M.bind_eq]at h;rcases q:fe U G with _|⟨r,G1⟩
 ·rw[q]at h;cases h
 · rw[q]at h
   cases r with
   |error y=>cases h
   |ok d=>cases h;rfl
end
section
variable{X:Cx}{Z:XC}
theorem AV(hT:LC X Z)(hF:∃k kk,gA F n x X.prog X.w X.K X.mg X.base k/\M7 kk X.A/\k<=kk)(hg:Gl X x)(ha:DA X Z (e::es) fs)(hdb:(x==("__debug__" :Str))=false)(hs:(e::es).all K1=true):
 DE X Z (.Call (.Name x p) (e::es) [] pos) (L0 (fnZ n F) fs):=by
 obtain⟨k,kk,hF,hr,hk⟩:=hF;obtain⟨f,fd,ps,h1,h2,h3,h4⟩:=hF.ex;obtain⟨E,hp,hz⟩:=hT.ex;rw[jB,zP]at hs;refine DE.of (fL (E:=E) h1 (hr.mono hk) hg h2 h3 h4 .nil hp ha.h hdb (S0 hs.1) (by rw[M8];exact Q8 hs.2)) λU H Q Nk=>Nk.elim λX9 μ G s h p=>?_;refine⟨X9,μ,G,s,h,(c7.bind p).mono λds' X0 G1 H1 x' h1 p1 vs rv=>?_⟩;obtain⟨hl,p2⟩:=IF p1;show spX (wc X) n F (vs++[]) H1 Q E;rw[zX];exact⟨by rw[<-rv.length];exact hl,ds',X0,G1,rv,h1,p2.zmono hz⟩
def d6(i n:Nat)(tab:Str->Option (List D->M D))(fs:DSt->M (List D)):Fe:=λU=>match U[i]? with
 |some (some (.fn x))=>match tab x with
   |some F=>fs U >>= fnZ n F
   |none=>M.stuck
 |_=>M.stuck
theorem pR{α:Type}{X9:DSt}{c:Wc}{H:Hp}{G:DH}{K:D->List Addr->DH->Hp->Prop}(p:c7 c Z μ H (d6 i n tab fs X9 G) K):
 ∃x F,X9[i]? =some (some (.fn x))/\tab x=some F/\c7 c Z μ H ((fs X9 >>= fnZ n F) G) K:=by
 delta d6 at p;rcases hx:X9[i]? with _|_|d
 ·rw[hx]at p;exact p.elim
 ·rw[hx]at p;exact p.elim
 · rw[hx]at p;rcases d with _|_|_|_|_|_|x|_<;>try exact p.elim
   have p:c7 c Z μ H ((match tab x with|some F=>fs X9 >>= fnZ n F|none=>M.stuck:M D) G) K:=p;rcases hF:tab x with _|F
   ·rw[hF]at p;exact p.elim
   ·rw[hF]at p;exact⟨x,F,rfl,hF,p⟩
theorem iX{e:Expr}{y:Str}(hTh:LC X Z)(hT:∀x F,tab x=some F->∃k kk,gA F n x X.prog X.w X.K X.mg X.base k/\M7 kk X.A/\k<=kk)(hv:PE X (.Name y p) (y9 i))(ha:DA X Z (e::es) fs)(hs:(e::es).all K1=true):
 DE X Z (.Call (.Name y p) (e::es) [] pos) (d6 i n tab fs):=⟨by
 intro Ng s U H Q I h;obtain⟨X9,μ,G,sr,hr,pp⟩:=h;obtain⟨E,hp,hz⟩:=hTh.ex;obtain⟨x,F,hx,hF,pp⟩:=pR (α:=D) pp;obtain⟨k,kk,hC,hrm,hk⟩:=hT x F hF;obtain⟨f,fd,ps,f1,f2,f3,f4⟩:=hC.ex;rw[jB,zP]at hs;obtain⟨v,e1,r⟩:=sr.2 i _ hx;unfold f9 at r;obtain⟨a,ea,rfl⟩:=r;have ea:X.mg x=some (.ref a):=ea;rw[f2]at ea
 cases ea
 refine xn (thn (hv Ng s U H (λv' H'=>v'= .ref f/\H'=H) I ⟨_,e1,rfl,rfl⟩) λu s1 ⟨v',H',I1,rv,e2,e3⟩=>?_);subst e2 e3
 cases rv
 refine Zl (h₀:=X.base) I1.ok.mod.kin f3 (thn (ha.h pos Ng s1 U H' (λvs H2=>spX (wc X) n F vs H2 Q E) I1 ⟨X9,μ,G,sr,hr,(c7.bind pp).mono λds' X0 G1 H1 x' h1 p1 vs rv=>?_⟩) λus s2 ⟨vs,H2,I2,r2,q2⟩=>⟨I2.kIn,?_⟩) (S0 hs.1) (by rw[M8];exact Q8 hs.2)
 ·obtain⟨hl,p2⟩:=IF p1;exact⟨by rw[<-rv.length];exact hl,ds',X0,G1,rv,h1,p2.zmono hz⟩
 ·exact SG (dvs:= []) (ds:= []) f1 (hrm.mono hk) f4 .nil hp I2 r2 (by rw[zX];exact q2)⟩
theorem vq(hTh:LC X Z)(ha:∃k kk,gA Fa n a X.prog X.w X.K X.mg X.base k/\M7 kk X.A/\k<=kk)(hb:∃k kk,gA Fb n b X.prog X.w X.K X.mg X.base k/\M7 kk X.A/\k<=kk)
 (hN:X.N[i]? =some y) (hv:Vis X.env.scope y) (hd:(y==("__debug__" :Str))=false) (hcd:(y==("__classdict__" :Str))=false) (hs:(e::es).all K1=true) (hA:DA X Z (e::es) fs):
 DE X Z (.Call (.Name y p) (e::es) [] pos) (d6 i n (L3 a b Fa Fb) fs):=iX hTh (λx F h=>by
 unfold L3 at h;split at h
 ·rename_i k;cases h;rw[k];exact ha
 · split at h
   ·rename_i k;cases h;rw[k];exact hb
   ·cases h) (NA hN hv hd hcd) hA hs
theorem nU(hF:∃F n k,gA F n x X.prog X.w X.K X.mg X.base k)(hg:Gl X x)(hdb:(x==("__debug__" :Str))=false):DE X Z (.Name x p) (cE (.fn x)):=⟨by
 intro Ng s U H Q I h;obtain⟨F,n,k,hF⟩:=hF;obtain⟨f,fd,ps,f1,f2,f3,f4⟩:=hF.ex;obtain⟨X9,μ,G,sr,hr,pp⟩:=h;exact C8 I hg f2 ⟨.ref f,H,I,rfl,c7.ok pp hr _ ⟨f,f2,rfl⟩⟩ hdb⟩
theorem UV(Pk:X.ex= [])(hF:∃k kk,gA F n x X.prog X.w X.K X.mg X.base k/\M7 kk X.A/\k<=kk)(hg:Gl X x)(ha:∀Ng S R,DA (CxT X Ng S R) (ZE X.mg R) (e::es) fs)(hdb:(x==("__debug__" :Str))=false)(hs:(e::es).all K1=true):
 EAt X (.Call (.Name x p) (e::es) [] pos) (L0 (fnZ n F) fs):=by
 obtain⟨k,kk,hF,hr,hk⟩:=hF;obtain⟨f,fd,ps,h1,h2,h3,h4⟩:=hF.ex;rw[jB,zP]at hs;exact dX Pk h1 (hr.mono hk) hg h2 h3 h4 ha hdb (S0 hs.1) (by rw[M8];exact Q8 hs.2)
theorem Dj{np hp pos:Pos}{body suite:List Stmt}{b₀:Stmt}{f g:Fs}(hst:X.stack=X.env::X.outer)(hfr:X.env.frame=some X.env.locals)(Pk:X.ex= [])(hC:iB X.K X.mg x)(hg:Gl X x)(hdb:(x==("__debug__" :Str))=false)
 (hb:BAt X body f) (hs:∀a,DB (CxH X a) ZF (b₀::suite) g):DS X ZF (.Try body [.ExceptHandler (some (.Name x np)) none (b₀::suite) hp] [] [] pos) (bI x f g):=by
 obtain⟨C,hm,q⟩:=hC.ex;exact⟨λNg s U H D I hL=>(Mm hst hfr Pk hg hm (eA.of I.ok.mod.kin q) hdb hb hs).h Ng s U H D I hL⟩
end
def PC(f:Fe):Fe:=λU=>do
 match <-f U with
 | .str z=>if (xI z).length<=ze then pure (.str (xI z))else M.stuck
 |_=>M.stuck
def i5:List Fe->Str->Fe
 |[],Nz=>λ_=>if Nz.length<=ze then pure (.str Nz)else M.stuck
 |f::r,Nz=>λU=>do
   match <-f U with
   | .str y=>if (Nz++y).length<=ze then i5 r (Nz++y) U else M.stuck
   |_=>M.stuck
section
variable{X:Cx}{Z:XC}
theorem LZ(he:DE X Z e f):DE X Z (.FormattedValue e 114 none pos) (PC f):=⟨by
 intro Ng s U H Q I h;obtain⟨X9,μ,G,sr,hr,p⟩:=h;refine wpAny_FormattedValue_repr (thn (he.h Ng s U H (λv H1=>∃z,v= .str z/\(xI z).length<=ze/\Q (.str (xI z)) H1) I ⟨X9,μ,G,sr,hr,(c7.bind p).mono λd X0 G1 H1 x' h1 p1 v rv=>?_⟩) λu s1 hE=>hE.elim λv H1 I1 r q=>?_)
 · rcases d with _|_|_|z|_|_|_|_<;>try exact p1.elim
   dsimp only at p1;split at p1
   ·rename_i hz;rw[A2 rv];exact⟨z,rfl,hz,c7.ok p1 h1 _ (by unfold f9;rfl)⟩
   ·exact p1.elim
 ·obtain⟨z,rfl,hz,q⟩:=q;obtain⟨t,rfl⟩:=r;refine wpAny_pyReprObj_gives (Xj _ _ _) slot_str_repr entry_str_repr (args_str_repr _) (gives_str_repr z t) ?_ rfl hz;exact formatField_str (λt' tk=>⟨.str (xI z),H1,I1.tok _,⟨_,rfl⟩,q⟩) hz⟩
structure DJ(X:Cx)(Z:XC)(es:List Expr)(fs:List Fe):Prop where
 h:∀(Nz:Str) (Ng:PNS) (s:zm) (U:St) (H:Hp) (Q:VK),Inv X Ng U H s->v3 (wc X) Z (i5 fs Nz) U H Q->Joins (zD X.prog X.w) X.A X.xe (evalEach es X.env) Nz (λout W1=>out.length<=ze/\EP X Ng U Q (.str out W1.toks) {W1 with toks:=W1.toks+1}) s
theorem kX:DJ X Z [] []:=⟨λNz Ng s U H Q I h=>by
 obtain⟨X9,μ,G,sr,hr,p⟩:=h;show _/\_;unfold i5 at p;split at p
 ·rename_i hz;exact⟨hz,.str Nz,H,I.tok _,⟨_,rfl⟩,c7.ok p hr _ (by unfold f9;rfl)⟩
 ·exact p.elim⟩
theorem LY(he:DE X Z e f)(hr:DJ X Z es fs):DJ X Z (e::es) (f::fs):=⟨λNz Ng s U H Q I h=>by
 obtain⟨X9,μ,G,sr,hr',p⟩:=h;show zv _ _ (eval e X.env) _ _ s;refine thn (he.h Ng s U H (λv H1=>∃y,v= .str y/\(Nz++y).length<=ze/\v3 (wc X) Z (i5 fs (Nz++y)) U H1 Q) I ⟨X9,μ,G,sr,hr',(c7.bind p).mono λd X0 G1 H1 x' h1 p1 v rv=>?_⟩) λu s1 hE=>hE.elim λv H1 I1 r q=>?_
 · rcases d with _|_|_|y|_|_|_|_<;>try exact p1.elim
   dsimp only at p1;split at p1
   ·rename_i hz;rw[A2 rv];exact⟨y,rfl,hz,X9,X0,G1,sr.mono x',h1,p1⟩
   ·exact p1.elim
 ·obtain⟨y,rfl,hz,q⟩:=q;obtain⟨t,rfl⟩:=r;exact⟨y,t,rfl,hz,hr.h _ Ng s1 U H1 Q I1 q⟩⟩
theorem aZ(h:DJ X Z (e1::e2::es) fs):DE X Z (.JoinedStr (e1::e2::es) pos) (i5 fs xP):=⟨λNg s U H Q I hh=>wpAny_JoinedStr (h.h _ Ng s U H Q I hh)⟩
end
end DL
namespace DL
open PySem PySem.Spec
section
variable{prog:zF}{w:zO}{A:zV}{E:VSP}{h:Heap}{g:Array GenState}{d:Drawn}{t:Nat}{os:OsState}{a C:Addr}{o:Obj}{vs:Array zg}{K:zd}
theorem gY{R:Result->zm->Prop}(X:K.In h)(hm:jL K C (.type "object")=some true)(hx:h.get? a=some o)(hc:o.cls= .ref C)(hq:R (.ok (.ret (.ref C))) ⟨h,g,d,t,os⟩):
 Yq (zD prog w) A (.call (.builtin "getset_descriptor.__get__") ⟨[.builtin "object.__class__",.ref a,.ref C], []⟩) R ⟨h,g,d,t,os⟩:=by
 have hT5:(⟨h,g,d,t,os⟩:zm).TypeIs (.builtin "object.__class__") "getset_descriptor":=Ys;have L:=Yk (M:=zD prog w) X hm;rw[<-F.owner_object_class]at L;refine codeAny_call_builtin JH.plain F.entry_gs_get (JH.check _ _ _ _ _ _ _ _ hT5 (F.args_gs_get _ _ _) ?_)
 repeat (any_goals (first|assumption|(with_reducible refine yR hx ?_;rw[hc])|with_reducible refine L.at ?_|wp_step))
 refine⟨Code.quiet_builtin _ (by decide +kernel),xv F.entry_object_class ?_⟩
 repeat (any_goals (first|assumption|(with_reducible refine yR hx ?_;rw[hc])|wp_step))
variable(X:K.In h)(hm:jL K C (.type "object")=some true)(hB:jL K C (.type "BaseException")=some true)(hl:jv K (.ref C) "__class__" =some (some (.builtin "object.__class__")))
 (hga:jv K (.ref C) "__getattribute__" =some (some (.builtin "BaseException.__getattribute__"))) (hgn:jv K (.ref C) "__getattr__" =some none) (hx:h.get? a=some o) (hc:o.cls= .ref C)
include X hm hl hx hc
theorem cQ{tk:Tok}{Q:Fin->zm->Prop}(hq:Q (.done (.ret (.ref C))) ⟨h,g,d,t,os⟩):
 zv (zD prog w) A (Yt.«object.__getattribute__» ⟨[.ref a,.str "__class__" tk], []⟩) Q E ⟨h,g,d,t,os⟩:=by
 have hT5:(⟨h,g,d,t,os⟩:zm).TypeIs (.builtin "object.__class__") "getset_descriptor":=Ys;have f5:=Ys;have f6:=JH.lookup;have f7:=F.slot_gs_set.lookup;have L:=Yb (M:=zD prog w) X hl
 repeat (any_goals (first|assumption|(with_reducible refine yR hx ?_;rw[hc])|with_reducible refine L.at ?_|wp_step))
 refine gY X hm hx hc ?_
 repeat (any_goals (first|assumption|wp_step))
include hB
omit hl hm in
theorem oX{nameV:zg}{Q:Unit->zm->Prop}(hq:Q () ⟨h,g,d,t,os⟩):zv (zD prog w) A (checkBuiltinCall "BaseException.__getattribute__" ⟨[.ref a,nameV], []⟩) Q E ⟨h,g,d,t,os⟩:=by
 have hk:builtinKind "BaseException.__getattribute__" =some .slot:=by decide +kernel
 have hsplit:splitId "BaseException.__getattribute__" =some ("BaseException", "__getattribute__"):=by decide +kernel
 have L:=Yk (M:=zD prog w) X hB;have ha:=F.args_bexc_ga (.ref a) nameV;simp only[checkBuiltinCall,hk,hsplit];refine zc ?_;unfold isInstance
 repeat (first|(with_reducible refine yR hx ?_;rw[hc])|with_reducible refine L.at ?_|wp_step)
 exact hq
theorem vZ{tk:Tok}{R:Result->zm->Prop}(hq:R (.ok (.ret (.ref C))) ⟨h,g,d,t,os⟩):
 Yq (zD prog w) A (.call (.builtin "BaseException.__getattribute__") ⟨[.ref a,.str "__class__" tk], []⟩) R ⟨h,g,d,t,os⟩:=
 codeAny_call_builtin F.excAttr_ValueError.ga.plain F.entry_bexc_ga (oX X hB hx hc (cQ X hm hl hx hc hq))
include hga hgn
theorem kZ{tk:Tok}{Q:VSP}(hq:Q (.ref C) ⟨h,g,d,t,os⟩):zv (zD prog w) A (getAttrBy (.ref a) (.str "__class__" tk) false) Q E ⟨h,g,d,t,os⟩:=by
 have f3:=F.excAttr_ValueError.ga.bind (.ref a);have hx2:(Value.builtin "BaseException.__getattribute__" == Value.builtin "object.__getattribute__")=false:=by decide +kernel
 have hx1:(onTheHeap (Value.ref C)&&Value.builtin "BaseException.__getattribute__" == Value.builtin "object.__getattribute__")=false:=by rw[hx2];rfl
 have L1:=Yb (M:=zD prog w) X hga;have L2:=Yb (M:=zD prog w) X hgn
 repeat (any_goals (first|assumption|(with_reducible refine yR hx ?_;rw[hc])|with_reducible refine L1.at ?_|with_reducible refine L2.at ?_|wp_step))
 refine vZ X hm hB hl hx hc ?_
 repeat (any_goals (first|assumption|wp_step))
theorem EQ{Q:Option zg->zm->Prop}(hq:Q (some (.ref C)) ⟨h,g,d,t+1,os⟩):zv (zD prog w) A (getAttr? (.ref a) "__class__") Q E ⟨h,g,d,t,os⟩:=by
 unfold getAttr? getAttrBy?
 repeat (any_goals (first|assumption|with_reducible apply kZ X hm hB hl hga hgn hx hc|wp_step))
end
def XAt(a C:Addr)(h:Heap):Prop:=∃o,h.get? a=some o/\o.cls= .ref C
theorem qd{K:zd}{a C:Addr}{cd:ClassData}(hcd:xZ K C=some cd)(hm:jL K C (.type "object")=some true)(hB:jL K C (.type "BaseException")=some true)(hl:jv K (.ref C) "__class__" =some (some (.builtin "object.__class__")))
 (hga:jv K (.ref C) "__getattribute__" =some (some (.builtin "BaseException.__getattribute__"))) (hgn:jv K (.ref C) "__getattr__" =some none):PySem.W.KitX K (.ref a) (.ref C) (XAt a C) where
 ty:=λM h _ p=>by obtain⟨o,h1,h2⟩:=p;exact h2▸(PySem.W.Looks.ld h1).andThen .now
 it:=λ_ _ X _=>by
  unfold xZ at hcd;split at hcd
  ·rename_i c' d' cd' sl' ho;intro A' Q' E' s' k q;unfold isType loadHead;exact zc (wpAny_loadPart (k _ _ (X _ _ ho)) (zt q))
  ·cases hcd
 ne:=λh tp dd Nj n sl X htp=>by
  refine xV.mpr λq=>?_;have e:C=tp:=Value.ref.inj (beq_iff_eq.mp q);subst e;unfold xZ at hcd;split at hcd
  · rename_i c' d' cd' sl' ho;have z:=(X _ _ ho).symm.trans htp
    cases z
  ·cases hcd
 ca:=λ{_ _ _ _ _ s} X p k=>by obtain⟨h,g,d,t,os⟩:=s;obtain⟨o,h1,h2⟩:=p;exact EQ X hm hB hl hga hgn h1 h2 k
theorem Fw{M:Model}{A:zV}{E:VSP}{K:zd}{h:Heap}{g:Array GenState}{d:Drawn}{t:Nat}{os:OsState}{a C B:Addr}{o:Obj}{Q:Bool->zm->Prop}(X:K.In h)(hx:h.get? a=some o)(hc:o.cls= .ref C)
 (hB:jL K B (.type "BaseException")=some true) (hcl:xZ K B=some cd) (hty:xp K (.ref B)=some (.type "type")) (hs:jX K (.ref C) (.ref B)=some true) (hq:Q true ⟨h,g,d,t,os⟩):zv M A (excMatches (.ref a) (.ref B)) Q E ⟨h,g,d,t,os⟩:=by
 have L1:=Yk (M:=M) X hB;have L2:=PySem.W.looks_subIn (M:=M) X hs;obtain⟨oB,hb,hbc⟩:=Option.map_eq_some_iff.mp (show (K.lookup B).map (·.cls)=some (.type "type")from hty);unfold xZ at hcl;rw[hb]at hcl;obtain⟨c0,d0,dt,sl⟩:=oB;rcases dt with _|_|_|_|_|_|_|_|_|_|_|_|_|_<;>try (cases hcl;done)
 have hB':=X _ _ hb;have f:=tc_notTuple;unfold excMatches
 repeat (first|(with_reducible refine yR hx ?_;rw[hc])|(with_reducible refine yR hB' ?_;rw[hbc])|with_reducible refine L1.at ?_|with_reducible refine L2.at ?_|wp_step)
 all_goals exact hq
end DL
namespace DL
open PySem PySem.Spec L2
open PyProof.Rows hiding St
section
variable{X:Cx}{Ng:PNS}{U:St}{H:Hp}{s:zm}
theorem KI{M:Model}{A:zV}{E:VSP}{i:Nat}{x:Str}{pos:Pos}{Q:Unit->zm->Prop}(I:Inv X Ng U H s)(hN:X.N.Nodup)(hi:X.N[i]? =some x)(hk:X.env.scope.names.lookup x=some .local)
 (h:∀s',Inv X Ng (U.set i none) H s'->Q () s'):zv M A (do bindName X.env x .none;unbindBehindTheSuite X.env x pos) Q E s:=by
 obtain⟨m,hn,hl⟩:=id I.loc;have hcls:(X.env.scope.kind == .class||(X.env.scope.kind == .module&&X.env.locals != X.env.globals))=false:=by rw[I.ok.kind];rfl
 have hiσ:i<U.length:=by rw[I.len];exact(jG.mp hi).1
 have cne:=I.cne;refine wpAny_nameGoes_keeps hk hn hcls λh' v hn' hs=>?_;obtain⟨oL,_,_,hoL,_⟩:=id hn;have tracked:HOk X.prog X.w H h':=λb ob e=>by
  refine(I.hok b ob e).stay (λc w' hc q=>(hs.2 c ?_).trans q) (λ_ q=>q) λ_ _ q=>q;rintro rfl;rcases hc with rfl|hc
  ·rw[I.free]at e;cases e
  ·rw[I.free]at hc;cases hc
 refine h _ ⟨I.ok,I.os,I.bare,⟨λb o e n hb hx=>?_,λb o e n hb hx=>?_,I.base.free,λb o e hx=>?_,I.base.tups,I.base.frzs,I.base.tbls⟩,⟨_,hn',λj y v' e1 e2 e3=>?_⟩,λy c e=>?_,I.free,I.freeC,λp hp=>?_,tracked,by simpa using I.len⟩
 ·exact(hs.2 b (zB (zK (zj e) I.ok.above))).trans (I.base.keep b o e n hb hx)
 ·obtain⟨sl,e1⟩:=I.base.slot b o e n hb hx;exact⟨sl,(hs.2 b (zB (zK (zj e) I.ok.above))).trans e1⟩
 ·obtain⟨o',e1⟩:=I.base.there b o e hx;exact⟨o',(hs.2 b (zB (zK (zj e) I.ok.above))).trans e1⟩
 · by_cases hj:j=i
   · subst hj;rw[zU hiσ]at e2
     cases e2
   · rw[jm (Ne.symm hj)]at e2;obtain⟨u',r',q⟩:=hl j y v' e1 e2 e3;refine⟨u',r',?_⟩;rcases q with⟨k,e⟩|⟨k,c,e,z⟩
     ·refine .inl ⟨k,?_⟩;have:y≠x:=λe=>hj (SF hN e1 (e▸hi));simp[this,e]
     ·exact .inr ⟨k,c,e,z.sameBut hs (cne y c e)⟩
 ·obtain⟨w',z⟩:=I.cell y c e;exact⟨w',z.sameBut hs (cne y c e)⟩
 ·obtain⟨e,n,ne,nf,d⟩:=I.pin p hp;exact⟨(hs.2 p.1 ne).trans e,n,ne,nf,d⟩
def CxE(X:Cx)(Ng:PNS)(a:Addr)(oe:Obj):Cx:={X with A:=X.A.mark (some (.ref a)),calm:=false,xe:=λ_ _=>False,pn:=X.pn++Ng++[(a,oe)]}
theorem hZ{a:Addr}{oe:Obj}{vs:Array zg}(I:Inv X Ng U H s)(na:H a=none)(ha:s.heap.get? a=some oe)(hd:oe.data= .fields vs):Inv (CxE X Ng a oe) [] U H s:=by
 refine⟨(λk=>⟨k.mod,k.kind,k.glob,k.blt,k.above,k.inj,k.has,k.cab,λz=>(nomatch z),k.frames,k.stk,k.exf,k.bs,k.bsz,k.noex,k.exfs,k.funs,k.frf,k.gd⟩:X.Ok->(CxE X Ng a oe).Ok) I.ok,I.os,I.bare,I.base,I.loc,I.cell,I.free,I.freeC,λp hp=>?_,I.hok,I.len⟩;rw[zX]at hp;rcases jw.mp hp with hp|hp
 ·exact I.pin p hp
 · cases zR.mp hp
   refine⟨ha,na,λz=>?_,λz=>?_,λv z=>?_⟩
   ·obtain⟨m,⟨o',es,ep,ho',Qd,_⟩,_⟩:=I.loc;have z:a=X.env.locals:=z;rw[<-z,ha]at ho';cases ho';rw[hd]at Qd;cases Qd
   ·obtain⟨_,o,ho,k⟩:=I.funs.mem z;have ho:s.heap.get? a=some o:=ho;rw[ha]at ho;cases ho;exact k vs hd
   ·have z:oe.data= .cell v:=z;rw[hd]at z;cases z
theorem iN{a:Addr}{oe:Obj}(k:X.Ok)(I:Inv (CxE X Ng a oe) [] U H s):Inv X Ng U H s:=⟨k,I.os,I.bare,I.base,I.loc,I.cell,I.free,I.freeC,λp hp=>I.pin p (by rw[zX];exact jN _ hp),I.hok,I.len⟩
end
structure XJ(K:zd)(mg:Str->Option zg)(x m n1 n2 n3 n4:Str):Prop where
 ex:∃C B N1 N2 N3 N4,mg x=some (.ref C)/\mg m=some (.ref B)/\mg n1=some (.ref N1)/\mg n2=some (.ref N2)/\mg n3=some (.ref N3)/\mg n4=some (.ref N4)/\mg "ValueError" =none/\
  (∀a,PySem.W.KitX K (.ref a) (.ref C) (XAt a C))/\jL K B (.type "BaseException")=some true/\(∃cd,xZ K B=some cd)/\xp K (.ref B)=some (.type "type")/\jX K (.ref C) (.ref B)=some true/\
  jY K (.ref C) (.type "ValueError")=some true/\yO K (.ref C) [.ref N1,.ref N2,.ref N3,.ref N4]=some false
def UG(K:zd)(a C:Addr):List V->Hp->VK->Prop:=λxs H Q=>
 (∃B b,xs= [.ref a,.ref B]/\jY K (.ref C) (.ref B)=some b/\Q (.bl b) H)\/(∃T b,xs= [.ref a,.ty T]/\jY K (.ref C) (.type T)=some b/\Q (.bl b) H)\/
 ∃q B1 B2 B3 B4 b,xs= [.ref a,.ref q]/\H q=some (.tup [.ref B1,.ref B2,.ref B3,.ref B4])/\yO K (.ref C) [.ref B1,.ref B2,.ref B3,.ref B4]=some b/\Q (.bl b) H
section
variable{Y:Cx}{a C:Addr}{oe:Obj}
theorem Nd(hp:(a,oe)∈Y.pn)(hc:oe.cls= .ref C)(kx:PySem.W.KitX Y.K (.ref a) (.ref C) (XAt a C)):T4 Y (.builtin "isinstance") (UG Y.K a C):=by
 intro Ng s U H xs us Q I r h;have hx:XAt a C s.heap:=⟨oe,(I.pin (a,oe) (jN _ hp)).1,hc⟩;rcases h with⟨B,b,rfl,e,q⟩|⟨T,b,rfl,e,q⟩|⟨t,B1,B2,B3,B4,b,rfl,ht,e,q⟩
 · obtain⟨u,u',rfl,ru,ru'⟩:=aA r
   cases ru;cases ru'
   exact YX kx I.kIn hx e (λz=>nomatch z) λtk=>⟨.bl b,H,I.tok tk,rfl,q⟩
 · obtain⟨u,u',rfl,ru,ru'⟩:=aA r
   cases ru;cases ru'
   exact YX kx I.kIn hx e (λz=>nomatch z) λtk=>⟨.bl b,H,I.tok tk,rfl,q⟩
 · obtain⟨u,u',rfl,ru,ru'⟩:=aA r
   cases ru;cases ru'
   obtain⟨Nj,rr,⟨⟨cls,dd,data,sl⟩,h1,h2,n,h3⟩,_⟩:=I.tuple (.inl (.inl ht));simp only at h2 h3;subst h2 h3;have hi:Nj= [Value.ref B1,.ref B2,.ref B3,.ref B4]:=by
    rcases rr with _|⟨r1,z⟩;rcases z with _|⟨r2,z⟩;rcases z with _|⟨r3,z⟩;rcases z with _|⟨r4,z⟩;rcases z with _|_
    cases r1;cases r2;cases r3;cases r4;rfl
   exact PySem.W.kia_tup kx I.kIn hx h1 (by rw[hi];exact e) (λz=>nomatch z) λtk=>⟨.bl b,H,I.tok tk,rfl,q⟩
end
def fH(i:Nat)(a b c:Bool):Fs:=λU G=>some (.ok (.nx (U.set i (some (.ref G.length)))),G++[.lst [.bl a,.bl b,.bl c]])
def EA(x:Str)(i:Nat)(f g:Fs):Fs:=λU G=>match f U G with
 |some (.error y,G')=>if y=x then (match U[i]? with|some none=>g U G'|_=>none)else none
 |r=>r
theorem vp:zQ "ValueError" =some (.type "ValueError"):=by decide +kernel
section
variable{X:Cx}{Ng:PNS}{S:St}{H:Hp}{s:zm}{a C:Addr}{oe:Obj}{ie ik:Nat}{x m n1 n2 n3 n4 en kn:Str}{N1 N2 N3 N4:Addr}{D:y6}
 {p0 p1 p2 p3 p4 p5 p6 p7 p8 p9 p10 q0 q1 q2 q3 q4 q5 q6 q7 q9 q10 q11 q12:Pos} {q8:Nat}
theorem Gx(I:Inv (CxE X Ng a oe) [] S H s)(hcl:oe.cls= .ref C)(kx:PySem.W.KitX X.K (.ref a) (.ref C) (XAt a C))(hi:X.mg "isinstance" =none)(hv:X.mg "ValueError" =none)
 (hmx:X.mg x=some (.ref C)) (hm1:X.mg n1=some (.ref N1)) (hm2:X.mg n2=some (.ref N2)) (hm3:X.mg n3=some (.ref N3)) (hm4:X.mg n4=some (.ref N4))
 (k1:jY X.K (.ref C) (.ref C)=some true) (k2:jY X.K (.ref C) (.type "ValueError")=some true) (k3:yO X.K (.ref C) [.ref N1,.ref N2,.ref N3,.ref N4]=some false)
 (hN:X.N.Nodup) (eN:X.N[ie]? =some en) (kN:X.N[ik]? =some kn) (ev:Vis X.env.scope en) (kv:Loc X.env.scope kn) (kf:X.fn kn=true\/X.env.scope.names.lookup kn=some .local)
 (gi:Gl X "isinstance") (gv:Gl X "ValueError") (gx:Gl X x) (g1:Gl X n1) (g2:Gl X n2) (g3:Gl X n3) (g4:Gl X n4)
 (de:(en==("__debug__" :Str))=false) (ce:(en==("__classdict__" :Str))=false) (dk:(kn==("__debug__" :Str))=false) (ck:(kn==("__classdict__" :Str))=false) (dx:(x==("__debug__" :Str))=false) (d1:(n1==("__debug__" :Str))=false) (d2:(n2==("__debug__" :Str))=false) (d3:(n3==("__debug__" :Str))=false) (d4:(n4==("__debug__" :Str))=false)
 (hs1:ZY [.Name kn p0] (.List [.Call (.Name "isinstance" p1) [.Name en p2,.Name x p3] [] p4,.Call (.Name "isinstance" p5) [.Name en p6,.Name "ValueError" p7] [] p8] p9) p10.line X.env=pure false)
 (hw1:ZZ [.Name kn p0] (.List [.Call (.Name "isinstance" p1) [.Name en p2,.Name x p3] [] p4,.Call (.Name "isinstance" p5) [.Name en p6,.Name "ValueError" p7] [] p8] p9) X.env=pure none)
 (hs2:swapsWith (.Call (.Attribute (.Name kn q0) "append" q1) [.Call (.Name "isinstance" q2) [.Name en q3,.Tuple [.Name n1 q4,.Name n2 q5,.Name n3 q6,.Name n4 q7] q8 q9] [] q10] [] q11) none q12.line X.env=pure false)
 (hl2:(q1.endLine==q11.line)=true)
 (he:S[ie]? =some (some (.ref a))) (Ph:ie≠ik) (hD:∀q t,H q=none->upd H q (.lst [.bl true,.bl true]) t=none->D.nx (S.set ik (some (.ref q))) (upd (upd (upd H q (.lst [.bl true,.bl true])) t (.tup [.ref N1,.ref N2,.ref N3,.ref N4])) q (.lst [.bl true,.bl true,.bl false]))):
 zv (zD X.prog X.w) (X.A.mark (some (.ref a))) (execs [.Assign [.Name kn p0] (.List [.Call (.Name "isinstance" p1) [.Name en p2,.Name x p3] [] p4,.Call (.Name "isinstance" p5) [.Name en p6,.Name "ValueError" p7] [] p8] p9) p10,
  .Expr (.Call (.Attribute (.Name kn q0) "append" q1) [.Call (.Name "isinstance" q2) [.Name en q3,.Tuple [.Name n1 q4,.Name n2 q5,.Name n3 q6,.Name n4 q7] q8 q9] [] q10] [] q11) q12] X.env) (SP (CxE X Ng a oe) [] D) (λ_ _=>False) s:=by
 have hp:(a,oe)∈(CxE X Ng a oe).pn:=zT _ (zR.mpr rfl);have cr:T4 (CxE X Ng a oe) (.builtin "isinstance") (UG X.K a C):=Nd hp hcl kx;have pv:∀p,PE (CxE X Ng a oe) (.Name en p) (y9 ie):=λp=>NA eN ev de ce;have one:∀(p1 p2 p4:Pos) (e:Expr) (v:V),K1 e=true->PE (CxE X Ng a oe) e (tC v)->PE (CxE X Ng a oe) (.Call (.Name "isinstance" p1) [.Name en p2,e] [] p4) (tCB (UG X.K a C) (l9 (y9 ie) (l9 (tC v) qH))):=λp1 p2 p4 e v hn h=>
  mI cr gi hi wF (R9 (pv _) (R9 h A9 (S0 hn)) (S0 rfl)) (by decide) (by decide) (S0 rfl) (by rw[M8];exact Q8 (by simp[hn]))
 have T1:=kI (X:=CxE X Ng a oe) (pos:=p10) (BG (pos:=p9) (R9 (one p1 p2 p4 _ (.ref C) rfl (uB gx hmx rfl dx)) (R9 (one p5 p6 p8 _ (.ty "ValueError") rfl (UJ gv hv vp rfl (by decide) (by decide))) A9 (S0 rfl)) (S0 rfl))) (mM hN kN kv kf (pos:=p0)) hs1 hw1 rfl;have ptup:PE (CxE X Ng a oe) (.Tuple [.Name n1 q4,.Name n2 q5,.Name n3 q6,.Name n4 q7] q8 q9) (UN (l9 (tC (.ref N1)) (l9 (tC (.ref N2)) (l9 (tC (.ref N3)) (l9 (tC (.ref N4)) qH))))):=
  rL (R9 (uB g1 hm1 rfl d1) (R9 (uB g2 hm2 rfl d2) (R9 (uB g3 hm3 rfl d3) (R9 (uB g4 hm4 rfl d4) A9 (S0 rfl)) (S0 rfl)) (S0 rfl)) (S0 rfl))
 have isT:PE (CxE X Ng a oe) (.Call (.Name "isinstance" q2) [.Name en q3,.Tuple [.Name n1 q4,.Name n2 q5,.Name n3 q6,.Name n4 q7] q8 q9] [] q10) _:=
  mI cr gi hi wF (R9 (pv q3) (R9 ptup A9 (S0 rfl)) (S0 rfl)) (by decide) (by decide) (S0 rfl) (by rw[M8];exact Q8 rfl)
 have T2:=PN (X:=CxE X Ng a oe) (pos:=q12) (lI (X:=CxE X Ng a oe) (cpos:=q11) (apos:=q1) XS ZT Xy GH (NA (pos:=q0) kN (kv.elim .inl (λz=>.inr (.inl z))) dk ck) (R9 isT A9 (S0 rfl)) rfl rfl hl2 (S0 rfl) rfl) hs2;refine UL T1 (bL T2) [] s S H D I ?_;refine⟨.ref a,he,?_⟩;refine .inl ⟨C,true,rfl,k1,?_⟩;refine⟨.ref a,he,?_⟩;refine .inr (.inl ⟨"ValueError",true,rfl,k2,?_⟩);refine⟨by decide,λq hq=>?_⟩;have il:ik<S.length:=by rw[I.len];exact(jG.mp kN).1
 refine⟨.ref q,zU il,.inl ⟨rfl, [.bl true,.bl true],.inl (.inl v9)⟩,?_⟩;refine⟨.ref a,by rw[jm (Ne.symm Ph)];exact he,?_⟩;refine⟨show 4<=ze by decide,λt ht=>?_⟩;refine .inr (.inr ⟨t,N1,N2,N3,N4,false,rfl,v9,k3,?_⟩);have qt:q≠t:=λz=>by rw[<-z,v9]at ht;cases ht
 refine⟨q, [.bl true,.bl true],.bl false,rfl,rfl,by rw[t6 qt];exact v9,by decide,?_⟩;exact hD q t hq ht
end
theorem IY{G:DH}{o u:DO}:(G++[o]).set G.length u=G++[u]:=by rw[List.set_append_right (h:=zk _),Nat.sub_self];rfl
section
variable{X:Cx}{ie ik:Nat}{x m n1 n2 n3 n4 en kn:Str}{np hp pos p0 p1 p2 p3 p4 p5 p6 p7 p8 p9 p10 q0 q1 q2 q3 q4 q5 q6 q7 q9 q10 q11 q12:Pos}{q8:Nat}{body:List Stmt}{f:Fs}
theorem mT(hst:X.stack=X.env::X.outer)(hfr:X.env.frame=some X.env.locals)(Pk:X.ex= [])(hC:XJ X.K X.mg x m n1 n2 n3 n4)(hB:BLs X.mg)
 (eN:X.N[ie]? =some en) (kN:X.N[ik]? =some kn) (el:X.env.scope.names.lookup en=some .local) (kv:Loc X.env.scope kn) (kf:X.fn kn=true\/X.env.scope.names.lookup kn=some .local) (hN:X.N.Nodup)
 (gi:Gl X "isinstance") (gv:Gl X "ValueError") (gm:Gl X m) (gx:Gl X x) (g1:Gl X n1) (g2:Gl X n2) (g3:Gl X n3) (g4:Gl X n4)
 (hd:([en,kn,m,x,n1,n2,n3,n4].all λz=> !(z==("__debug__" :Str))&&!(z==("__classdict__" :Str)))=true)
 (hs1:ZY [.Name kn p0] (.List [.Call (.Name "isinstance" p1) [.Name en p2,.Name x p3] [] p4,.Call (.Name "isinstance" p5) [.Name en p6,.Name "ValueError" p7] [] p8] p9) p10.line X.env=pure false) (hw1:ZZ [.Name kn p0] (.List [.Call (.Name "isinstance" p1) [.Name en p2,.Name x p3] [] p4,.Call (.Name "isinstance" p5) [.Name en p6,.Name "ValueError" p7] [] p8] p9) X.env=pure none)
 (hs2:swapsWith (.Call (.Attribute (.Name kn q0) "append" q1) [.Call (.Name "isinstance" q2) [.Name en q3,.Tuple [.Name n1 q4,.Name n2 q5,.Name n3 q6,.Name n4 q7] q8 q9] [] q10] [] q11) none q12.line X.env=pure false) (hl2:(q1.endLine==q11.line)=true) (Ph:ie≠ik) (hb:BAt X body f):
 DS X ZF (.Try body [.ExceptHandler (some (.Name m np)) (some en) [.Assign [.Name kn p0] (.List [.Call (.Name "isinstance" p1) [.Name en p2,.Name x p3] [] p4,.Call (.Name "isinstance" p5) [.Name en p6,.Name "ValueError" p7] [] p8] p9) p10,.Expr (.Call (.Attribute (.Name kn q0) "append" q1) [.Call (.Name "isinstance" q2) [.Name en q3,.Tuple [.Name n1 q4,.Name n2 q5,.Name n3 q6,.Name n4 q7] q8 q9] [] q10] [] q11) q12] hp] [] [] pos) (EA x ie f (fH ik true true false)):=by
 simp only[jB,List.all_nil,Bool.and_true,zP,yK]at hd;obtain⟨⟨de,ce⟩,⟨dk,ck⟩,⟨dm,_⟩,⟨dx,_⟩,⟨d1,_⟩,⟨d2,_⟩,⟨d3,_⟩,⟨d4,_⟩⟩:=hd;obtain⟨C,B,N1,N2,N3,N4,mx,mm,m1,m2,m3,m4,mv,kx,hBB,⟨cd,hcB⟩,htB,hsB,k2,k3⟩:=hC.ex;have k1:jY X.K (.ref C) (.ref C)=some true:=by unfold jY;rw[if_pos (beq_self_eq_true _)]
 refine⟨λNg s U H D I hL=>?_⟩;obtain⟨X9,μ,G,sr,hr,p⟩:=hL;refine wpAny_Try_except (jK (hb.h Ng U (λc _ H1=>c= .ref C/\∃ X0 G1,Ext μ H X0 H1/\o8 (wc X) X0 G1 H1/\X9[ie]? =some none/\c7 (wc X) ZF X0 H1 (fH ik true true false X9 G1) (λfl X1 _ H'=>F7 (wc X) D fl X1 H')) s H D (vM I) ⟨X9,μ,G,sr,hr,?_⟩) (λfl s1 h1=>?_) (λe s1 h1=>?_))
 · unfold EA at p;rcases r:f X9 G with _|⟨r0,G1⟩
   ·rw[r]at p;exact p
   · rw[r]at p
     cases r0 with
     |ok fl=>exact p
     |error y=>
       intro X0 H1 x1 h1;dsimp only at p;split at p
       · rename_i e;subst e;split at p
         ·rename_i e2;exact⟨C,mx,rfl,X0,G1,x1,h1,e2,p.from x1⟩
         ·exact p.elim
       ·exact p.elim
 · cases fl with
   |next=>
     obtain⟨X2,H',I',k⟩:=h1;exact xu ⟨X2,H',F6 I',k⟩
   |brk=>
     obtain⟨X2,H',I',k⟩:=h1;exact⟨X2,H',F6 I',k⟩
   |cont=>
     obtain⟨X2,H',I',k⟩:=h1;exact⟨X2,H',F6 I',k⟩
   |ret u=>
     obtain⟨v,X2,H',I',k⟩:=h1;exact⟨v,X2,H',F6 I',k⟩
 · obtain⟨a,T,cls,H',rfl,I',ha,hT,pn,na,nT,tr,rfl,X0,G1,ex,hr1,de0,p1⟩:=h1;have kk:=I'.ok;have fr:X.A.frames=some (X.env::X.outer):=hst▸I'.ok.frames;have st:s1.heap.FunFrames X.base (X.env::X.outer):=hst▸I'.stack;refine pO (base:=X.base) fr st hfr tr λh' h1 l1 sz l2 t2=>?_;rw[<-hst]at l2;have kp:∀b o,s1.heap.get? b=some o->b≠a->b≠T->b∉frs X.stack->h'.get? b=some o:=λb o q na nT nf=>l2.keep b o (l1.keep b o q (λz=>nomatch z) na nT) nf na (zB (zj q));have sl:∀b o,s1.heap.get? b=some o->b≠a->b≠T->b∈frs X.stack->∃sl,h'.get? b=some {o with slots:=sl}:=λb o q na nT nf=>l2.slot b o (l1.keep b o q (λz=>nomatch z) na nT) nf na (zB (zj q));have I2:Inv X Ng U H' {s1 with heap:=h'}:=TD I' ha hT pn na nT tr kp sl;refine wpAny_handleBy_cons (codeAny_handlers_test (C8 (X:=CxH X a) (GF I2) gm mm ?_ dm)) (by intro q;cases q);obtain⟨oe,vs,oT,ts,he,hc,_⟩:=id t2;refine Fw I2.kIn he hc hBB hcB htB hsB ?_;refine codeAny_handlers_suite_as (FO t2 λh3 l3 t3=>?_);have I3:Inv X Ng U H' {s1 with heap:=h3}:=TD I' ha hT pn na nT tr (λb o q na nT nf=>l3.keep b o (kp b o q na nT nf) (λz=>nomatch z) na (zB (zj q))) λb o q na nT nf=>by
    obtain⟨l,z⟩:=sl b o q na nT nf;exact⟨l,l3.keep b _ z (λz=>nomatch z) na (zB (zj q))⟩
   obtain⟨oe,vs,oT,ts,he,hc,hdf,_⟩:=id t3;have I4:Inv (CxE X Ng a oe) [] U H' {s1 with heap:=h3}:=hZ I3 na he hdf;have iσ:ie<U.length:=by rw[I3.len];exact(jG.mp eN).1
   refine IM (X:=CxE X Ng a oe) I4 hN eN (.inl el) (v:=.ref a) (u:=.ref a) rfl (λs5 I5=>?_) (.inr el);refine jK (Gx (D:={rt:=D.rt,nx:=λσ5 H5=>∃ μ5 G5,Ext X0 H' μ5 H5/\o8 (wc X) μ5 G5 H5/\G5=G1++[.lst [.bl true,.bl true,.bl false]]/\w5 (wc X) μ5 H5 (X9.set ik (some (.ref G1.length))) (σ5.set ie none)}) I5 hc (kx a) (hB.h "isinstance" (by decide)) mv mx m1 m2 m3 m4 k1 k2 k3 hN eN kN (.inl el) kv kf gi gv gx g1 g2 g3 g4 de ce dk ck dx d1 d2 d3 d4 hs1 hw1 hs2 hl2 (zU iσ) Ph λq t hq ht=>?_) (λfl s6 h6=>?_) λ_ _ z=>z.elim
   · have qt:q≠t:=λz=>by rw[<-z,v9]at ht;cases ht
     have x1:Ext X0 H' (X0++[q]) (upd H' q (.lst [.bl true,.bl true])):=Ext.add hq _;have h1:=hr1.new (o:=.lst [.bl true,.bl true]) hq ⟨[.bl true,.bl true],v9,.cons ofB (.cons ofB .nil)⟩;have x2:Ext (X0++[q]) (upd H' q (.lst [.bl true,.bl true])) (X0++[q]) (upd (upd H' q (.lst [.bl true,.bl true])) t (.tup [.ref N1,.ref N2,.ref N3,.ref N4])):=Ext.lay ht _;have h2:=h1.same x2 λb o e _=>by rw[t6 (u6 e ht)];exact e
     have e2:upd (upd H' q (.lst [.bl true,.bl true])) t (.tup [.ref N1,.ref N2,.ref N3,.ref N4]) q=some (.lst [.bl true,.bl true]):=by rw[t6 qt];exact v9
     have x3:Ext (X0++[q]) (upd (upd H' q (.lst [.bl true,.bl true])) t (.tup [.ref N1,.ref N2,.ref N3,.ref N4])) (X0++[q]) (upd (upd (upd H' q (.lst [.bl true,.bl true])) t (.tup [.ref N1,.ref N2,.ref N3,.ref N4])) q (.lst [.bl true,.bl true,.bl false])):=
      Ext.mut (zT _ (zR.mpr rfl)) e2 (λ_ z=>nomatch z) (λ_ _ z=>nomatch z) _
     have gl:(G1++[DO.lst [.bl true,.bl true]])[G1.length]? =some (.lst [.bl true,.bl true]):=by simp
     have ml:(X0++[q])[G1.length]? =some q:=by rw[<-hr1.len];simp
     have h3:=h2.set (o':=.lst [.bl true,.bl true,.bl false]) gl (λz=>z) ml x3 (λz=>z) ⟨[.bl true,.bl true,.bl false],v9,.cons ofB (.cons ofB (.cons ofB .nil))⟩;rw[IY]at h3;have xx:=(x1.trans x2).trans x3;refine⟨X0++[q],_,xx,h3,rfl,?_⟩;have s0:w5 (wc X) (X0++[q]) _ X9 U:=(sr.mono ex).mono xx;have rq:f9 (wc X) (X0++[q]) (upd (upd (upd H' q (.lst [.bl true,.bl true])) t (.tup [.ref N1,.ref N2,.ref N3,.ref N4])) q (.lst [.bl true,.bl true,.bl false])) (.ref G1.length) (.ref q):=by unfold f9;exact⟨q,ml,rfl⟩
     have s1:=s0.put rq ik;refine⟨by simpa using s1.1,λj d e=>?_⟩;have je:j≠ie:=λz=>by rw[z,jm (Ne.symm Ph),de0]at e;cases e
     obtain⟨v,e1,r1⟩:=s1.2 j d e;refine⟨v,?_,r1⟩;rw[jm (Ne.symm je),List.set_comm _ _ Ph,jm (Ne.symm je)];exact e1
   · cases fl with
     |next=>
       obtain⟨X2,H2,I6,μ5,G5,xx,h5,rfl,s5⟩:=h6;exact KI (iN kk I6) hN eN el λs7 I7=>⟨_,H2,I7,p1 μ5 H2 xx h5 _ s5⟩
     |brk=>
       obtain⟨X2,H2,I6,k⟩:=h6;exact k.elim
     |cont=>
       obtain⟨X2,H2,I6,k⟩:=h6;exact k.elim
     |ret u=>
       obtain⟨v,X2,H2,I6,k⟩:=h6;exact KI (iN kk I6) hN eN el λs7 I7=>⟨v,_,H2,I7,k⟩
end
section
variable{K:zd}{mg:Str->Option zg}{h:Heap}{C B N:Addr}{x m n n1 n2 n3 n4:Str}
structure XN(K:zd)(C:Addr)(n:Str):Prop where
 ex:∃N,jF K zJ n=some (some (.ref N))/\yE K N=true/\xp K (.ref N)=some (.type "type")/\jX K (.ref C) (.ref N)=some false
theorem XN.of(a:jF K zJ n=some (some (.ref N)))(b:yE K N=true)(c:xp K (.ref N)=some (.type "type"))(d:jX K (.ref C) (.ref N)=some false):XN K C n:=⟨N,a,b,c,d⟩
theorem XN.one(c:jX K (.ref C) (.ref C)=some true)(h1:yE K N=true)(h2:xp K (.ref N)=some (.type "type"))(h3:jX K (.ref C) (.ref N)=some false):jY K (.ref C) (.ref N)=some false:=by unfold jY;rw[if_neg (λz=>by rw[beq_iff_eq]at z;rw[<-z,c]at h3;cases h3)];unfold PySem.W.kitCls;dsimp only;unfold yE at h1;rw[if_pos (by rw[h1,h2];rfl)];exact h3
structure XJI(K:zd)(x m n1 n2 n3 n4:Str):Prop where
 ex:∃C B,jF K zJ x=some (some (.ref C))/\jF K zJ m=some (some (.ref B))/\jF K zJ "ValueError" =some none/\yE K C=true/\jL K C (.type "object")=some true/\
  jL K C (.type "BaseException")=some true/\jv K (.ref C) "__class__" =some (some (.builtin "object.__class__"))/\jv K (.ref C) "__getattribute__" =some (some (.builtin "BaseException.__getattribute__"))/\jv K (.ref C) "__getattr__" =some none/\
  jL K B (.type "BaseException")=some true/\yE K B=true/\xp K (.ref B)=some (.type "type")/\jX K (.ref C) (.ref B)=some true/\jX K (.ref C) (.type "ValueError")=some true/\jX K (.ref C) (.ref C)=some true/\XN K C n1/\XN K C n2/\XN K C n3/\XN K C n4
theorem XJI.of(a:jF K zJ x=some (some (.ref C)))(b:jF K zJ m=some (some (.ref B)))(c:jF K zJ "ValueError" =some none)(d:yE K C=true)(e:jL K C (.type "object")=some true)
 (f:jL K C (.type "BaseException")=some true) (g:jv K (.ref C) "__class__" =some (some (.builtin "object.__class__"))) (h:jv K (.ref C) "__getattribute__" =some (some (.builtin "BaseException.__getattribute__"))) (i:jv K (.ref C) "__getattr__" =some none)
 (j:jL K B (.type "BaseException")=some true) (k:yE K B=true) (l:xp K (.ref B)=some (.type "type")) (o:jX K (.ref C) (.ref B)=some true) (p:jX K (.ref C) (.type "ValueError")=some true) (q:jX K (.ref C) (.ref C)=some true)
 (r:XN K C n1/\XN K C n2/\XN K C n3/\XN K C n4):XJI K x m n1 n2 n3 n4:=⟨C,B,a,b,c,d,e,f,g,h,i,j,k,l,o,p,q,r⟩
theorem XJI.ok(c:XJI K x m n1 n2 n3 n4)(X:K.In h)(G:h.Ns zJ mg):XJ K mg x m n1 n2 n3 n4:=by
 obtain⟨C,B,e1,e2,e3,e4,e5,e6,e7,e8,e9,e10,e11,e12,e13,e14,e15,⟨N1,a1,a2,a3,a4⟩,⟨N2,b1,b2,b3,b4⟩,⟨N3,c1,c2,c3,c4⟩,⟨N4,d1,d2,d3,d4⟩⟩:=c.ex;obtain⟨cd,e4⟩:=yI.mp e4;obtain⟨cB,e11⟩:=yI.mp e11;refine⟨C,B,N1,N2,N3,N4,yj X G e1,yj X G e2,yj X G a1,yj X G b1,yj X G c1,yj X G d1,JG X G e3,λa=>qd e4 e5 e6 e7 e8 e9,e10,⟨cB,e11⟩,e12,e13,?_,?_⟩
 ·unfold jY;rw[if_neg (by rw[beq_iff_eq];exact λz=>nomatch z)];unfold PySem.W.kitCls;dsimp only;rw[if_pos (by decide +kernel)];exact e14
 ·unfold yO;rw[XN.one e15 a2 a3 a4];unfold yO;rw[XN.one e15 b2 b3 b4];unfold yO;rw[XN.one e15 c2 c3 c4];unfold yO;rw[XN.one e15 d2 d3 d4];rfl
end
theorem rW(a:zg):argsOk "max" ⟨[a], []⟩:=by unfold argsOk;kernel_rfl
section
variable{prog:zF}{w:zO}{A:zV}{E:VSP}
set_option maxHeartbeats 1000000 in
theorem HX(hh:A.in1.handled=none)(hlI:l≠I)(hSI:S≠I)(hSl:S≠l)(hi:IntsAre vs ns):
 ∀k j s c Nz old,vs.length-j=k->j<=vs.length->(s.heap.IsListIter I l j/\s.heap.IsList l vs.toArray)->s.heap.get? S=some (JK "list" old c)->FP Nz old->(Nz=none->j<ns.length)->
 (∀v h' tk,LM ((ns.drop j).foldl (OB) Nz) v->(∀b o,b≠I->b≠S->s.heap.get? b=some o->h'.get? b=some o)->R (.ok (.ret v)) {s with heap:=h',toks:=tk})->
 Yq (zD prog w) A (.builtin "max.loop" ⟨[.ref I,.none,.ref S],([]:List (Str×zg))⟩) R s:=by
 have Nm:=hi.length;have W:=Walks.list (prog:=prog) (w:=w) hh I l hlI vs.toArray;have n1:(Zc "max" ++ Zc ".loop" :String)= "max.loop":=by decide
 have n2:(Zc "min" ++ Zc ".loop" :String)= "min.loop":=by decide
 all_goals
  intro k
  induction k with
  |zero=>
    intro j s c Nz old hk hj hst hS ho Ph hR;have hd:ns.drop j= []:=ZX (by lia);rw[hd]at hR
    first|refine xv F.entry_max_loop ?_|refine xv F.entry_min_loop ?_
    first|rw[yG xK _]|rw[yG Zi _]
    refine zc (yp hS rfl ?_);refine zc (JD (W.done s _ _ (by rw[zq,show vs.length=j by lia];exact hst) λh' tk Qf=>?_));have Qg:=Qf S _ (by simpa using hSI) hS;rcases Nz with _|b
    ·exact absurd (Ph rfl) (by lia)
    ·obtain⟨t,t',rfl⟩:=ho;refine zc (Jv Qg rfl (zc (Zr (zt ?_))));exact hR _ _ tk ⟨t,rfl⟩ λb o b1 b2 e=>(jt _ _ (Ne.symm b2)).trans (Qf b o (by simpa using b1) e)
  |succ k ih=>
    intro j s c Nz old hk hj hst hS ho Ph hR;have Nw:j<ns.length:=by lia
    have hd:ns.drop j=ns[j]::ns.drop (j+1):=xE Nw;rw[hd]at hR
    first|refine xv F.entry_max_loop ?_|refine xv F.entry_min_loop ?_
    first|rw[yG xK _]|rw[yG Zi _]
    refine zc (yp hS rfl ?_);refine zc (JD (W.item j s _ _ (by rw[zq];lia) hst λv h' tk hP hst' Qf=>?_));have Qg:=Qf S _ (by simpa using hSI) hS;obtain⟨t0,e0⟩:=hi.get j _ (zH Nw);have ev:v= .int ns[j] t0:=by
     have hP':vs[j]? =some v:=by simpa using hP
     rw[e0]at hP';exact(js hP').symm
    subst ev;have keep:∀ {f:Array zg->Array zg} (b:Addr) (o:Obj),b≠S->h'.get? b=some o->(h'.update S (Zf f)).get? b=some o:=λb o hb e=>(jt _ _ (Ne.symm hb)).trans e;have stay:∀ {f:Array zg->Array zg},(h'.update S (Zf f)).IsListIter I l (j+1)/\(h'.update S (Zf f)).IsList l vs.toArray:=⟨hst'.1.at λo e=>keep _ o hSI.symm e,hst'.2.at λo e=>keep _ o hSl.symm e⟩;rcases Nz with _|b
    · cases ho
      refine zc (zt (zc (Jv Qg rfl ?_)))
      first|rw[n1]|rw[n2]
      refine zt ⟨Zp (by first|exact xK|exact Zi) _,ih (j+1) _ _ (some ns[j]) _ (by lia) (by lia) stay (yi _ Qg rfl) ⟨t0,t0,rfl⟩ (λz=>nomatch z) λv h2 tk2 o2 k2=>?_⟩;exact hR v h2 tk2 o2 λb o b1 b2 e=>k2 b o b1 b2 (keep b o b2 (Qf b o (by simpa using b1) e))
    · obtain⟨t,t',rfl⟩:=ho;refine zc (zt (zc (JD (yV (zc ?_)))))
      first|with_reducible refine QV ?_|with_reducible refine Kj ?_
      refine zc (yV (xA (zc (Zr (zt ?_)))));split<;>rename_i hb
      · rw[Xq]at hR
        first|rw[show OB (some b) ns[j]=some ns[j]from congrArg some (if_pos (of_decide_eq_true hb))]at hR|rw[show rN (some b) ns[j]=some ns[j]from congrArg some (if_pos (of_decide_eq_true hb))]at hR
        refine zc (Jv Qg rfl (zc (Zr ?_)))
        first|rw[n1]|rw[n2]
        refine zt ⟨Zp (by first|exact xK|exact Zi) _,ih (j+1) _ _ (some ns[j]) _ (by lia) (by lia) stay (yi _ Qg rfl) ⟨t0,t0,rfl⟩ (λz=>nomatch z) λv h2 tk2 o2 k2=>?_⟩;exact hR v h2 tk2 o2 λb o b1 b2 e=>k2 b o b1 b2 (keep b o b2 (Qf b o (by simpa using b1) e))
      · rw[Xq]at hR
        first|rw[show OB (some b) ns[j]=some b from congrArg some (if_neg (of_decide_eq_false (xV.mpr hb)))]at hR|rw[show rN (some b) ns[j]=some b from congrArg some (if_neg (of_decide_eq_false (xV.mpr hb)))]at hR
        refine zc (Zr ?_)
        first|rw[n1]|rw[n2]
        refine zt ⟨Zp (by first|exact xK|exact Zi) _,ih (j+1) _ _ (some b) _ (by lia) (by lia) hst' Qg ⟨t,t',rfl⟩ (λz=>nomatch z) λv h2 tk2 o2 k2=>?_⟩;exact hR v h2 tk2 o2 λb o b1 b2 e=>k2 b o b1 b2 (Qf b o (by simpa using b1) e)
theorem UO(hh:A.in1.handled=none)(hl:s.heap.IsList l vs.toArray)(hi:IntsAre vs ns)(Ph:ns≠ [])
 (hQ:∀v h' tk,LM (B8 ns) v->(∀b o,s.heap.get? b=some o->h'.get? b=some o)->Q v {s with heap:=h',toks:=tk}):zv (zD prog w) A (call (.builtin "max") [.ref l] ([]:List (Str×zg))) Q E s:=by
 have Nw:l<s.heap.objs.size:=by obtain⟨_,e,_⟩:=hl;exact zj e
 have hname:(Zc "max" ++ Zc ".loop" :String)= "max.loop":=by decide
 refine kmb_tree F.kind_max F.plain_max F.entry_max (rW _) ?_;refine zc (wpAny_of_eq (show Builtin.Builtins.bindParams "max" ["key", "default"] 0 ⟨[],([]:List (Str×zg))⟩=pure [none,none]from rfl) (zc (zt (zc (ZU hl (zc (wpAny_newList ?_ (xa _))))))));rw[hname];have hS:∀o,(s.heap.push o).objs.size=s.heap.objs.size+1:=λo=>size_push' ..;refine zt ⟨Zp xK _,HX hh (zB Nw) (by rw[hS];exact yM (yY _)) (by rw[hS];exact yM (xX Nw)) hi _ 0 _ 0 none #[] rfl (xa _) ⟨⟨_,zf _ (zy _ rfl),rfl,rfl⟩,(hl.push _).push _⟩ (zy _ rfl) rfl (λ_=>jI.mpr Ph) λv h' tk o k=>?_⟩;exact hQ v h' tk o λb o e=>k b o (zB (zj e)) (by rw[hS];exact zB (xX (zj e))) (zf _ (zf _ e))
end
def iC:List D->M D:=λds=>match ds with
 |[d]=>UD d >>= λns=>match B8 ns with
   |some b=>pure (.int b)
   |none=>M.stuck
 |_=>M.stuck
theorem AS:B8 []=none:=rfl
theorem IT(hc:X.calm=true):U7 X Z (.builtin "max") iC:=⟨by
 intro Ng s U H xs us Q I r Nk;obtain⟨ds,μ,G,rl,hr,p⟩:=Nk;rcases ds with _|⟨d,_|⟨_,_⟩⟩<;>try exact p.elim
 obtain⟨v,rfl,rd⟩:=S2 rl;obtain⟨u,rfl,ru⟩:=Z1 r;obtain⟨l,ns,a,ws,rfl,rll,sq,en,p2⟩:=vc hr rd p
 cases ru
 obtain⟨Nj,rr,pl,hz⟩:=I.list sq;obtain⟨n1,n2⟩:=QH en rll rr;rcases hm:B8 ns with _|b
 ·rw[hm]at p2;exact p2.elim
 ·rw[hm]at p2;refine UO (I.ok.hd hc) pl.isList (PK n1 n2) (λz=>by rw[z,AS]at hm;cases hm) λv h' tk ho hk=>?_;rw[hm]at ho;obtain⟨t,rfl⟩:=ho;exact⟨.int b,H,I.kept hk,⟨t,rfl⟩,c7.ok p2 hr _ (by unfold f9;rfl)⟩⟩
theorem Lh(h:X.calm=true):BD iC "max" X Z:=⟨.inl ⟨_,IT h,Gq⟩⟩
end DL
namespace W
open PySem PySem.Spec L2 DL
open PyProof.Rows hiding St
abbrev O0(a:Fe):=y0 a (F0)
abbrev M0(a b:Fe):=y0 a (y0 b (F0))
abbrev C4(a b c:Fe):=y0 a (y0 b (y0 c (F0)))
abbrev RC(a b c d:Fe):=y0 a (y0 b (y0 c (y0 d (F0))))
abbrev D3(a b c d e:Fe):=y0 a (y0 b (y0 c (y0 d (y0 e (F0)))))
abbrev asQ(e:Fe)(g:D->DSt->M DSt)(r:Fs):Fs:=seqS (J1 e g) r
abbrev cBf:Fe:=cE (.bl false)
abbrev cBt:Fe:=cE (.bl true)
abbrev K0:Fe:=cE (.int 0)
abbrev A0:Fe:=cE (.int 1)
abbrev r8:Fe:=cE (.int 10)
abbrev K2:Fe:=cE (.int 2)
abbrev U2:Fe:=cE (.int 3)
abbrev c9:Fe:=cE (.int 4)
abbrev fD:Fe:=cE (.int 5)
abbrev kC:Fe:=cE (.int 6)
abbrev sN:Fe:=cE (.int 7)
abbrev uA:Fe:=cE (.int 8)
abbrev nF:Fe:=cE (.int 9)
abbrev cIn(i:Int):Fe:=cE (.int i)
abbrev cSt(s:Str):Fe:=cE (.str s)
abbrev D2(F:List D->M D)(a:Fe):Fe:=L0 (fnX 1 F) (y0 a (F0))
abbrev D0(F:List D->M D)(a b:Fe):Fe:=L0 (fnX 2 F) (y0 a (y0 b (F0)))
abbrev E9(F:List D->M D)(a b c:Fe):Fe:=L0 (fnX 3 F) (y0 a (y0 b (y0 c (F0))))
abbrev TB(F:List D->M D)(a b c d:Fe):Fe:=L0 (fnX 4 F) (y0 a (y0 b (y0 c (y0 d (F0)))))
abbrev I0(F:List D->M D)(a:Fe):Fe:=L0 F (y0 a (F0))
abbrev L5(F:List D->M D)(a b:Fe):Fe:=L0 F (y0 a (y0 b (F0)))
abbrev gdQ(t:DSt->M Bool)(x:Fe)(r:Fs):Fs:=seqS (ifS t (retS x) nextS) r
abbrev ixE(a b:Fe):Fe:=binE ixD a b
abbrev E4:=E1 0
abbrev P1:=E1 1
abbrev D1:=E1 2
abbrev T0:=E1 3
abbrev i3:=E1 4
abbrev F5:=E1 5
abbrev i7:=E1 6
abbrev RF:=E1 7
abbrev MF:=E1 8
abbrev eO:=E1 9
abbrev sRf(r:Nat):Option D:=some (D.ref r)
abbrev tBn(o:D->D->M D)(a b:Fe):=fA (binE o a b)
abbrev WK(a:Fe):=S3 (y0 a (F0))
abbrev N0(a b:Fe):=S3 (y0 a (y0 b (F0)))
abbrev C5(a b c:Fe):=S3 (y0 a (y0 b (y0 c (F0))))
abbrev g0:Fe:=R5 0
abbrev i0:Fe:=R5 1
abbrev B0:Fe:=R5 2
abbrev C0:Fe:=R5 3
abbrev F1:Fe:=R5 4
abbrev o3:Fe:=R5 5
abbrev Q1:Fe:=R5 6
abbrev HJ:Fe:=R5 7
abbrev dN:Fe:=R5 8
abbrev P6:Fe:=R5 9
def IG:Fs:=seqS (J1 K0 T0) (seqS (ifS (tBn neD g0 (lstE F0)) (J1 (binE x5 (I0 DC g0) K2) T0) nextS) (retS (lstE (RC i0 (binE x5 (binE F2 (binE addD (binE addD (binE x5 i0 (cIn 2147483629)) (binE F2 (cIn 7919) B0)) A0) (cIn 48271)) (cIn 2147483647)) C0 K0))))
def F__law_hand:List D->M D:=v6 4 IG
def wH(R:List D->M D):Fs:=seqS (ifS (truthE (L5 T7 g0 (cE (.ty "bool")))) (retS (ixE (lstE (M0 (cSt "false") (cSt "true"))) (I0 P2 g0))) nextS) (gdQ (truthE (L5 T7 g0 (cE (.ty "int")))) (I0 bC g0) (gdQ (truthE (L5 T7 g0 (cE (.ty "str")))) (binE addD (binE addD (cE (.str ("\"" :Str))) g0) (cE (.str ("\"" :Str)))) (gdQ (tBn eqD (ixE g0 K0) (cSt "list")) (binE addD (binE addD (cSt "[") (mtE isStrM n9 (cSt ", ") (O0 (T5 (itW (ixE g0 A0)) [none] E4 (Z6) (D2 R g0))))) (cSt "]")) (retS (binE addD (binE addD (cSt "{") (mtE isStrM n9 (cSt ", ") (O0 (T5 (itW (ixE g0 A0)) [none,none] (tupG 2 (consG E4 (consG P1 (nilG)))) (Z6) (binE addD (binE addD g0 (cSt ": ")) (D2 R i0)))))) (cSt "}"))))))
def V5:Nat->List D->M D
 |0=>λ_=>M.stuck
 |n+1=>v6 1 (wH (V5 n))
def F__law_written:List D->M D:=V5 21
def CH:Fs:=seqS (ifS (tBn eqD (ixE g0 K2) K0) (asQ (binE x5 (ixE g0 K0) i0) D1 (asQ (binE IA (ixE g0 K0) i0) (P5 g0 K0) (retS B0))) nextS) (asQ (binE addD (binE x5 (binE F2 (ixE g0 A0) (ixE g0 A0)) (cIn 2147483629)) U2) (P5 g0 A0) (retS (binE x5 (binE IA (binE x5 (binE F2 (ixE g0 A0) (cIn 69621)) (cIn 2147483563)) uA) i0)))
def j6:List D->M D:=v6 3 CH
def SPA:Fs:=(J1 (lstE (y0 (cSt "") (y0 (cSt " ") (y0 (cSt ",") (y0 (cSt ", ") (y0 (cSt ":") (y0 (cSt ": ") (y0 (cSt "[") (y0 (cSt "]") (y0 (cSt "{") (y0 (cSt "}") (y0 (cE (.str ("\"" :Str))) (y0 (cSt "-") (y0 (cSt "0") (D3 (cSt "1") (cSt "a") (cSt "b") (cSt "A") (cSt "true")))))))))))))))) D1)
def SPB:Fs:=(J1 (binE addD B0 (lstE (y0 (cSt "\n") (y0 (cSt "-0") (y0 (cSt "01") (y0 (cSt "[]") (y0 (cSt "{}") (y0 (cE (.str ("\"\"" :Str))) (y0 (cSt "b: 1") (D3 (cSt "false") (cSt "_") (binE F2 (cSt "1") (cIn 40)) (binE F2 (cSt "1") (cIn 41)) (cSt "a: "))))))))))) D1)
def X6:Fs:=seqS SPA (seqS SPB (asQ (D0 j6 g0 (binE addD (I0 lenF i0) A0)) T0 (asQ (binE addD C0 (D0 j6 g0 c9)) i3 (asQ (ixE B0 (D0 j6 g0 (cIn 30))) F5 (asQ (D0 j6 g0 fD) i7 (gdQ (tBn eqD Q1 K0) (binE addD (binE addD (sliceT i0 (noPart) (partO C0)) o3) (sliceT i0 (partO C0) (noPart))) (gdQ (tBn eqD Q1 A0) (binE addD (sliceT i0 (noPart) (partO C0)) (sliceT i0 (partO F1) (noPart))) (gdQ (tBn eqD Q1 K2) (binE addD (binE addD (sliceT i0 (noPart) (partO C0)) o3) (sliceT i0 (partO (binE addD C0 A0)) (noPart))) (gdQ (tBn eqD Q1 U2) (binE addD (sliceT i0 (noPart) (partO F1)) (sliceT i0 (partO C0) (noPart))) (retS (binE addD i0 o3)))))))))))
def F__law_spoilt:List D->M D:=v6 7 X6
def UT:DSt->M Bool:=(u4 (tBn ltD C0 (I0 lenF g0)) (tBn inD (ixE g0 C0) B0))
def UB:Fs:=(J1 (binE addD C0 A0) T0)
def RE:Fs:=seqS (J1 i0 T0) (seqS (V1 UT UB) (retS (sliceT g0 (partO i0) (partO C0))))
def X3:List D->M D:=v6 4 RE
def ZO:DSt->M Bool:=(orT (tBn eqD B0 (cSt "[")) (tBn eqD B0 (cSt "{")))
def ZB(R:List D->M D):Fs:=(asQ (TB R g0 (binE addD i0 A0) (ixE (lstE (M0 (cSt "]") (cSt "}"))) (I0 P2 (binE eqD B0 (cSt "{")))) (binE eqD B0 (cSt "{"))) T0 (gdQ (tBn eqD C0 (lstE F0)) (lstE F0) (retS (lstE (M0 (N0 (ixE (lstE (M0 (cSt "list") (cSt "record"))) (I0 P2 (binE eqD B0 (cSt "{")))) (ixE C0 K0)) (ixE C0 A0))))))
def ZD:Fs:=(asQ (binE addD (binE addD i0 A0) (I0 lenF F1)) F5 (retS (ifE (tBn eqD (sliceT g0 (partO o3) (partO (binE addD o3 A0))) (cE (.str ("\"" :Str)))) (lstE (M0 F1 (binE addD o3 A0))) (lstE F0))))
def ZE:Fs:=ifS (tBn inD F1 (N0 (cSt "true") (cSt "false"))) (retS (lstE (M0 (binE eqD F1 (cSt "true")) (binE addD i0 (I0 lenF F1))))) nextS
def NC:DSt->M Bool:=(orT (tBn eqD Q1 (cSt "")) (orT (tBn gtD (I0 lenF Q1) (cIn 40)) (u4 (tBn eqD (ixE Q1 K0) (cSt "0")) (orT (tBn neD Q1 (cSt "0")) (tBn eqD B0 (cSt "-"))))))
def ZF:Fs:=retS (lstE (M0 (binE F2 (I0 P2 Q1) (ixE (lstE (M0 A0 (unE A8 A0))) (I0 P2 (binE eqD B0 (cSt "-"))))) (binE addD (binE addD i0 (I0 P2 (binE eqD B0 (cSt "-")))) (I0 lenF Q1))))
def ZN:Fs:=seqS (J1 (E9 X3 g0 (binE addD i0 (I0 P2 (binE eqD B0 (cSt "-")))) (cSt "0123456789")) i7) (gdQ NC (lstE F0) ZF)
def ZW:Fs:=seqS ZE ZN
def ZC:Fs:=seqS (J1 (E9 X3 g0 (binE addD i0 (I0 P2 (binE eqD B0 (cE (.str ("\"" :Str)))))) (cSt "abcdefghijklmnopqrstuvwxyz")) i3) (seqS (ifS (tBn eqD B0 (cE (.str ("\"" :Str)))) ZD nextS) ZW)
def GC(R:List D->M D):Fs:=seqS (J1 (sliceT g0 (partO i0) (partO (binE addD i0 A0))) D1) (seqS (ifS ZO (ZB R) nextS) ZC)
def R7(R:List D->M D):List D->M D:=v6 7 (GC R)
def YT:DSt->M Bool:=(tBn ltD i0 (I0 lenF g0))
def YP:DSt->M Bool:=(orT (tBn eqD o3 (cSt "")) (orT (tBn neD (sliceT g0 (partO (binE y3 i0 K2)) (partO i0)) (cSt ": ")) (u4 (tBn neD F1 (lstE F0)) (tBn geD (ixE (ixE F1 (unE A8 A0)) K0) o3))))
def YN:Fs:=seqS (J1 (E9 X3 g0 i0 (cSt "abcdefghijklmnopqrstuvwxyz")) F5) (asQ (binE addD (binE addD i0 (I0 lenF o3)) K2) P1 (ifS YP (retS (lstE F0)) nextS))
def YA:Fs:=nB (mtE lB aD F1 (O0 (ixE (lstE (M0 (ixE Q1 K0) (N0 o3 (ixE Q1 K0)))) (I0 P2 C0))))
def YC:Fs:=seqS (J1 (ixE Q1 A0) P1) (gdQ (tBn eqD (sliceT g0 (partO i0) (partO (binE addD i0 A0))) B0) (lstE (M0 (I0 P4 F1) (binE addD i0 A0))) (gdQ (tBn neD (sliceT g0 (partO i0) (partO (binE addD i0 K2))) (cSt ", ")) (lstE F0) (J1 (binE addD i0 K2) P1)))
def YL(R:List D->M D):Fs:=seqS (J1 (D0 (R7 R) g0 i0) i7) (gdQ (tBn eqD Q1 (lstE F0)) (lstE F0) (seqS YA YC))
def YB(R:List D->M D):Fs:=seqS (J1 (cSt "") F5) (seqS (ifS (truthE C0) YN nextS) (YL R))
def K8(R:List D->M D):Fs:=seqS (J1 (lstE F0) i3) (gdQ (tBn eqD (sliceT g0 (partO i0) (partO (binE addD i0 A0))) B0) (lstE (M0 (S3 F0) (binE addD i0 A0))) (seqS (V1 YT (YB R)) (retS (lstE F0))))
def K3:Nat->List D->M D
 |0=>λ_=>M.stuck
 |n+1=>v6 7 (K8 (K3 n))
def nG:List D->M D:=K3 45
def LF:List D->M D:=R7 nG
def aG(R:List D->M D):Fs:=seqS (ifS (orT (notT (truthE (L5 T7 g0 (cE (.ty "tuple"))))) (tBn eqD (ixE g0 A0) (S3 F0))) (retS A0) nextS) (gdQ (tBn eqD (ixE g0 K0) (cSt "record")) (binE addD A0 (I0 iC (T5 (itW (ixE g0 A0)) [none,none] (tupG 2 (consG E4 (consG P1 (nilG)))) (Z6) (D2 R i0)))) (retS (binE addD A0 (I0 iC (T5 (itW (ixE g0 A0)) [none] E4 (Z6) (D2 R g0))))))
def uD:Nat->List D->M D
 |0=>λ_=>M.stuck
 |n+1=>v6 1 (aG (uD n))
def tG:List D->M D:=uD 50
def pK:Fs:=seqS (J1 (D0 LF g0 K0) P1) (gdQ (orT (tBn eqD i0 (lstE F0)) (orT (tBn neD (ixE i0 A0) (I0 lenF g0)) (tBn gtD (D2 tG (ixE i0 K0)) (cIn 20)))) (lstE F0) (retS (lstE (O0 (ixE i0 K0)))))
def V9:List D->M D:=v6 2 pK
def OF(R:List D->M D):Fs:=seqS (ifS (orT (tBn neD (L5 T7 g0 (cE (.ty "bool"))) (L5 T7 i0 (cE (.ty "bool")))) (tBn neD (L5 T7 g0 (cE (.ty "tuple"))) (L5 T7 i0 (cE (.ty "tuple"))))) (retS cBf) nextS) (gdQ (notT (truthE (L5 T7 g0 (cE (.ty "tuple"))))) (binE eqD g0 i0) (gdQ (tBn neD (I0 lenF g0) (I0 lenF i0)) cBf (retS (I0 l8 (T5 (O7 (O0 (I0 lenF g0))) [none,some 0,some 1] E4 (Z6) (D0 R (ixE i0 g0) (ixE B0 g0)))))))
def aF:Nat->List D->M D
 |0=>λ_=>M.stuck
 |n+1=>v6 2 (OF (aF n))
def GG:List D->M D:=aF 60
def RT:DSt->M Bool:=(u4 (tBn ltD F1 (I0 lenF g0)) (fA (vC leD leD B0 (ixE g0 F1) C0)))
def RB:Fs:=(J1 (binE addD F1 A0) i3)
def AD:Fs:=seqS (J1 i0 i3) (seqS (V1 RT RB) (retS F1))
def W7:List D->M D:=v6 5 AD
def NE:Fs:=seqS (ifS (orT (tBn eqD C0 B0) (tBn gtD (binE y3 C0 B0) (cIn 40))) (W8 "NoValue" (O0 (cSt "no number of one to forty figures where one is due"))) nextS) (seqS (ifS (u4 (truthE (mtE isStrM startsD g0 (M0 (cSt "0") B0))) (tBn gtD (binE y3 C0 i0) A0)) (W8 "NoValue" (O0 (cSt "a nought ahead, or below nought"))) nextS) (retS (N0 (I0 P2 (sliceT g0 (partO i0) (partO C0))) C0)))
def Z5:Fs:=seqS (J1 (ifE (truthE (mtE isStrM startsD g0 (M0 (cSt "-") i0))) (binE addD i0 A0) i0) D1) (asQ (TB W7 g0 B0 (cSt "0") (cSt "9")) T0 NE)
def Z9:List D->M D:=v6 4 Z5
def tI:Fs:=seqS (ifS (notT (truthE (mtE isStrM startsD g0 (M0 B0 i0)))) (W8 "NoValue" (O0 (i5 [cE (.str ("no " :Str)),PC B0,cE (.str (" where one is due" :Str))] xP))) nextS) (retS (binE addD i0 (I0 lenF B0)))
def pA:List D->M D:=v6 3 tI
def VL:Fs:=seqS (J1 (TB W7 g0 (binE addD i0 A0) (cSt "a") (cSt "z")) D1) (retS (N0 (sliceT g0 (partO (binE addD i0 A0)) (partO B0)) (L0 (fnZ 3 pA) (C4 g0 B0 (cE (.str ("\"" :Str)))))))
def F_text_at:List D->M D:=v6 3 VL
def sL:Fs:=retS (I0 l8 (T5 (GA (M0 g0 (sliceT g0 (partO A0) (noPart)))) [none,none] (tupG 2 (consG E4 (consG P1 (nilG)))) (Z6) (binE ltD g0 i0)))
def OC:List D->M D:=v6 1 sL
def RM:Fs:=retS (T5 (itW g0) [none] E4 (Z6) (ixE g0 K0))
def eF:List D->M D:=v6 1 RM
def aO(R:List D->M D):Fs:=seqS (J1 (TB W7 g0 i0 (cSt "a") (cSt "z")) T0) (seqS (ifS (tBn eqD C0 i0) (W8 "NoValue" (O0 (cSt "no name where one is due"))) nextS) (asQ (L0 (fnZ 3 R) (C4 g0 (L0 (fnZ 3 pA) (C4 g0 C0 (cSt ": "))) B0)) i3 (retS (N0 (N0 (sliceT g0 (partO i0) (partO C0)) (ixE F1 K0)) (ixE F1 A0)))))
def J9(R:List D->M D):List D->M D:=v6 5 (aO R)
def PW(R:List D->M D):Fs:=(asQ (d6 3 3 (L3 "value_at" "pair_at" R (J9 R)) (C4 g0 i0 F1)) i7 (seqS (nB (mtE lB aD o3 (O0 (ixE Q1 K0)))) (gdQ (truthE (mtE isStrM startsD g0 (M0 B0 (ixE Q1 A0)))) (N0 (I0 P4 o3) (binE addD (ixE Q1 A0) (I0 lenF B0))) (J1 (L0 (fnZ 3 pA) (C4 g0 (ixE Q1 A0) (cSt ", "))) P1))))
def HB(R:List D->M D):Fs:=seqS (ifS (truthE (mtE isStrM startsD g0 (M0 B0 i0))) (retS (N0 (S3 F0) (binE addD i0 (I0 lenF B0)))) nextS) (asQ (lstE F0) F5 (V1 (truthE cBt) (PW R)))
def Q4(R:List D->M D):List D->M D:=v6 7 (HB R)
def II(R:List D->M D):Fs:=seqS (J1 (L0 (fnZ 5 (Q4 R)) (D3 g0 (binE addD i0 A0) (cSt "]") (cE (.fn "value_at")) (binE addD B0 A0))) T0) (retS (N0 (N0 (cSt "list") (ixE C0 K0)) (ixE C0 A0)))
def WC(R:List D->M D):List D->M D:=v6 4 (II R)
def kK(R:List D->M D):Fs:=seqS (J1 (L0 (fnZ 5 (Q4 R)) (D3 g0 (binE addD i0 A0) (cSt "}") (cE (.fn "pair_at")) (binE addD B0 A0))) T0) (seqS (ifS (notT (truthE (D2 OC (D2 eF (ixE C0 K0))))) (W8 "NoValue" (O0 (cSt "a record's names don't rise"))) nextS) (retS (N0 (N0 (cSt "record") (ixE C0 K0)) (ixE C0 A0))))
def Z3(R:List D->M D):List D->M D:=v6 4 (kK R)
def W0(R:List D->M D):Fs:=seqS (ifS (tBn gtD B0 (cIn 20)) (W8 "NoValue" (O0 (cSt "too many lists and records within one another"))) nextS) (gdQ (truthE (mtE isStrM startsD g0 (M0 (cSt "[") i0))) (L0 (fnZ 3 (WC R)) (C4 g0 i0 B0)) (gdQ (truthE (mtE isStrM startsD g0 (M0 (cSt "{") i0))) (L0 (fnZ 3 (Z3 R)) (C4 g0 i0 B0)) (gdQ (truthE (mtE isStrM startsD g0 (M0 (cE (.str ("\"" :Str))) i0))) (L5 (fnZ 2 F_text_at) g0 i0) (gdQ (truthE (mtE isStrM startsD g0 (M0 (cSt "true") i0))) (N0 cBt (binE addD i0 (I0 lenF (cSt "true")))) (gdQ (truthE (mtE isStrM startsD g0 (M0 (cSt "false") i0))) (N0 cBf (binE addD i0 (I0 lenF (cSt "false")))) (retS (L5 (fnZ 2 Z9) g0 i0)))))))
def O5:Nat->List D->M D
 |0=>λ_=>M.stuck
 |n+1=>v6 3 (W0 (O5 n))
def U0:List D->M D:=O5 21
def kL:List D->M D:=J9 U0
def vO:List D->M D:=Q4 U0
def bO:List D->M D:=WC U0
def uJ:List D->M D:=Z3 U0
def KJ:Fs:=seqS (J1 (L0 (fnZ 3 U0) (C4 g0 K0 A0)) P1) (seqS (ifS (tBn neD (ixE i0 A0) (I0 lenF g0)) (W8 "NoValue" (O0 (cSt "something stands behind the value"))) nextS) (retS (ixE i0 K0)))
def U8:List D->M D:=v6 2 KJ
def WJ:Fs:=seqS (J1 (D2 V9 g0) P1) (asQ (lstE F0) D1 (asQ (lstE F0) T0 (seqS (EA "NoValue" 4 (J1 (lstE (O0 (I0 (fnZ 1 U8) g0))) D1) (fH 3 true true false)) (gdQ (tBn eqD i0 (lstE F0)) (binE eqD C0 (lstE (C4 cBt cBt cBf))) (retS (bB (binE eqD C0 (lstE F0)) (bB (binE eqD (I0 lenF B0) A0) (D0 GG (ixE B0 K0) (ixE i0 K0)))))))))
def F__law_right:List D->M D:=v6 5 WJ
def WF:Fs:=seqS (ifS (tBn eqD (D0 j6 g0 U2) A0) (retS (binE y3 (D0 j6 g0 (binE addD (binE F2 K2 (binE eC r8 (cIn 18))) A0)) (binE eC r8 (cIn 18)))) nextS) (retS (ixE (lstE (y0 K0 (y0 A0 (y0 (unE A8 A0) (y0 K2 (y0 (unE A8 K2) (D3 U2 r8 (unE A8 r8) (binE eC r8 (cIn 18)) (binE y3 K0 (binE eC r8 (cIn 18)))))))))) (D0 j6 g0 r8)))
def T6:List D->M D:=v6 1 WF
def LT:Fs:=(J1 (binE addD C0 (ixE (cSt "abcdefghijklmnopqrstuvwxyz") (D0 j6 g0 (cIn 26)))) T0)
def V7:Fs:=seqS (J1 (cSt "") T0) (seqS (forS (O7 (O0 (binE addD i0 (D0 j6 g0 (binE addD (binE y3 B0 i0) A0))))) i3 LT) (retS C0))
def R3:List D->M D:=v6 5 V7
def AF:Fs:=seqS (ifS (tBn eqD (D0 j6 g0 U2) A0) (retS (E9 R3 g0 K0 (cIn 20))) nextS) (retS (ixE (lstE (y0 (cSt "") (y0 (cSt "a") (y0 (cSt "b") (y0 (cSt "aa") (y0 (cSt "ab") (D3 (cSt "ba") (cSt "abc") (cSt "z") (cSt "true") (binE F2 (cSt "z") (cIn 20))))))))) (D0 j6 g0 r8)))
def iD:List D->M D:=v6 1 AF
def NB:Fs:=(asQ (ixE (lstE (y0 (cSt "a") (y0 (cSt "b") (y0 (cSt "ab") (D3 (cSt "ba") (cSt "abc") (cSt "z") (cSt "zz") (cSt "zzzzzzzz")))))) (D0 j6 g0 uA)) T0 (seqS (ifS (tBn eqD (D0 j6 g0 U2) A0) (J1 (E9 R3 g0 A0 uA) T0) nextS) (J1 cBt (P5 i0 C0))))
def dE:Fs:=seqS (J1 (UF) P1) (seqS (forS (O7 (O0 (D0 j6 g0 (ixE (lstE (M0 c9 nF)) (D0 j6 g0 K2))))) D1 NB) (retS (I0 b9 i0)))
def HD:List D->M D:=v6 4 dE
def VAb(R:List D->M D):Fs:=(seqS (ifS (tBn eqD B0 kC) (asQ (D0 j6 g0 (ixE (lstE (M0 c9 nF)) (D0 j6 g0 K2))) T0 (retS (N0 (cSt "list") (I0 P4 (T5 (O7 (O0 C0)) [none,some 1,some 0] E4 (Z6) (D0 R B0 (binE y3 i0 A0))))))) nextS) (retS (N0 (cSt "record") (I0 P4 (T5 (itW (D2 HD g0)) [none,some 1,some 0] E4 (Z6) (N0 g0 (D0 R B0 (binE y3 i0 A0))))))))
def VC:Fs:=(gdQ (tBn inD B0 (C5 K0 U2 kC)) (D2 T6 g0) (gdQ (tBn inD B0 (C5 A0 c9 sN)) (D2 iD g0) (retS (ixE (lstE (M0 cBf cBt)) (D0 j6 g0 K2)))))
def VT:DSt->M Bool:=(u4 (tBn gtD B0 fD) (u4 (tBn gtD i0 A0) (tBn ltD (ixE g0 U2) (cIn 20))))
def S7(R:List D->M D):Fs:=seqS (J1 (D0 j6 g0 uA) D1) (asQ (binE addD (ixE g0 U2) A0) (P5 g0 U2) (seqS (ifS VT (VAb R) nextS) VC))
def S6:Nat->List D->M D
 |0=>λ_=>M.stuck
 |n+1=>v6 4 (S7 (S6 n))
def RH:List D->M D:=S6 6
def KH:Fs:=retS (ixE (lstE (y0 K0 (y0 A0 (y0 (unE A8 A0) (D3 (cSt "a") (cSt "") cBt cBf sN))))) (D0 j6 g0 uA))
def R6:List D->M D:=v6 1 KH
def WA:Fs:=(J1 (T5 (O7 (O0 (binE addD nF (D0 j6 g0 (cIn 50))))) [none,some 0] E4 (Z6) (D2 R6 i0)) D1)
def WB:Fs:=(retS (N0 (cSt "record") (I0 P4 (T5 (O7 (O0 (I0 lenF B0))) [none,some 3,some 2] E4 (Z6) (N0 (binE addD (ixE i0 (binE IA g0 U2)) (ixE (cSt "abc") (binE x5 g0 U2))) (ixE B0 g0))))))
def lE:Fs:=seqS (J1 (D0 j6 g0 K2) P1) (seqS WA (gdQ (tBn eqD i0 K0) (N0 (cSt "list") (I0 P4 B0)) (asQ (cSt "abcdefghijklmnopqrstuvwxyz") T0 WB)))
def qE:List D->M D:=v6 4 lE
def CB:Fs:=(asQ (lstE (C4 (N0 (cSt "list") (WK B0)) (N0 (cSt "list") (N0 K0 B0)) (N0 (cSt "record") (WK (N0 (cSt "a") B0))))) i3 (J1 (ixE (binE addD F1 (lstE (O0 (N0 (cSt "record") (N0 (N0 (cSt "a") A0) (N0 (cSt "b") B0)))))) (D0 j6 g0 c9)) D1))
def mF:Fs:=seqS (J1 (D2 R6 g0) D1) (seqS (forS (O7 (O0 (D0 j6 g0 i0))) T0 CB) (retS B0))
def kD:List D->M D:=v6 5 mF
def QF:Fs:=seqS (J1 (D0 j6 g0 kC) D1) (gdQ (tBn eqD B0 A0) (D2 qE g0) (gdQ (tBn eqD B0 K2) (D0 kD g0 i0) (retS (D0 RH g0 fD))))
def F__law_drawn:List D->M D:=v6 3 QF
def XD:Fs:=(ifS (notT (truthE (D2 F__law_right (binE addD (binE addD (binE F2 F1 C0) o3) (binE F2 Q1 C0))))) (retS cBf) nextS)
def XJB:Fs:=(J1 (D0 F__law_spoilt P6 i0) P1)
def qF:Fs:=seqS (J1 (lstE (y0 (cSt "") (y0 (cSt " ") (y0 (cSt "0") (y0 (cSt "-0") (y0 (cSt "00") (y0 (cSt "-") (y0 (cSt "+1") (y0 (cSt "1_0") (y0 (cSt "True") (y0 (cSt "truex") (D3 (cE (.str ("\"" :Str))) (cE (.str ("\"A\"" :Str))) (cSt "[") (cSt "[1,2]") (cSt "[1, ]"))))))))))))) P1) (asQ (binE addD i0 (lstE (y0 (cSt "[ 1]") (y0 (cSt "{a: 1, a: 2}") (y0 (cSt "{b: 1, a: 2}") (D3 (cSt "{a:1}") (cSt "{: 1}") (cSt "{A: 1}") (cSt "{a: 1,}") (cSt "[1] "))))))) P1 (seqS (forS (itW (binE addD i0 (lstE (D3 (cSt "{a: {b: []}}") (cSt "[[]]]") (cSt "0\n") (cSt "[]\n") (cE (.str ("\"a\"\n" :Str))))))) D1 (ifS (notT (truthE (D2 F__law_right B0))) (retS cBf) nextS)) (seqS (forS (itW (lstE (RC (cIn 19) (cIn 20) (cIn 21) (cIn 30)))) T0 (forS (itW (lstE (C4 (C5 (cSt "[") (cSt "") (cSt "]")) (C5 (cSt "[") (cSt "[]") (cSt "]")) (C5 (cSt "{a: ") (cSt "0") (cSt "}"))))) (tupG 3 (consG i3 (consG F5 (consG i7 (nilG))))) XD)) (seqS (forS (itEnum (O0 (sliceT g0 (noPart) (partO (cIn 63))))) (tupG 2 (consG RF (consG MF (nilG)))) (asQ (E9 F__law_hand g0 dN HJ) eO (asQ (D2 F__law_written (D0 F__law_drawn P6 (cIn 18))) D1 (asQ (D0 F__law_spoilt P6 B0) (E1 10) (asQ (cSt "") P1 (seqS (forS (O7 (O0 (D0 j6 P6 kC))) (E1 11) XJB) (forS (itW (lstE (RC B0 (R5 10) (D0 F__law_spoilt P6 (R5 10)) i0))) (E1 12) (ifS (notT (truthE (D2 F__law_right (R5 12)))) (retS cBf) nextS)))))))) (retS cBt)))))
def MH:List D->M D:=v6 13 qF
local macro_rules | `(tactic| walk_at "cl") => `(tactic| (refine ⟨?k, ?kk, ?a, ?b, ?c⟩; (case a => first | (dsimp only [Cx.nox, W3]; with_reducible assumption) | assumption); (case b => assumption); (case c => first | decide | omega)))
local macro_rules | `(tactic| walk_at "ck") => `(tactic| (refine ⟨?k, ?kk, ?kkk, ?a, ?b, ?c, ?d⟩; (case a => assumption); (case b => rfl); (case c => rfl); (case d => decide +kernel)))
local macro_rules | `(tactic| walk_at "od") => `(tactic| first
 |with_reducible exact vR
 |with_reducible exact KW
 |with_reducible exact qQ
 |with_reducible exact Dq
 |with_reducible exact KZ
 |with_reducible exact OX
 |with_reducible exact QU
 |with_reducible exact aS
 |with_reducible exact vv
 |((with_reducible refine MV ?_);exact M7.units (by assumption))
 |((with_reducible refine Cq ?_);exact M7.units (by assumption))
 |((with_reducible refine Mz ?_);exact M7.units (by assumption))
 |((with_reducible refine Bf ?_);exact M7.units (by assumption)))
local macro_rules | `(tactic| walk_at "bd") => `(tactic| first
 |with_reducible exact fY
 |with_reducible exact Cz
 |with_reducible exact kT
 |with_reducible exact FQ
 |with_reducible exact qc
 |with_reducible exact qb
 |with_reducible exact TV
 |with_reducible exact QT)
local macro_rules | `(tactic| walk_at "da") => `(tactic| first
 |with_reducible exact fV
 |((with_reducible refine hU ?_ ?_ ?_);walk_at "de";walk_at "da";rfl))
local macro_rules | `(tactic| walk_at "do") => `(tactic| first
 |with_reducible exact DV
 |((with_reducible refine Hf ?_);walk_at "de"))
local macro_rules | `(tactic| walk_at "pk") => `(tactic| first | exact Dx | ((apply MP); walk_at "pk"; walk_at "pk"; (unfold QA; decide); rfl) | ((apply QQ); walk_at "pk"; walk_at "pk"; rfl))
local macro_rules | `(tactic| walk_at "de") => `(tactic| first
 |with_reducible exact Nc
 |with_reducible exact wY
 |with_reducible exact Fv
 |((with_reducible refine lW _ ?_ ?_ ?_ ?_);rfl;(first|exact Or.inl rfl|exact Or.inr (Or.inl rfl)|exact Or.inr (Or.inr rfl));decide;decide)
 |((with_reducible refine SV ?_ ?_ ?_ ?_ ?_ ?_);assumption;decide;decide +kernel;rfl;decide;decide)
 |((with_reducible refine CZ ?_ ?_ ?_);assumption;rfl;decide)
 |((with_reducible refine wx ?_ ?_ ?_);walk_at "od";walk_at "de";walk_at "de")
 |((with_reducible refine Cp wk ?_);walk_at "de")
 |((with_reducible refine Lw ?_ ?_ ?_ ?_);walk_at "od";walk_at "de";walk_at "de";with_unfolding_all rfl)
 |((with_reducible refine fQ ?_);walk_at "de")
 |((with_reducible refine qW ?_ ?_);walk_at "de";walk_at "de")
 |((with_reducible refine Fd ?_ ?_ ?_);walk_at "dt";walk_at "de";walk_at "de")
 |((with_reducible refine Lc ?_);walk_at "da")
 |((with_reducible refine OP ?_);walk_at "da")
 |with_reducible exact gZ
 |((with_reducible refine RS ?_ ?_ ?_);walk_at "de";walk_at "do";walk_at "do")
 |((with_reducible refine UR ?_ ?_ ?_);walk_at "de";walk_at "de";exact λ_ _=>rfl)
 |((with_reducible refine vg ?_ ?_ ?_ ?_ ?_);walk_at "cl";rfl;walk_at "da";decide;rfl)
 |((with_reducible refine sY ?_ ?_ ?_ ?_ ?_ ?_ ?_ ?_);walk_at "cl";walk_at "cl";rfl;(first|exact .inl rfl|exact .inr (.inl rfl)|exact .inr (.inr rfl));decide;decide;rfl;walk_at "da")
 |((with_reducible refine RW ?_ ?_ ?_ ?_ ?_ ?_ ?_ ?_ ?_);rfl;walk_at "bd";assumption;decide +kernel;rfl;walk_at "da";decide;decide;rfl)
 |((with_reducible refine wd ZT Xy KQ ?_ ?_ ?_ ?_ ?_ ?_ ?_);walk_at "de";walk_at "da";rfl;rfl;rfl;exact S0 rfl;rfl)
 |((with_reducible refine nM PySem.F.slot_str_join PySem.F.type_str_join bZ ?_ ?_ ?_ ?_ ?_ ?_ ?_);walk_at "de";walk_at "da";rfl;rfl;rfl;exact S0 rfl;rfl)
 |((with_reducible refine nM Js PySem.F.type_str_startswith Hc ?_ ?_ ?_ ?_ ?_ ?_ ?_);walk_at "de";walk_at "da";rfl;rfl;rfl;exact S0 rfl;rfl)
 |((with_reducible refine EY ?_ ?_ ?_ ?_ ?_ ?_ ?_ ?_);rfl;walk_at "di";walk_at "ck";decide +kernel;(intro _ _ _ _ _;walk_at "dg");(intro _ _ _ _;walk_at "dts");(intro _ _ _ _;walk_at "de");exact λ_=>rfl))
local macro_rules | `(tactic| walk_at "dt") => `(tactic| first
 |((with_reducible refine DW.dt ?_);walk_at "dw")
 |((with_reducible refine Fz ?_);walk_at "dt")
 |((with_reducible refine Mf ?_ ?_ ?_ ?_);walk_at "od";walk_at "de";walk_at "de";with_unfolding_all rfl)
 |((with_reducible refine NQ ?_ ?_ ?_ ?_ ?_ ?_);walk_at "od";walk_at "od";walk_at "de";walk_at "de";walk_at "de";with_unfolding_all rfl)
 |((with_reducible refine DQ ?_ ?_);walk_at "de";exact λ_=>rfl))
local macro_rules | `(tactic| walk_at "dw") => `(tactic| first
 |((with_reducible refine HZ ?_);walk_at "dt")
 |((with_reducible refine nP ?_);walk_at "dt")
 |((with_reducible refine rR ?_ ?_);walk_at "dt";walk_at "dw")
 |((with_reducible refine Hz ?_ ?_);walk_at "dt";walk_at "dw"))
local macro_rules | `(tactic| walk_at "dts") => `(tactic| first
 |with_reducible exact Dw)
local macro_rules | `(tactic| walk_at "di") => `(tactic| first
 |((with_reducible refine mX ?_ ?_ ?_ ?_);assumption;rfl;walk_at "da";rfl)
 |((with_reducible refine Kv ?_ ?_ ?_ ?_ ?_);assumption;rfl;walk_at "da";rfl;rfl)
 |((with_reducible refine Dg ?_ ?_ ?_ ?_);assumption;rfl;walk_at "da";rfl)
 |((with_reducible refine Cd ?_);walk_at "de"))
local macro_rules | `(tactic| walk_at "dg") => `(tactic| first
 |((with_reducible refine iZ ?_ ?_ ?_ ?_);exact⟨_,_,_, ‹M5 _ _ _›,rfl⟩;rfl;(first|exact Or.inl rfl|exact Or.inr rfl);(first|exact .inl rfl|exact .inr rfl))
 |((with_reducible refine KN ?_ ?_ ?_ ?_);assumption;rfl;(first|exact Or.inl rfl|exact Or.inr rfl);(first|exact .inl rfl|exact .inr rfl))
 |((with_reducible refine bT ?_ ?_ ?_ ?_);rfl;walk_at "dgs";rfl;rfl)
 |((with_reducible refine PX ?_ ?_ ?_ ?_);exact M7.units (by assumption);walk_at "de";walk_at "de";exact λ_=>rfl))
local macro_rules | `(tactic| walk_at "dgs") => `(tactic| first
 |with_reducible exact Nb
 |((with_reducible refine iT ?_ ?_ ?_);walk_at "dg";walk_at "dgs";rfl))
local macro_rules | `(tactic| walk_at "ds") => `(tactic| first
 |((with_reducible refine kW ?_);walk_at "de")
 |((with_reducible refine RY ?_ ?_ ?_);walk_at "dt";walk_at "db";walk_at "db")
 |((with_reducible refine tP ?_ ?_ ?_ ?_ ?_);walk_at "de";walk_at "dg";rfl;rfl;rfl)
 |((with_reducible refine Cj ?_ ?_);walk_at "de";rfl)
 |((with_reducible refine DM ?_ ?_ ?_ ?_ ?_ ?_);exact JV;rfl;walk_at "di";walk_at "dg";walk_at "db";exact λ_=>rfl)
 |((with_reducible refine qM ?_ ?_ ?_);exact JV;walk_at "dt";walk_at "db"))
local macro_rules | `(tactic| walk_at "db") => `(tactic| first
 |with_reducible exact aX
 |((with_reducible refine FJ ?_);walk_at "ds")
 |((with_reducible refine GN ?_ ?_);walk_at "ds";walk_at "db"))
local macro_rules | `(tactic| walk_at "db0") => `(tactic| first
 |(refine FJ ?_;walk_at "ds")
 |(refine GN ?_ ?_;walk_at "ds";walk_at "db"))
set_option maxHeartbeats 2000000
local macro_rules | `(tactic| walk_at "th") => `(tactic| first | exact aV | exact tR)
local macro_rules | `(tactic| walk_at "de") => `(tactic| first
 |((with_reducible refine AV ?_ ?_ ?_ ?_ ?_ ?_);walk_at "th";walk_at "cl";rfl;walk_at "da";decide;rfl)
 |((with_reducible refine vq ?_ ?_ ?_ ?_ ?_ ?_ ?_ ?_ ?_);walk_at "th";walk_at "cl";walk_at "cl";rfl;(first|exact .inl rfl|exact .inr (.inl rfl)|exact .inr (.inr rfl));decide;decide;rfl;walk_at "da")
 |((with_reducible refine nU ?_ ?_ ?_);exact⟨_,_,_,by assumption⟩;rfl;decide)
 |((with_reducible refine aZ ?_);walk_at "dj")
 |((with_reducible refine LZ ?_);walk_at "de"))
local macro_rules | `(tactic| walk_at "dj") => `(tactic| first
 |with_reducible exact kX
 |((with_reducible refine LY ?_ ?_);walk_at "de";walk_at "dj"))
local macro_rules | `(tactic| walk_at "eat") => `(tactic| first
 |((with_reducible refine CP ?_ ?_);walk_at "eat";exact S0 rfl)
 |((with_reducible refine UV ?_ ?_ ?_ ?_ ?_ ?_);rfl;walk_at "cl";rfl;(intro _ _ _;walk_at "da");decide;rfl))
local macro_rules | `(tactic| walk_at "bat") => `(tactic| ((with_reducible refine MR ?_ ?_ ?_ ?_ ?_); walk_at "eat"; (intro _ _ _; walk_at "dg"); rfl; rfl; rfl))
local macro_rules | `(tactic| walk_at "ds") => `(tactic| first
 |((with_reducible refine uY ?_ ?_ ?_ ?_ ?_);assumption;rfl;walk_at "da";decide;rfl)
 |((with_reducible refine Dj ?_ ?_ ?_ ?_ ?_ ?_ ?_ ?_);rfl;rfl;rfl;assumption;rfl;decide;walk_at "bat";(intro _;walk_at "db"))
 |((with_reducible refine mT ?_ ?_ ?_ ?_ ?_ ?_ ?_ ?_ ?_ ?_ ?_ ?_ ?_ ?_ ?_ ?_ ?_ ?_ ?_ ?_ ?_ ?_ ?_ ?_ ?_ ?_);rfl;rfl;rfl;assumption;assumption;rfl;rfl;rfl;(first|exact Or.inl rfl|exact Or.inr rfl);(first|exact .inl rfl|exact .inr rfl);exact(‹M5 _ _ _› :M5 _ _ _).nd;rfl;rfl;rfl;rfl;rfl;rfl;rfl;rfl;decide;rfl;rfl;rfl;rfl;decide;walk_at "bat")
 |((with_reducible refine DM ?_ ?_ ?_ ?_ ?_ ?_);exact JA;rfl;walk_at "di";walk_at "dg";walk_at "db";exact λ_=>rfl)
 |((with_reducible refine qM ?_ ?_ ?_);exact JA;walk_at "dt";walk_at "db"))
local macro_rules | `(tactic| walk_at "bd") => `(tactic| with_reducible exact Lh)
local macro_rules | `(tactic| walk_at "sc") => `(tactic| exact ⟨rfl, rfl, rfl, by decide +kernel, rfl, by decide +kernel, by decide +kernel⟩)
local macro_rules | `(tactic| walk_at "ba") => `(tactic| (intro _ _ _ _ _ _ us h; (repeat (have q := sR h; clear h; obtain ⟨_, _, e, h⟩ := q; subst e)); cases List.eq_nil_of_length_eq_zero h; rfl))
abbrev AK:D:=.int 40
abbrev oJ:D:=.int 20
structure BC(K:zd)(mg:Str->Option zg):Prop where
 b:BLs mg
 c_MOST_FIGURES:SD K mg "MOST_FIGURES" AK
 c_MOST_DEEP:SD K mg "MOST_DEEP" oJ
 x_NoValue:iB K mg "NoValue"
 j_0:XJ K mg "NoValue" "MeetError" "NoNumber" "NoRow" "NoSet" "NoTelling"
local macro_rules | `(tactic| walk_at "s1") => `(tactic| (walk_at "sc"; walk_at "ba"; (intro _ _ _ _ _ _ _ _ _; obtain ⟨_, _, _, _, _⟩ := (‹_› : BC _ _); skip)))
def top(i:Nat):Stmt:=PySem.Challenge.pw_allmeet_k05_texts_of_no_value.main.body.getD i (.Pass ⟨0,0,0,0⟩)
section
variable{E:Ev}(zx:EvX E)(zb:BC E.K E.mg)
include zx zb
theorem AQ(Y:FH E.K "_law_hand" (top 24)):Ck E F__law_hand 3 "_law_hand" 1:=by refine U1 ["script", "cell", "k", "way"] ["script", "cell", "k"] zx Y ?_ ?_ rfl rfl ?_;walk_at "s1";unfold IG;walk_at "db0"
variable(k0:Ck E F__law_hand 3 "_law_hand" 1)
theorem VX{R:List D->M D}{lv kk:Nat}(kR:Ck E R 1 "_law_written" lv)(h1:lv<=kk)(h2:0<=kk)(Y:FH E.K "_law_written" (top 35)):Ck E (v6 1 (wH R)) 1 "_law_written" (kk+1):=by refine U1 ["value"] ["value"] zx Y ?_ ?_ rfl rfl ?_;walk_at "s1";unfold wH;walk_at "db0"
section
variable(Y:FH E.K "_law_written" (top 35))
include Y
theorem vI:∀n,Ck E (V5 n) 1 "_law_written" (0+n)
 |0=>QC ["value"] zx Y (by walk_at "ba") rfl
 |n+1=>VX zx zb (vI n) (zk _) (jO _ _) Y
end
theorem RQ(Y:FH E.K "_law_written" (top 35)):Ck E F__law_written 1 "_law_written" 21:=vI zx zb Y 21
variable(k1:Ck E F__law_written 1 "_law_written" 21)
theorem gT(Y:FH E.K "_law_draw" (top 25)):Ck E j6 2 "_law_draw" 1:=by refine U1 ["hand", "limit", "got"] ["hand", "limit"] zx Y ?_ ?_ rfl rfl ?_;walk_at "s1";unfold CH;walk_at "db0"
variable(k2:Ck E j6 2 "_law_draw" 1)
include k2 in
theorem wS(Y:FH E.K "_law_spoilt" (top 42)):Ck E F__law_spoilt 2 "_law_spoilt" 2:=by refine U1 ["hand", "text", "signs", "at", "far", "sign", "kind"] ["hand", "text"] zx Y ?_ ?_ rfl rfl ?_;walk_at "s1";unfold X6;unfold SPA SPB;walk_at "db0"
variable(k3:Ck E F__law_spoilt 2 "_law_spoilt" 2)
theorem GY(Y:FH E.K "_law_run" (top 37)):Ck E X3 3 "_law_run" 1:=by refine U1 ["text", "at", "signs", "end"] ["text", "at", "signs"] zx Y ?_ ?_ rfl rfl ?_;walk_at "s1";unfold RE;unfold UT UB;walk_at "db0"
variable(k4:Ck E X3 3 "_law_run" 1)
include k4 in
theorem bM{R:List D->M D}{lv:Nat}(kR:Ck E R 4 "_law_parts_at" lv)(h2:1<=lv)(Y:FH E.K "_law_at" (top 39)):Ck E (R7 R) 2 "_law_at" (lv+1):=by refine U1 ["text", "at", "sign", "got", "word", "end", "figures"] ["text", "at"] zx Y ?_ ?_ rfl rfl ?_;walk_at "s1";unfold GC;unfold ZC ZD ZW ZE ZN NC ZF ZB ZO;walk_at "db0"
include k4 in
theorem Fk{R:List D->M D}{lv:Nat}(kR:Ck E R 4 "_law_parts_at" lv)(h6:Ck E (R7 R) 2 "_law_at" (lv+1))(h2:1<=lv)(Y:FH E.K "_law_parts_at" (top 38)):Ck E (v6 7 (K8 R)) 4 "_law_parts_at" (lv+2):=by refine U1 ["text", "at", "close", "names", "parts", "name", "got"] ["text", "at", "close", "names"] zx Y ?_ ?_ rfl rfl ?_;walk_at "s1";unfold K8;unfold YB YN YP YL YA YC YT;walk_at "db0"
section
variable(Y:FH E.K "_law_parts_at" (top 38))(Y6:FH E.K "_law_at" (top 39))
include Y Y6 k4
theorem DK:∀n,Ck E (K3 n) 4 "_law_parts_at" (1+2*n)
 |0=>QC ["text", "at", "close", "names"] zx Y (by walk_at "ba") rfl
 |n+1=>by have kR:=DK n;have h6:=bM zx zb k4 kR (jO _ _) Y6;exact Fk zx zb k4 kR h6 (jO _ _) Y
end
include k4 in
theorem UY(Y:FH E.K "_law_parts_at" (top 38))(Y6:FH E.K "_law_at" (top 39)):Ck E nG 4 "_law_parts_at" 91:=DK zx zb k4 Y Y6 45
variable(k5:Ck E nG 4 "_law_parts_at" 91)
include k4 k5 in
theorem ES(Y:FH E.K "_law_at" (top 39)):Ck E LF 2 "_law_at" 92:=bM zx zb k4 k5 (by decide) Y
variable(k6:Ck E LF 2 "_law_at" 92)
theorem VZ{R:List D->M D}{lv kk:Nat}(kR:Ck E R 1 "_law_deep" lv)(h1:lv<=kk)(h2:0<=kk)(Y:FH E.K "_law_deep" (top 40)):Ck E (v6 1 (aG R)) 1 "_law_deep" (kk+1):=by refine U1 ["value"] ["value"] zx Y ?_ ?_ rfl rfl ?_;walk_at "s1";unfold aG;walk_at "db0"
section
variable(Y:FH E.K "_law_deep" (top 40))
include Y
theorem EN:∀n,Ck E (uD n) 1 "_law_deep" (0+n)
 |0=>QC ["value"] zx Y (by walk_at "ba") rfl
 |n+1=>VZ zx zb (EN n) (zk _) (jO _ _) Y
end
theorem Cg(Y:FH E.K "_law_deep" (top 40)):Ck E tG 1 "_law_deep" 50:=EN zx zb Y 50
variable(k7:Ck E tG 1 "_law_deep" 50)
include k6 k7 in
theorem vX(Y:FH E.K "_law_reading" (top 41)):Ck E V9 1 "_law_reading" 93:=by refine U1 ["text", "got"] ["text"] zx Y ?_ ?_ rfl rfl ?_;walk_at "s1";unfold pK;walk_at "db0"
variable(k8:Ck E V9 1 "_law_reading" 93)
theorem gS{R:List D->M D}{lv kk:Nat}(kR:Ck E R 2 "_law_alike" lv)(h1:lv<=kk)(h2:0<=kk)(Y:FH E.K "_law_alike" (top 36)):Ck E (v6 2 (OF R)) 2 "_law_alike" (kk+1):=by refine U1 ["one", "other"] ["one", "other"] zx Y ?_ ?_ rfl rfl ?_;walk_at "s1";unfold OF;walk_at "db0"
section
variable(Y:FH E.K "_law_alike" (top 36))
include Y
theorem RO:∀n,Ck E (aF n) 2 "_law_alike" (0+n)
 |0=>QC ["one", "other"] zx Y (by walk_at "ba") rfl
 |n+1=>gS zx zb (RO n) (zk _) (jO _ _) Y
end
theorem SU(Y:FH E.K "_law_alike" (top 36)):Ck E GG 2 "_law_alike" 60:=RO zx zb Y 60
variable(k9:Ck E GG 2 "_law_alike" 60)
theorem uQ(Y:FH E.K "run_end" (top 21)):Ck E W7 4 "run_end" 1:=by refine U1 ["text", "at", "first", "last", "end"] ["text", "at", "first", "last"] zx Y ?_ ?_ rfl rfl ?_;walk_at "s1";unfold AD;unfold RT RB;walk_at "db0"
variable(k10:Ck E W7 4 "run_end" 1)
include k10 in
theorem kQ(Y:FH E.K "number_at" (top 20)):CkZ E Z9 2 "number_at" 2:=by refine A7 ["text", "at", "start", "end"] ["text", "at"] zx Y ?_ ?_ rfl rfl ?_;walk_at "s1";unfold Z5;unfold NE;walk_at "db0"
variable(k11:CkZ E Z9 2 "number_at" 2)
theorem aY(Y:FH E.K "behind" (top 22)):CkZ E pA 3 "behind" 1:=by refine A7 ["text", "at", "sign"] ["text", "at", "sign"] zx Y ?_ ?_ rfl rfl ?_;walk_at "s1";unfold tI;walk_at "db0"
variable(k12:CkZ E pA 3 "behind" 1)
include k10 k12 in
theorem KR(Y:FH E.K "text_at" (top 19)):CkZ E F_text_at 2 "text_at" 2:=by refine A7 ["text", "at", "end"] ["text", "at"] zx Y ?_ ?_ rfl rfl ?_;walk_at "s1";unfold VL;walk_at "db0"
variable(k13:CkZ E F_text_at 2 "text_at" 2)
theorem kg(Y:FH E.K "rising" (top 8)):Ck E OC 1 "rising" 1:=by refine U1 ["keys"] ["keys"] zx Y ?_ ?_ rfl rfl ?_;walk_at "s1";unfold sL;walk_at "db0"
variable(k14:Ck E OC 1 "rising" 1)
theorem lR(Y:FH E.K "names_of" (top 9)):Ck E eF 1 "names_of" 1:=by refine U1 ["pairs"] ["pairs"] zx Y ?_ ?_ rfl rfl ?_;walk_at "s1";unfold RM;walk_at "db0"
variable(k15:Ck E eF 1 "names_of" 1)
include k10 k12 in
theorem nL{R:List D->M D}{lv:Nat}(kR:CkZ E R 3 "value_at" lv)(h2:2<=lv)(Y:FH E.K "pair_at" (top 18)):CkZ E (J9 R) 3 "pair_at" (lv+1):=by refine A7 ["text", "at", "depth", "end", "found"] ["text", "at", "depth"] zx Y ?_ ?_ rfl rfl ?_;walk_at "s1";unfold aO;walk_at "db0"
include k12 in
theorem wI{R:List D->M D}{lv:Nat}(kR:CkZ E R 3 "value_at" lv)(h17:CkZ E (J9 R) 3 "pair_at" (lv+1))(h2:2<=lv)(Y:FH E.K "parts_at" (top 17)):CkZ E (Q4 R) 5 "parts_at" (lv+2):=by refine A7 ["text", "at", "close", "part_at", "depth", "parts", "found"] ["text", "at", "close", "part_at", "depth"] zx Y ?_ ?_ rfl rfl ?_;walk_at "s1";unfold HB;unfold PW;walk_at "db0"
theorem RL{R:List D->M D}{lv:Nat}(kR:CkZ E R 3 "value_at" lv)(h18:CkZ E (Q4 R) 5 "parts_at" (lv+2))(h2:2<=lv)(Y:FH E.K "list_at" (top 15)):CkZ E (WC R) 3 "list_at" (lv+3):=by refine A7 ["text", "at", "depth", "found"] ["text", "at", "depth"] zx Y ?_ ?_ rfl rfl ?_;walk_at "s1";unfold II;walk_at "db0"
include k14 k15 in
theorem NJ{R:List D->M D}{lv:Nat}(kR:CkZ E R 3 "value_at" lv)(h17:CkZ E (J9 R) 3 "pair_at" (lv+1))(h18:CkZ E (Q4 R) 5 "parts_at" (lv+2))(h2:2<=lv)(Y:FH E.K "record_at" (top 16)):CkZ E (Z3 R) 3 "record_at" (lv+3):=by refine A7 ["text", "at", "depth", "found"] ["text", "at", "depth"] zx Y ?_ ?_ rfl rfl ?_;walk_at "s1";unfold kK;walk_at "db0"
include k11 k13 in
theorem RR{R:List D->M D}{lv:Nat}(kR:CkZ E R 3 "value_at" lv)(h19:CkZ E (WC R) 3 "list_at" (lv+3))(h20:CkZ E (Z3 R) 3 "record_at" (lv+3))(h2:2<=lv)(Y:FH E.K "value_at" (top 14)):CkZ E (v6 3 (W0 R)) 3 "value_at" (lv+4):=by refine A7 ["text", "at", "depth"] ["text", "at", "depth"] zx Y ?_ ?_ rfl rfl ?_;walk_at "s1";unfold W0;walk_at "db0"
section
variable(Y:FH E.K "value_at" (top 14))(Y17:FH E.K "pair_at" (top 18))(Y18:FH E.K "parts_at" (top 17))(Y19:FH E.K "list_at" (top 15))(Y20:FH E.K "record_at" (top 16))
include Y Y17 Y18 Y19 Y20 k10 k11 k12 k13 k14 k15
theorem NL:∀n,CkZ E (O5 n) 3 "value_at" (2+4*n)
 |0=>Fh ["text", "at", "depth"] zx Y (by walk_at "ba") rfl
 |n+1=>by have kR:=NL n;have h17:=nL zx zb k10 k12 kR (jO _ _) Y17;have h18:=wI zx zb k12 kR h17 (jO _ _) Y18;have h19:=RL zx zb kR h18 (jO _ _) Y19;have h20:=NJ zx zb k14 k15 kR h17 h18 (jO _ _) Y20;exact RR zx zb k11 k13 kR h19 h20 (jO _ _) Y
end
include k10 k11 k12 k13 k14 k15 in
theorem SS(Y:FH E.K "value_at" (top 14))(Y17:FH E.K "pair_at" (top 18))(Y18:FH E.K "parts_at" (top 17))(Y19:FH E.K "list_at" (top 15))(Y20:FH E.K "record_at" (top 16)):CkZ E U0 3 "value_at" 86:=NL zx zb k10 k11 k12 k13 k14 k15 Y Y17 Y18 Y19 Y20 21
variable(k16:CkZ E U0 3 "value_at" 86)
include k10 k12 k16 in
theorem PY(Y:FH E.K "pair_at" (top 18)):CkZ E kL 3 "pair_at" 87:=nL zx zb k10 k12 k16 (by decide) Y
variable(k17:CkZ E kL 3 "pair_at" 87)
include k12 k16 k17 in
theorem LU(Y:FH E.K "parts_at" (top 17)):CkZ E vO 5 "parts_at" 88:=wI zx zb k12 k16 k17 (by decide) Y
variable(k18:CkZ E vO 5 "parts_at" 88)
include k16 k18 in
theorem sQ(Y:FH E.K "list_at" (top 15)):CkZ E bO 3 "list_at" 89:=RL zx zb k16 k18 (by decide) Y
variable(k19:CkZ E bO 3 "list_at" 89)
include k14 k15 k16 k17 k18 in
theorem EV(Y:FH E.K "record_at" (top 16)):CkZ E uJ 3 "record_at" 89:=NJ zx zb k14 k15 k16 k17 k18 (by decide) Y
variable(k20:CkZ E uJ 3 "record_at" 89)
include k16 in
theorem MU(Y:FH E.K "read_value" (top 13)):CkZ E U8 1 "read_value" 87:=by refine A7 ["text", "found"] ["text"] zx Y ?_ ?_ rfl rfl ?_;walk_at "s1";unfold KJ;walk_at "db0"
variable(k21:CkZ E U8 1 "read_value" 87)
include k8 k9 k21 in
theorem LQ(Y:FH E.K "_law_right" (top 43)):Ck E F__law_right 1 "_law_right" 94:=by refine U1 ["text", "due", "told", "kinds", "e"] ["text"] zx Y ?_ ?_ rfl rfl ?_;walk_at "s1";unfold WJ;walk_at "db0"
variable(k22:Ck E F__law_right 1 "_law_right" 94)
include k2 in
theorem cP(Y:FH E.K "_law_number" (top 28)):Ck E T6 1 "_law_number" 2:=by refine U1 ["hand"] ["hand"] zx Y ?_ ?_ rfl rfl ?_;walk_at "s1";unfold WF;walk_at "db0"
variable(k23:Ck E T6 1 "_law_number" 2)
include k2 in
theorem bX(Y:FH E.K "_law_letters" (top 26)):Ck E R3 3 "_law_letters" 2:=by refine U1 ["hand", "least", "most", "text", "k"] ["hand", "least", "most"] zx Y ?_ ?_ rfl rfl ?_;walk_at "s1";unfold V7;unfold LT;walk_at "db0"
variable(k24:Ck E R3 3 "_law_letters" 2)
include k2 k24 in
theorem vV(Y:FH E.K "_law_text" (top 27)):Ck E iD 1 "_law_text" 3:=by refine U1 ["hand"] ["hand"] zx Y ?_ ?_ rfl rfl ?_;walk_at "s1";unfold AF;walk_at "db0"
variable(k25:Ck E iD 1 "_law_text" 3)
include k2 k24 in
theorem RZ(Y:FH E.K "_law_names" (top 29)):Ck E HD 1 "_law_names" 3:=by refine U1 ["hand", "some", "k", "name"] ["hand"] zx Y ?_ ?_ rfl rfl ?_;walk_at "s1";unfold dE;unfold NB;walk_at "db0"
variable(k26:Ck E HD 1 "_law_names" 3)
include k2 k23 k25 k26 in
theorem lV{R:List D->M D}{lv kk:Nat}(kR:Ck E R 2 "_law_value" lv)(h1:lv<=kk)(h2:3<=kk)(Y:FH E.K "_law_value" (top 30)):Ck E (v6 4 (S7 R)) 2 "_law_value" (kk+1):=by refine U1 ["hand", "deep", "kind", "many"] ["hand", "deep"] zx Y ?_ ?_ rfl rfl ?_;walk_at "s1";unfold S7;unfold VAb VC VT;walk_at "db0"
section
variable(Y:FH E.K "_law_value" (top 30))
include Y k2 k23 k25 k26
theorem FI:∀n,Ck E (S6 n) 2 "_law_value" (3+n)
 |0=>QC ["hand", "deep"] zx Y (by walk_at "ba") rfl
 |n+1=>lV zx zb k2 k23 k25 k26 (FI n) (zk _) (jO _ _) Y
end
include k2 k23 k25 k26 in
theorem Dk(Y:FH E.K "_law_value" (top 30)):Ck E RH 2 "_law_value" 9:=FI zx zb k2 k23 k25 k26 Y 6
variable(k27:Ck E RH 2 "_law_value" 9)
include k2 in
theorem oY(Y:FH E.K "_law_small" (top 31)):Ck E R6 1 "_law_small" 2:=by refine U1 ["hand"] ["hand"] zx Y ?_ ?_ rfl rfl ?_;walk_at "s1";unfold KH;walk_at "db0"
variable(k28:Ck E R6 1 "_law_small" 2)
include k2 k28 in
theorem mP(Y:FH E.K "_law_wide" (top 32)):Ck E qE 1 "_law_wide" 3:=by refine U1 ["hand", "kind", "parts", "letters"] ["hand"] zx Y ?_ ?_ rfl rfl ?_;walk_at "s1";unfold lE;unfold WB WA;walk_at "db0"
variable(k29:Ck E qE 1 "_law_wide" 3)
include k2 k28 in
theorem GW(Y:FH E.K "_law_chain" (top 33)):Ck E kD 2 "_law_chain" 3:=by refine U1 ["hand", "most", "value", "k", "ways"] ["hand", "most"] zx Y ?_ ?_ rfl rfl ?_;walk_at "s1";unfold mF;unfold CB;walk_at "db0"
variable(k30:Ck E kD 2 "_law_chain" 3)
include k2 k27 k29 k30 in
theorem kS(Y:FH E.K "_law_drawn" (top 34)):Ck E F__law_drawn 2 "_law_drawn" 10:=by refine U1 ["hand", "most", "way"] ["hand", "most"] zx Y ?_ ?_ rfl rfl ?_;walk_at "s1";unfold QF;walk_at "db0"
variable(k31:Ck E F__law_drawn 2 "_law_drawn" 10)
end
set_option maxHeartbeats 4000000 in
theorem all_mk{l:PySem.W.OpenLaw}{w:zO}{K:zd}{h:Heap}{mg:Str->Option zg}{fa:Addr}(X:K.In h)(G:h.Ns zJ mg)(hfa:mg "law" =some (.ref fa))(Z0:FHs K top ["_law_hand", "_law_written", "_law_draw", "_law_spoilt", "_law_run", "_law_parts_at", "_law_at", "_law_deep", "_law_reading", "_law_alike", "run_end", "number_at", "behind", "text_at", "rising", "names_of", "value_at", "pair_at", "parts_at", "list_at", "record_at", "read_value", "_law_right", "_law_number", "_law_letters"] [24,35,25,42,37,38,39,40,41,36,21,20,22,19,8,9,14,18,17,15,16,13,43,28,26])(Z25:FHs K top ["_law_text", "_law_names", "_law_value", "_law_small", "_law_wide", "_law_chain", "_law_drawn", "law"] [27,29,30,31,32,33,34,44])
 (g_MOST_FIGURES:CC K mg "MOST_FIGURES" AK)
 (g_MOST_DEEP:CC K mg "MOST_DEEP" oJ)
 (x_NoValue:XI K "NoValue")
 (j_0:XJI K "NoValue" "MeetError" "NoNumber" "NoRow" "NoSet" "NoTelling")
 (z:∀b∈bltL,jF K zJ b=some none) (pure:∀ns:List Int,ns.length<=63->∃G',MH [.ref 0] [.rol (ns.map D.int)]=some (.ok (.bl true),G')):
 ∃fd:xg,(∀(s:zm) (v:zg),Yu s fd ⟨[v], []⟩ [("script",v)])/\∀base:Heap,K.In base->base.Ns zJ mg->X4 l.prog w K mg base CX0 95 fa fd ["script"] (wD K):=by
 obtain⟨Y0,Y1,Y2,Y3,Y4,Y5,Y6,Y7,Y8,Y9,Y10,Y11,Y12,Y13,Y14,Y15,Y16,Y17,Y18,Y19,Y20,Y21,Y22,Y23,Y24,_⟩:=Z0;obtain⟨Y25,Y26,Y27,Y28,Y29,Y30,Y31,Y32,_⟩:=Z25;have zb:BC K mg:=⟨BLs.of X G z,g_MOST_FIGURES.ok X G,g_MOST_DEEP.ok X G,x_NoValue.ok X G,j_0.ok X G⟩;refine vm (N:= ["script", "some", "text", "deep", "left", "mid", "right", "k", "cell", "hand", "bad", "j", "one"]) X G hfa Y32 (by walk_at "ba") (by walk_at "sc") rfl (λ_ _ _ _ _ _ s v=>.of_eq rfl) (λbase=>?_) pure;have zx:EvX ⟨l.prog,w,K,mg,base⟩:=⟨h,X,G⟩;have k0:=AQ zx zb Y0;have k1:=RQ zx zb Y1;have k2:=gT zx zb Y2;have k3:=wS zx zb k2 Y3;have k4:=GY zx zb Y4;have k5:=UY zx zb k4 Y5 Y6;have k6:=ES zx zb k4 k5 Y6;have k7:=Cg zx zb Y7;have k8:=vX zx zb k6 k7 Y8;have k9:=SU zx zb Y9;have k10:=uQ zx zb Y10;have k11:=kQ zx zb k10 Y11;have k12:=aY zx zb Y12;have k13:=KR zx zb k10 k12 Y13;have k14:=kg zx zb Y14;have k15:=lR zx zb Y15;have k16:=SS zx zb k10 k11 k12 k13 k14 k15 Y16 Y17 Y18 Y19 Y20;have k17:=PY zx zb k10 k12 k16 Y17;have k18:=LU zx zb k12 k16 k17 Y18;have k19:=sQ zx zb k16 k18 Y19;have k20:=EV zx zb k14 k15 k16 k17 k18 Y20;have k21:=MU zx zb k16 Y21;have k22:=LQ zx zb k8 k9 k21 Y22;have k23:=cP zx zb k2 Y23;have k24:=bX zx zb k2 Y24;have k25:=vV zx zb k2 k24 Y25;have k26:=RZ zx zb k2 k24 Y26;have k27:=Dk zx zb k2 k23 k25 k26 Y27;have k28:=oY zx zb k2 Y28;have k29:=mP zx zb k2 k28 Y29;have k30:=GW zx zb k2 k28 Y30;have k31:=kS zx zb k2 k27 k29 k30 Y31;intro _ _ _ _ _ _ _ _;obtain⟨_,_,_,_,_⟩:=zb;unfold qF;unfold XD XJB;walk_at "db0"
mutual
def szD:D->Nat
 | .tup l=>1+szL l
 | .str _=>1
 | .ref _=>1
 | .fn _=>1
 | .ty _=>1
 | .non=>1
 | .bl _=>1
 | .int _=>1
def szL:List D->Nat
 |[]=>0
 |d::r=>szD d+szL r
end
abbrev M3:Str:= "list"
abbrev Z4:Str:= "record"
def Ap(G G':DH):Prop:=∃t,G'=G++t
theorem Ap.refl:Ap G G:=⟨[],by simp⟩
theorem Ap.trans(h:Ap G G1)(k:Ap G1 G2):Ap G G2:=by obtain⟨t,rfl⟩:=h;obtain⟨u,rfl⟩:=k;exact⟨t++u,by simp⟩
theorem Ap.one:Ap G (G++[o]):=⟨_,rfl⟩
theorem Ap.at{p:Nat}(h:Ap G G')(e:G[p]? =some o):G'[p]? =some o:=by obtain⟨t,rfl⟩:=h;exact o9 e
theorem Ap.len(h:Ap G G'):G.length<=G'.length:=by obtain⟨t,rfl⟩:=h;simp
theorem Ap.gr(h:Ap G G'):Gr G G':=by obtain⟨t,rfl⟩:=h;exact Gr.app
section
theorem VA(J:DH->Prop)(S:DSt->Prop)(f:D->D)(Pw:∀G,J G->ck G=true):∀items U G,S U->J G->
 (∀d∈items,∀ U G,S U->J G->Wp (g d U) G λWY G1=>G1=G/\S WY/\Wp (t WY) G λb G2=>b=true/\G2=G/\Wp (e WY) G λy G3=>J G3/\y=f d)->
 Wp (M9 g t e ck items U) G λys G'=>J G'/\ys=items.map f
 |[],U,G,s,j,_=>by rw[cN];exact⟨Pw G j,j,rfl⟩
 |d::r,U,G,s,j,step=>by rw[bN];refine⟨Pw G j,Wp.mono (step d (by simp) U G s j) λWY G1 ⟨e1,s1,w1⟩=>?_⟩;subst e1;refine Wp.mono w1 λb G2 ⟨eb,e2,w2⟩=>?_;subst eb e2;rw[if_pos rfl];refine Wp.mono w2 λy G3 ⟨j3,py⟩=>?_;refine Wp.mono (VA J S f Pw r WY G3 s1 j3 λd hd=>step d (by simp[hd])) λys G4 ⟨j4,l4⟩=>⟨j4,by simp[l4,py]⟩
end
theorem c8(e:G[p]? =some (.lst xs))(eq:G[q]? =some (.lst [])):Wp (eqD (.ref p) (.ref q)) G Q↔Q (.bl xs.isEmpty) G:=by
 have h:eqN 40 G (.ref p) (.ref q)=some xs.isEmpty:=by
  have h1:Q6 G (.ref p)=some (false,xs):=by simp only[Q6,e]
  have h2:Q6 G (.ref q)=some (false, []):=by simp only[Q6,eq]
  rw[CA,h1,h2]
  cases xs<;>rfl
 rw[HC,h];exact P0
theorem Cf{lo hi:Option Int}(e:G[p]? =some (.lst l)):Wp (slD (.ref p) lo hi) G Q↔Q (.ref G.length) (G++[.lst (DL.cutD l lo hi)]):=by
 have h:slD (.ref p) lo hi= (do
  let l <-K6 p >>= DL.listOf
  O1 (.lst (DL.cutD l lo hi))):=rfl
 rw[h];simp only[m6,S8,e,P0,DL.listOf,j7,V0]
theorem big:1000000<ze:=by decide
section
theorem X5:Wp (J0 (n+1) t b U) G P↔Wp (t U) G λk G1=>if k=true then Wp (b U) G1 λfl G2=>match fl with
 | .nx X2=>Wp (J0 n t b X2) G2 P
 | .ct X2=>Wp (J0 n t b X2) G2 P
 | .bk X2=>P (.nx X2) G2
 | .rt d=>P (.rt d) G2
 else P (.nx U) G1:=by
 rw[J0];simp only[m6,i8,j7];constructor
 · rintro⟨k,G1,e,q⟩;refine⟨k,G1,e,?_⟩;rcases k with _|_
   ·exact q
   ·
     simp only[if_true]at q ⊢;obtain⟨fl,G2,e2,q⟩:=q;refine⟨fl,G2,e2,?_⟩
     cases fl<;>first
      |exact q
      |exact j7.mp q
 · rintro⟨k,G1,e,q⟩;refine⟨k,G1,e,?_⟩;rcases k with _|_
   ·exact q
   ·
     simp only[if_true]at q ⊢;obtain⟨fl,G2,e2,q⟩:=q;refine⟨fl,G2,e2,?_⟩
     cases fl<;>first
      |exact q
      |exact j7.mpr q
theorem dC(h:Wp (J0 n t b U) G P):Wp (V1 t b U) G P:=by obtain⟨a,G',e,q⟩:=h;refine⟨a,G',?_,q⟩;have hx:∃n,(J0 n t b U G).isSome=true:=⟨n,by rw[e];rfl⟩;unfold V1;rw[dif_pos hx];have hs:=XX hx;obtain⟨r,hr⟩:=yI.mp hs;rw[hr];have e1:=dF (Nat.le_max_left n (xS hx)) e;have e2:=dF (Nat.le_max_right n (xS hx)) hr;rw[e1]at e2;exact e2.symm
end
theorem Gr.set(h:Gr G0 G)(hp:G0.length<=p):Gr G0 (G.set p o):=⟨by rw[List.length_set];exact h.1,λi hi=>by rw[jm (by lia)];exact h.2 i hi⟩
theorem lt_of_get{G:DH}(e:G[p]? =some o):p<G.length:=by
 by_cases hi:p<G.length
 ·exact hi
 ·rw[jC (by lia)]at e;exact u5 e
def VB(b:Nat):Nat->D->Prop
 |0,_=>False
 |n+1,d=>(∃i,d= .int i)\/(∃k,d= .bl k)\/(∃z,d= .str z/\z.length<=b)\/(∃l,d= .tup [.str M3,.tup l]/\∀x∈l,VB b n x)\/(∃l,d= .tup [.str Z4,.tup l]/\∀x∈l,∃nm v,x= .tup [.str nm,v]/\nm.length<=1000000/\VB b n v)
theorem VB.le{b c:Nat}(hb:b<=c):∀ {n m:Nat} {d:D},n<=m->VB b n d->VB c m d
 |0,_,_,_,h=>h.elim
 |n+1,0,_,h,_=>by lia
 |n+1,m+1,d,h,a=>by
   rcases a with a|a|⟨z,e,hz⟩|⟨l,e,hl⟩|⟨l,e,hl⟩
   ·exact .inl a
   ·exact .inr (.inl a)
   ·exact .inr (.inr (.inl ⟨z,e,by lia⟩))
   ·exact .inr (.inr (.inr (.inl ⟨l,e,λx hx=>VB.le hb (by lia) (hl x hx)⟩)))
   ·exact .inr (.inr (.inr (.inr ⟨l,e,λx hx=>let ⟨nm,v,q1,q2,q3⟩:=hl x hx;⟨nm,v,q1,q2,VB.le hb (by lia) q3⟩⟩)))
section
variable{bd n:Nat}
theorem VB.i{i:Int}:VB bd (n+1) (.int i):=.inl ⟨i,rfl⟩
theorem VB.b{i:Bool}:VB bd (n+1) (.bl i):=.inr (.inl ⟨i,rfl⟩)
theorem VB.s{z:Str}(h:z.length<=bd):VB bd (n+1) (.str z):=.inr (.inr (.inl ⟨z,rfl,h⟩))
theorem VB.l{l:List D}(h:∀x∈l,VB bd n x):VB bd (n+1) (.tup [.str M3,.tup l]):=.inr (.inr (.inr (.inl ⟨l,rfl,h⟩)))
theorem VB.r{l:List D}(h:∀x∈l,∃nm v,x= .tup [.str nm,v]/\nm.length<=1000000/\VB bd n v):VB bd (n+1) (.tup [.str Z4,.tup l]):=.inr (.inr (.inr (.inr ⟨l,rfl,h⟩)))
end
theorem VB.pos{b n:Nat}{d:D}(h:VB b n d):0<n:=by
 cases n with
 |zero=>exact h.elim
 |succ n=>lia
theorem VB.there{b n:Nat}{d:D}{G:DH}(h:VB b n d):lC G d:=by
 cases n with
 |zero=>exact h.elim
 |succ n=>rcases h with⟨i,rfl⟩|⟨k,rfl⟩|⟨z,rfl,hz⟩|⟨l,rfl,hl⟩|⟨l,rfl,hl⟩<;>exact⟨_,rfl⟩
theorem DY(l:List D)(n:Nat):DL.cutD l none (some (n:Int))=l.take n:=by
 unfold DL.cutD;rw[HT.sIx_none,HT.sIx_nat,List.drop_zero,Nat.sub_zero];by_cases h:n<=l.length
 ·rw[Nat.min_eq_left h]
 ·rw[Nat.min_eq_right (by lia),xb (zk _),xb (by lia)]
section
variable{G:DH}{Q:DPP}
end
def t4{α β:Type}(R:α->β->Prop):List α->List β->Prop
 |[], []=>True
 |a::r,b::s=>R a b/\t4 R r s
 |_,_=>False
section
variable{α β:Type}{R S:α->β->Prop}
theorem t4.len:∀ {a:List α} {b:List β},t4 R a b->a.length=b.length
 |[], [],_=>rfl
 |_::_,_::_,h=>by simp[t4.len h.2]
 |[],_::_,h=>h.elim
 |_::_, [],h=>h.elim
theorem t4.mono(k:∀a b,R a b->S a b):∀ {a:List α} {b:List β},t4 R a b->t4 S a b
 |[], [],_=>trivial
 |_::_,_::_,h=>⟨k _ _ h.1,t4.mono k h.2⟩
 |[],_::_,h=>h.elim
 |_::_, [],h=>h.elim
theorem t4.app:∀ {a c:List α} {b d:List β},t4 R a b->t4 R c d->t4 R (a++c) (b++d)
 |[],_, [],_,_,h=>h
 |_::_,_,_::_,_,h,k=>⟨h.1,t4.app h.2 k⟩
 |[],_,_::_,_,h,_=>h.elim
 |_::_,_, [],_,h,_=>h.elim
end
def We{α:Type}(x:Str)(E:DH->Prop)(m:M α)(G:DH)(Q:α->DH->Prop):Prop:=Wp m G Q\/∃G',m G=some (.error x,G')/\E G'
section
variable{α β:Type}{x:Str}{E:DH->Prop}{m:M α}{G:DH}{Q Q':α->DH->Prop}{f:α->M β}{R:β->DH->Prop}{U:DSt}{S T g:Fs}{P:Fl->DH->Prop}{a:Fe}{t:DSt->M Bool}{fs:DSt->M (List D)}{F:List D->M D}{n i:Nat}{K:DPP}
theorem We.w(w:Wp m G Q):We x E m G Q:=.inl w
theorem We.mono(w:We x E m G Q)(k:∀a G',Q a G'->Q' a G'):We x E m G Q':=w.elim (λw=>.inl (w.mono k)) .inr
theorem We.emono{E':DH->Prop}(w:We x E m G Q)(k:∀G',E G'->E' G'):We x E' m G Q:=w.elim .inl fun⟨G',e,h⟩=>.inr ⟨G',e,k G' h⟩
theorem O3(w:We x E m G λa G1=>We x E (f a) G1 R):We x E (m >>= f) G R:=by
 rcases w with⟨a,G1,e,w|⟨G2,e2,h⟩⟩|⟨G1,e,h⟩
 ·exact .inl (m6.mpr ⟨a,G1,e,w⟩)
 ·exact .inr ⟨G2,by rw[M.bind_eq,e];exact e2,h⟩
 ·exact .inr ⟨G1,by rw[M.bind_eq,e],h⟩
theorem J4 (w:We x E (S U) G λfl G1=>match fl with
 | .nx X2=>We x E (g X2) G1 P
 |r=>P r G1):We x E (seqS S g U) G P:=by
 delta seqS;refine O3 (w.mono λfl G1 q=>?_)
 cases fl<;>first
  |exact q
  |exact .inl (j7.mpr q)
theorem E3(w:Wp (t U) G λk G1=>(k=true->We x E (S U) G1 P)/\(k=false->We x E (T U) G1 P)):We x E (ifS t S T U) G P:=by
 unfold ifS;refine O3 (.inl (w.mono λk G1 h=>?_))
 cases k with
 |true=>exact h.1 rfl
 |false=>exact h.2 rfl
theorem D9(w:We x E (a U) G λd G1=>P (.rt d) G1):We x E (retS a U) G P:=by unfold retS;exact O3 (w.mono λd G1 q=>.inl (j7.mpr q))
theorem W2(w:We x E (a U) G λd G1=>P (.nx (U.set i (some d))) G1):We x E (J1 a (E1 i) U) G P:=by unfold J1;exact O3 (w.mono λd G1 q=>O3 (.inl (R8.mpr (.inl (j7.mpr q)))))
theorem qA(w:Wp (fs U) G λ_ G1=>E G1):We x E (W8 x fs U) G P:=by obtain⟨ds,G1,e,h⟩:=w;refine .inr ⟨G1,?_,h⟩;have r:W8 x fs U= (fs U >>= λ_=>(show M Fl from λG=>some (.error x,G))):=rfl;rw[r,M.bind_eq,e]
theorem X8{m:Nat}{ds:List D}{f:Fs}(w:We x E (f (ds.map some++yo (m-ds.length) none)) G (PB K)):We x E (v6 m f ds) G K:=by
 delta v6;refine O3 (w.mono λfl G1 q=>?_)
 cases fl with
 |nx _=>exact .inl (j7.mpr q)
 |rt _=>exact .inl (j7.mpr q)
 |bk _=>exact q.elim
 |ct _=>exact q.elim
theorem bH{ds:List D}(h:ds.length=n)(w:We x E (F ds) G K):We x E (fnZ n F ds) G K:=by unfold fnZ;rw[if_pos h];exact w
theorem U9(w:Wp (fs U) G λds G1=>ds.length=n/\We x E (F ds) G1 K):We x E (L0 (fnZ n F) fs U) G K:=by unfold L0;exact O3 (.inl (w.mono λds G1 q=>bH q.1 q.2))
theorem eQ{tab:Str->Option (List D->M D)}{y:Str}(h:U[i]? =some (some (.fn y)))(ht:tab y=some F)(w:Wp (fs U) G λds G1=>ds.length=n/\We x E (F ds) G1 K):We x E (d6 i n tab fs U) G K:=by
 have e:d6 i n tab fs U= (fs U >>= fnZ n F):=by delta d6;rw[h];show (match tab y with|some F=>fs U >>= fnZ n F|none=>M.stuck:M D)=_;rw[ht]
 rw[e];exact O3 (.inl (w.mono λds G1 q=>bH q.1 q.2))
theorem uC{L:List D->DH->Prop}(w:We x E (a U) G λd G1=>We x E (fs U) G1 λds G2=>L (d::ds) G2):We x E (y0 a fs U) G L:=by unfold y0;exact O3 (w.mono λd G1 q=>O3 (q.mono λds G2 q=>.inl (j7.mpr q)))
theorem FY(w:We x E (fs U) G λds G1=>ds.length<=ze/\K (.tup ds) G1):We x E (S3 fs U) G K:=by unfold S3;refine O3 (w.mono λds G1 q=>?_);rw[if_pos q.1];exact .inl (j7.mpr q.2)
theorem GR{n:Nat}(w:We x E (fs U) G λds G1=>ds.length=n/\We x E (F ds) G1 K):We x E (L0 (fnZ n F) fs U) G K:=by unfold L0;exact O3 (w.mono λds G1 q=>bH q.1 q.2)
theorem UW{b:Fs} (w:Wp (t U) G λk G1=>if k=true then We x E (b U) G1 λfl G2=>(match fl with
 | .nx X2=>We x E (J0 n t b X2) G2 P
 | .ct X2=>We x E (J0 n t b X2) G2 P
 | .bk X2=>P (.nx X2) G2
 | .rt d=>P (.rt d) G2)
 else P (.nx U) G1):We x E (J0 (n+1) t b U) G P:=by
 rw[J0];refine O3 (.inl (w.mono λk G1 q=>?_));rcases k with _|_
 ·exact .inl (j7.mpr q)
 · rw[if_pos rfl]at q ⊢;refine O3 (q.mono λfl G2 q=>?_)
   cases fl<;>first
    |exact q
    |exact .inl (j7.mpr q)
theorem Ff{b:Fs}(h:We x E (J0 n t b U) G P):We x E (V1 t b U) G P:=by
 rcases h with h|⟨G',e,q⟩
 ·exact .inl (dC h)
 ·refine .inr ⟨G',?_,q⟩;have hx:∃n,(J0 n t b U G).isSome=true:=⟨n,by rw[e];rfl⟩;unfold V1;rw[dif_pos hx];have hs:=XX hx;obtain⟨r,hr⟩:=yI.mp hs;rw[hr];have e1:=dF (Nat.le_max_left n (xS hx)) e;have e2:=dF (Nat.le_max_right n (xS hx)) hr;rw[e1]at e2;exact e2.symm
end
abbrev tl(z:Str):List Nat:=z.cps.toList
abbrev ofL(l:List Nat):Str:=⟨l.toArray⟩
theorem EB{g:Fg}{b a:Fe}{t:DSt->M Bool}{U:DSt}{l:List D}{G G1:DH}{caps:List (Option Nat)}{Q:DPP}(e:b U G=some (.ok (.tup l),G1))(h:l.length<=ze)(w:Wp (M9 g t a (λ_=>true) l (Z2 caps U)) G1 λys G2=>Q (.ref G2.length) (G2++[.lst ys])):Wp (T5 (itW b) caps g t a U) G Q:=
 wp_comp.mpr (HA.mpr (b8 e (rQ.mpr ⟨h,w⟩)))
theorem tH{n:Nat}{F:List D->M D}{ds:List D}{G:DH}{Q:DPP}:Wp (fnZ n F ds) G Q↔ds.length=n/\Wp (F ds) G Q:=by
 unfold fnZ;split
 ·rename_i h;exact⟨λw=>⟨h,w⟩,λw=>w.2⟩
 ·rename_i h;exact⟨λw=>(Z8.mp w).elim,λw=>absurd w.1 h⟩
theorem c6{n:Nat}{F:List D->M D}{fs:DSt->M (List D)}{as:List D}{U:DSt}{G G1:DH}{Q:DPP}(e:fs U G=some (.ok as,G1))(h:as.length=n)(w:Wp (F as) G1 Q):Wp (L0 (fnZ n F) fs U) G Q:=pF.mpr (b8 e (tH.mpr ⟨h,w⟩))
theorem v4(z:Str):(tl z).length=z.length:=rfl
theorem DN(l:List Nat):tl (ofL l)=l:=rfl
theorem T8{a b:Str}(h:tl a=tl b):a=b:=by obtain⟨⟨a⟩⟩:=a;obtain⟨⟨b⟩⟩:=b;have h:a=b:=h;rw[h]
theorem cO(a b:List Nat):ofL a++ofL b=ofL (a++b):=T8 (show tl (ofL a++ofL b)=a++b from jy)
theorem BE{z p:Str}{pre d7:List Nat}(h:tl z=pre++d7):E2 z p (pre.length:Int)=decide (tl p <+:d7):=by
 have hl:z.length=pre.length+d7.length:=by rw[<-v4,h,za]
 have fi:fromIndex z.length (pre.length:Int)=pre.length:=by unfold fromIndex;rw[if_neg (by lia)];lia
 have e:yZ z p pre.length=decide (tl p=d7.take p.length):=by rw[Xs,decide_eq_true_iff];unfold yZ;rw[beq_iff_eq,<-Array.toList_inj,Ym,List.extract_eq_drop_take];show List.take (pre.length+p.length-pre.length) (List.drop pre.length (tl z))=tl p↔_;rw[h,List.drop_left,xQ];exact eq_comm
 unfold E2;rw[fi,e,Xs,Zh,decide_eq_true_iff,decide_eq_true_iff,decide_eq_true_iff,List.prefix_iff_eq_take];refine⟨λk=>k.2,λk=>⟨?_,k⟩⟩;have:=congrArg zW k;rw[zN]at this;have q:(tl p).length=p.length:=rfl;lia
theorem S5{z p:Str}{pre d7 r:List Nat}(h:tl z=pre++d7)(k:d7=tl p++r):E2 z p (pre.length:Int)=true:=by rw[BE h,decide_eq_true_iff,k];exact List.prefix_append ..
def hdN(c:Nat)(d7:List Nat):Prop:=∀d r,d7=d::r->d≠c
theorem V6{z p:Str}{pre d7:List Nat}{c:Nat}{ps:List Nat}(h:tl z=pre++d7)(hp:tl p=c::ps)(k:hdN c d7):E2 z p (pre.length:Int)=false:=by rw[BE h,decide_eq_false_iff_not,hp];rintro⟨t,e⟩;exact k c (ps++t) e.symm rfl
theorem nH{f g:Nat->Option Nat}:∀ {l:List Nat},(∀k∈l,f k=g k)->l.filterMap f=l.filterMap g
 |[],_=>rfl
 |a::r,h=>by rw[yt,yt,h a (zh ..),nH λk hk=>h k (zo _ hk)]
theorem mZ(l:List Nat):(jJ l.length).filterMap (λk=>l[k]?)=l:=by
 have e:(jJ l.length).filterMap (λk=>l[k]?)= (jJ l.length).map λk=>l.getD k 0:=by rw[<-List.filterMap_eq_map];refine nH λk hk=>?_;have:=xw.mp hk;simp[this]
 rw[e];apply List.ext_getElem
 ·simp
 ·intro i hi hj;simp[hj]
theorem DF(a b n:Nat)(h:a+b<=n):zL (some (a:Int)) (some ((a:Int)+b)) 1 n= (jJ b).map λk=>a+k:=by
 unfold zL Xm;have e1:max 0 (min (a:Int) n)=a:=by lia
 have e2:max 0 (min ((a:Int)+b) n)= (a:Int)+b:=by lia
 simp only[show (1:Int)>0 by decide,if_true,show ¬(a:Int)<0 by lia,show ¬(a:Int)+b<0 by lia,if_false,e1,e2];have e3:(if (a:Int)<(a:Int)+b then ((a:Int)+b-a+1-1) / 1 else 0).toNat=b:=by split<;>lia
 rw[e3];refine Zn λk _=>?_;lia
theorem U6{z:Str}{a b c:List Nat}(h:tl z=a++b++c):yA z (some (a.length:Int)) (some ((a.length:Int)+b.length))=ofL b:=by
 have hl:z.length=a.length+b.length+c.length:=by rw[<-v4,h,za,za]
 unfold yA;rw[DF _ _ _ (by lia)];split
 ·rename_i k;rw[Zh,beq_iff_eq,beq_iff_eq,zn,jE]at k;have ha:a= []:=jn (by lia);have hc:c= []:=jn (by lia);subst ha hc;exact T8 (by rw[h];simp)
 ·refine T8 ?_;show XU (λi=>z.cps[i]?) (List.map (λk=>a.length+k) (jJ b.length))=b;rw[List.filterMap_map];refine Eq.trans (nH λk hk=>?_) (mZ b);have hk:=xw.mp hk;show z.cps[a.length+k]? =b[k]?;rw[<-yh];show (tl z)[a.length+k]? =b[k]?;rw[h,zu,yb (by lia),xQ,zI hk]
theorem uE{a c:Nat}{G:DH}{Q:DPP}:Wp (leD (.str ⟨#[a]⟩) (.str ⟨#[c]⟩)) G Q↔Q (.bl (decide (a<=c))) G:=by
 rw[MZ];have:(!decide ((⟨#[c]⟩:Str).cps.toList<(⟨#[a]⟩:Str).cps.toList))=decide (a<=c):=by
  show (!decide ([c] < [a]))=_;by_cases h:a<=c
  · have:¬c<a:=by lia
    simp[h,xl,this]
  · have:c<a:=by lia
    simp[h,xl,this]
 rw[this]
def dg(m:Nat):List Nat:=(YZ 10 m).map Char.toNat
theorem Q7(m:Nat):NumText.AllDigits (dg m):=by intro c hc;obtain⟨ch,hch,e⟩:=zM.mp hc;rw[<-e];exact digit_range (Nat.isDigit_of_mem_toDigits (by decide) (by decide) hch)
theorem AE{m:Nat}(h:¬m<10):dg m=dg (m / 10)++dg (m % 10):=by have hm:m % 10<10:=Jo m (by decide);have t:YZ 10 (m / 10)++YZ 10 (m % 10)=YZ 10 (10*(m / 10)+m % 10):=Nat.toDigits_append_toDigits (by decide) (by lia) hm;rw[Nat.div_add_mod]at t;unfold dg;rw[<-t,yd]
theorem U3{m:Nat}(h:m<10):dg m= [48+m]:=by
 unfold dg;rw[Nat.toDigits_of_lt_base h];have:∀d,d<10->(Nat.digitChar d).toNat=48+d:=by decide
 show [(Nat.digitChar m).toNat]=_;rw[this m h]
theorem qB:∀(k m:Nat),m<10 ^ (k+1)->(dg m).length<=k+1
 |0,m,h=>by rw[U3 (by lia)];simp
 |k+1,m,h=>by
   by_cases h':m<10
   ·rw[U3 h'];simp
   ·rw[AE h',za,U3 (Jo m (by decide))];have:=qB k (m / 10) (by rw[JL]at h;lia);simp;lia
theorem QB(m:Nat)(h:0<m):∃c r,dg m=c::r/\49<=c:=by
 induction m using Nat.strongRecOn with
 |_ m ih=>
   by_cases h':m<10
   ·exact⟨48+m, [],U3 h',by lia⟩
   ·obtain⟨c,r,e,k⟩:=ih (m / 10) (by lia) (by lia);exact⟨c,r++dg (m % 10),by rw[AE h',e];rfl,k⟩
theorem E6(m:Nat):dg m≠ []:=by
 rcases jV m with rfl|h
 ·rw[U3 (by decide)];exact xB _ _
 ·obtain⟨c,r,e,_⟩:=QB m h;rw[e];exact xB _ _
def nmL(i:Int):List Nat:=tl (ym (Zc i))
theorem S9(m:Nat):nmL (m:Int)=dg m:=PySem.W.KIN.signs_num m
theorem F4(m:Nat)(h:0<m):nmL (-(m:Int))=45::dg m:=by obtain⟨k,rfl⟩:∃k,m=k+1:=⟨m-1,by lia⟩;unfold nmL tl;rw[signs_ofString];show (("-" ++ Nat.repr (k+1):String)).toList.map Char.toNat=_;rw[String.toList_append,yd,Nat.toList_repr];rfl
def d5:Nat:=9999999999999999999999999999999999999999
def smI(i:Int):Prop:=i.natAbs<=d5
theorem V4(i:Int):(∃m:Nat,i=m)\/∃m:Nat,0<m/\i= -(m:Int):=by
 rcases Int.lt_or_le i 0 with h|h
 ·exact .inr ⟨i.natAbs,by lia,by lia⟩
 ·exact .inl ⟨i.natAbs,by lia⟩
theorem x9{i:Int}(h:smI i):(nmL i).length<=41:=by
 unfold smI d5 at h;rcases V4 i with⟨m,rfl⟩|⟨m,hm,rfl⟩
 ·rw[S9];have:=qB 39 m (by show m<10000000000000000000000000000000000000000;lia);lia
 ·rw[F4 m hm,zp];have:=qB 39 m (by show m<10000000000000000000000000000000000000000;lia);lia
theorem HF{m:Nat}(h:smI (m:Int)):(dg m).length<=40:=qB 39 m (by unfold smI d5 at h;show m<10000000000000000000000000000000000000000;lia)
theorem SZ{m:Nat}(h:smI (-(m:Int))):(dg m).length<=40:=qB 39 m (by unfold smI d5 at h;show m<10000000000000000000000000000000000000000;lia)
theorem BH{i:Int}(h:smI i):YK (ofL (nmL i))=some i:=by
 have hl:=x9 h;have hl':(ofL (nmL i)).length<=4300:=by rw[<-v4,DN];lia
 rcases V4 i with⟨m,rfl⟩|⟨m,hm,rfl⟩
 ·rw[S9]at hl' ⊢;have e:=PySem.intText_digits (x:=ofL (dg m)) (Q7 m) (E6 m) hl';rw[e];show some ((zr (dg m):Nat):Int)=_;rw[show zr (dg m)=m from Xw m]
 ·rw[F4 m hm]at hl' ⊢;have e:=PySem.intText_neg (x:=ofL (45::dg m)) (cs:=dg m) rfl (Q7 m) (E6 m) hl';rw[e,show zr (dg m)=m from Xw m]
def glL(s:List Nat):List (List Nat)->List Nat
 |[]=> []
 |p::r=>s++p++glL s r
def K7(s:List Nat):List (List Nat)->List Nat
 |[]=> []
 |a::r=>a++glL s r
theorem uZ(sep:Str)(ss:List Str):tl (ZR sep ss)=K7 (tl sep) (ss.map tl):=by
 have go:∀(r:List Str) (Nz:Array Nat),(r.foldl (λNz p=>Nz++sep.cps++p.cps) Nz).toList=Nz.toList++glL (tl sep) (r.map tl):=λr=>by
  induction r with
  |nil=>intro Nz;simp[glL]
  |cons p r ih=>
    intro Nz;rw[Xq,ih,jy,jy,zE,glL,zu,zu,zu]
 rcases ss with _|⟨a,r⟩
 ·rfl
 ·exact go r a.cps
theorem qL:∀L:List (List Nat),(glL [44,32] L).length= (L.map zW).sum+2*L.length
 |[]=>rfl
 |p::r=>by rw[glL,za,za,qL r,zE,Ju,zp];simp;lia
theorem RK:∀L:List (List Nat),(L.map zW).sum+2*L.length<=(K7 [44,32] L).length+2
 |[]=>by simp[K7]
 |a::r=>by rw[K7,za,qL r,zE,Ju,zp];lia
theorem EL:∀ {L:List (List Nat)} {a:List Nat},a∈L->a.length<=(L.map zW).sum
 |b::r,a,h=>by
   rw[zE,Ju];rcases zl.mp h with rfl|h
   ·lia
   ·have:=EL h;lia
theorem CK{L:List (List Nat)}{a:List Nat}(h:a∈L):a.length<=(K7 [44,32] L).length:=by have h1:=EL h;have h2:=RK L;have h3:0<L.length:=List.length_pos_of_mem h;lia
abbrev cT:List Nat:= [116,114,117,101]
abbrev cF:List Nat:= [102,97,108,115,101]
def shQ(f:D->List Nat):D->List Nat
 | .tup [.str nm,v]=>tl nm++[58,32]++f v
 |_=> []
def shN:Nat->D->List Nat
 |0,_=> []
 |_+1,.int i=>nmL i
 |_+1,.bl k=>if k then cT else cF
 |_+1,.str z=>34::(tl z++[34])
 |n+1,.tup [.str w,.tup l]=>if w=M3 then 91::(K7 [44,32] (l.map (shN n))++[93])else 123::(K7 [44,32] (l.map (shQ (shN n)))++[125])
 |_+1,_=> []
def prD(p:Str×D):D:=.tup [.str p.1,p.2]
def TxL(z:Str):Prop:=(∀c∈tl z,97<=c/\c<=122)/\z.length<=900000
def LtS(a b:Str):Prop:=a.cps.toList<b.cps.toList
inductive GB(b:Nat):Nat->D->Prop
 |i {n:Nat} {i:Int} (h:i.natAbs<=b):GB b (n+1) (.int i)
 |b {n:Nat} {k:Bool}:GB b (n+1) (.bl k)
 |s {n:Nat} {z:Str} (h:TxL z):GB b (n+1) (.str z)
 |l {n:Nat} {l:List D} (hl:l.length<=400000) (h:∀x∈l,GB b n x):GB b (n+1) (.tup [.str M3,.tup l])
 |r {n:Nat} {ps:List (Str×D)} (hl:ps.length<=400000) (hp:(ps.map (·.1)).Pairwise LtS) (hn:∀p∈ps,TxL p.1/\tl p.1≠ []) (h:∀p∈ps,GB b n p.2):GB b (n+1) (.tup [.str Z4,.tup (ps.map prD)])
abbrev GV:Nat->D->Prop:=GB d5
theorem F3{n:Nat}{l:List D}:shN (n+1) (.tup [.str M3,.tup l])=91::(K7 [44,32] (l.map (shN n))++[93]):=by show (if M3=M3 then _ else _)=_;rw[if_pos rfl]
theorem A4{n:Nat}{l:List D}:shN (n+1) (.tup [.str Z4,.tup l])=123::(K7 [44,32] (l.map (shQ (shN n)))++[125]):=by show (if Z4=M3 then _ else _)=_;rw[if_neg (by decide)]
def One(U:DSt):Prop:=∃u,U= [u]
theorem dJ(f:D->List Nat):∀l:List D,c5 (l.map λd=>.str (ofL (f d)))=some (l.map λd=>ofL (f d))
 |[]=>rfl
 |d::r=>by show (c5 (r.map λd=>.str (ofL (f d)))).map (ofL (f d) :: ·)=_;rw[dJ f r];rfl
theorem mJ{o c:Str}{f:D->List Nat}{l:List D}{r:Nat}{G:DH}{Q:DPP}{a:Nat}{b:Nat}(ho:tl o= [a])(hc:tl c= [b])(e:G[r]? =some (.lst (l.map λd=>.str (ofL (f d)))))(hz:(K7 [44,32] (l.map f)).length<=10000000)
 (q:Q (.str (ofL (a::(K7 [44,32] (l.map f)++[b])))) G):Wp (n9 (.str (", " :Str)) [.ref r]) G λx G1=>Wp (addD (.str o) x) G1 λy G2=>Wp (addD y (.str c)) G2 Q:=by
 have bg:=big;have z1:10000100<ze:=by decide
 have sl:=RK (l.map f);have hs:((l.map λd=>ofL (f d)).map (·.length)).sum= ((l.map f).map zW).sum:=by rw[Zq,Zq];rfl
 refine(Mv e (dJ f l) (by rw[hs,zn];rw[zn]at sl;show _+_*2<=_;lia)).mpr ?_;have ej:tl (ZR (", " :Str) (l.map λd=>ofL (f d)))=K7 [44,32] (l.map f):=by rw[uZ,Zq];rfl
 have l1:(ZR (", " :Str) (l.map λd=>ofL (f d))).length= (K7 [44,32] (l.map f)).length:=by rw[<-v4,ej]
 have lo:o.length=1:=by rw[<-v4,ho];rfl
 have lc:c.length=1:=by rw[<-v4,hc];rfl
 refine(R4 (by lia)).mpr ?_;have e2:o++ZR (", " :Str) (l.map λd=>ofL (f d))=ofL (a::K7 [44,32] (l.map f)):=T8 (by show (o.cps++_).toList=_;rw[jy];show tl o++tl _=_;rw[ho,ej];rfl)
 rw[e2];have l2:(ofL (a::K7 [44,32] (l.map f))).length= (K7 [44,32] (l.map f)).length+1:=rfl;refine(R4 (by lia)).mpr ?_;have e3:ofL (a::K7 [44,32] (l.map f))++c=ofL (a::(K7 [44,32] (l.map f)++[b])):=T8 (by show (_++c.cps).toList=_;rw[jy];show (a::K7 [44,32] (l.map f))++tl c=_;rw[hc];rfl)
 rw[e3];exact q
theorem SX{z:Str}{G:DH}{Q:DPP}(hz:z.length<=900000)(q:Q (.str (ofL (34::(tl z++[34])))) G):Wp (addD (.str ("\"" :Str)) (.str z)) G λy G1=>Wp (addD y (.str ("\"" :Str))) G1 Q:=by
 have bg:=big;have q1:("\"" :Str).length=1:=rfl;refine(R4 (by lia)).mpr ?_;have l2:(("\"" :Str)++z).length=z.length+1:=by rw[<-v4];show ((("\"" :Str).cps++z.cps).toList).length=_;rw[jy,za];show 1+(tl z).length=_;rw[v4];lia
 refine(R4 (by lia)).mpr ?_;have e:("\"" :Str)++z++("\"" :Str)=ofL (34::(tl z++[34])):=T8 (by show ((("\"" :Str).cps++z.cps)++("\"" :Str).cps).toList=_;rw[jy,jy];rfl)
 rw[e];exact q
theorem pY{i:Int}(h:smI i):i.natAbs.log2<1920:=by
 unfold smI d5 at h;rcases jV i.natAbs with z|z
 ·rw[z];decide
 ·exact zK ((Nat.log2_lt (by lia)).mpr (show i.natAbs<2 ^ 140 by lia)) (by decide)
theorem oR{i:Int}{G:DH}{Q:DPP}(h:smI i)(q:Q (.str (ofL (nmL i))) G):Wp (bC [.int i]) G Q:=by have e:bC [.int i]= (if i.natAbs.log2<1920 then pure (.str (ym (Zc i)))else M.stuck:M D):=rfl;rw[e,if_pos (pY h)];exact j7.mpr q
def EI(R:List D->M D)(t:List Nat)(d:D):Prop:=∀ {G:DH} {Q:DPP},(∀G',Ap G G'->Q (.str (ofL t)) G')->Wp (R [d]) G Q
theorem cG:("true" :Str)=ofL cT:=by rfl
theorem OI:("false" :Str)=ofL cF:=by rfl
theorem Kx{R:List D->M D}{nm:Str}{v:D}{t:List Nat}{G:DH}{Q:DPP}(h:EI R t v)(hn:nm.length<=900000)(ht:t.length<=10000000)(q:∀G',Ap G G'->Q (.str (ofL (tl nm++[58,32]++t))) G'):
 Wp (addD (.str nm) (.str (": " :Str))) G λy G1=>Wp (R [v]) G1 λw G2=>Wp (addD y w) G2 Q:=by
 have z1:16000000<ze:=by decide
 have q1:(": " :Str).length=2:=rfl;refine(R4 (by lia)).mpr<| h λG' j=>?_;have e:nm++(": " :Str)=ofL (tl nm++[58,32]):=T8 (by show (nm.cps++(": " :Str).cps).toList=_;rw[jy];rfl)
 rw[e];have l1:(ofL (tl nm++[58,32])).length=nm.length+2:=by rw[<-v4,DN,za,v4];rfl
 have l2:(ofL t).length=t.length:=rfl;refine(R4 (by lia)).mpr ?_;rw[cO];exact q G' j
theorem wW{f:D->List Nat}{p:Str×D}:(f p.2).length<=(shQ f (prD p)).length:=by show _<=(tl p.1++[58,32]++f p.2).length;rw[za];lia
def Two(U:DSt):Prop:=∃u v,U= [u,v]
theorem Lg:∀ {n N:Nat} {d:D},GV n d->n<=N->(shN n d).length<=10000000->EI (V5 N) (shN n d) d:=by
 intro n
 induction n with
 |zero=>intro N d h;cases h
 |succ n ih=>
   intro N d h hN hz G Q q;obtain⟨M,rfl⟩:∃M,N=M+1:=⟨N-1,by lia⟩;have bg:=big
   cases h with
   |@i _ i hi=>exact t7<| w6 (X2:= [some (.int i)]) (G':=G) rfl<| d9.mpr<| J3<| b8 (a:=true) (G':=G) rfl ⟨λ_=>o6<| O6 (as:= [.int i]) rfl<| oR hi<| q G Ap.refl,λz=>nomatch z⟩
   |@b _ k=>
     refine t7<| d9.mpr<| J3<| b8 (a:=true) (G':=G) rfl ⟨λ_=>o6<| bin_w<| O9.mpr<| b8 (a:= [.str ("false" :Str),.str ("true" :Str)]) (G':=G) rfl ⟨sz,?_⟩,λz=>nomatch z⟩;rcases k with _|_
     ·exact b8 (a:=.int 0) rfl<| (N6 j8).mpr ⟨.str ("false" :Str),rfl,by rw[OI];exact q _ Ap.one⟩
     ·exact b8 (a:=.int 1) rfl<| (N6 j8).mpr ⟨.str ("true" :Str),rfl,by rw[cG];exact q _ Ap.one⟩
   |@s _ z hs=>
     exact t7<| w6 (X2:= [some (.str z)]) (G':=G) rfl<| w6 (X2:= [some (.str z)]) (G':=G) rfl<| d9.mpr<| J3<| b8 (a:=true) (G':=G) rfl ⟨λ_=>o6<| bin_w<| bin_w<| b8 (a:=.str ("\"" :Str)) (G':=G) rfl<| b8 (a:=.str z) (G':=G) rfl<| (SX hs.2 (q G Ap.refl)).mono λy G1 k=>b8 rfl k,λz=>nomatch z⟩
   |@l _ l hl hx=>
     rw[F3]at hz q;simp only[zp,za,ye]at hz;refine t7<| w6 (X2:= [some (.tup [.str M3,.tup l])]) (G':=G) rfl<| w6 (X2:= [some (.tup [.str M3,.tup l])]) (G':=G) rfl<| w6 (X2:= [some (.tup [.str M3,.tup l])]) (G':=G) rfl<| d9.mpr<| J3<| b8 (a:=true) (G':=G) rfl ⟨λ_=>?_,λz=>nomatch z⟩;refine o6<| bin_w<| bin_w<| b8 (a:=.str ("[" :Str)) (G':=G) rfl<| UA.mpr<| b8 (a:=.str (", " :Str)) (G':=G) rfl<| eI.mpr<| j9<| EB (l:=l) (G1:=G) rfl (by lia)<| (VA (Ap G) One (λd=>.str (ofL (shN n d))) (λ_ _=>rfl) _ _ G ⟨_,rfl⟩ Ap.refl ?_).mono ?_
     ·rintro x hxl _ G1 ⟨u,rfl⟩ j;have:=CK (Zm (f:=shN n) hxl);exact aH ⟨_,rfl⟩ (o4 (as:= [x]) rfl rfl<| ih (hx x hxl) (by lia) (by lia) λG2 j2=>⟨j.trans j2,rfl⟩)
     ·rintro _ G1 ⟨j,rfl⟩;exact m8.mpr<| (mJ (o:=("[" :Str)) (c:=("]" :Str)) (a:=91) (b:=93) rfl rfl j8 (by lia) (q _ (j.trans Ap.one))).mono λx G2 k=>k.mono λy G3 k=>b8 rfl k
   |@r _ ps hl hp hn hx=>
     rw[A4]at hz q;simp only[zp,za,ye]at hz;refine t7<| w6 (X2:= [some (.tup [.str Z4,.tup (ps.map prD)])]) (G':=G) rfl<| w6 (X2:= [some (.tup [.str Z4,.tup (ps.map prD)])]) (G':=G) rfl<| w6 (X2:= [some (.tup [.str Z4,.tup (ps.map prD)])]) (G':=G) rfl<| w6 (X2:= [some (.tup [.str Z4,.tup (ps.map prD)])]) (G':=G) rfl ?_;refine o6<| bin_w<| bin_w<| b8 (a:=.str ("{" :Str)) (G':=G) rfl<| UA.mpr<| b8 (a:=.str (", " :Str)) (G':=G) rfl<| eI.mpr<| j9<| EB (l:=ps.map prD) (G1:=G) rfl (by rw[zn];lia)<| (VA (Ap G) Two (λd=>.str (ofL (shQ (shN n) d))) (λ_ _=>rfl) _ _ G ⟨_,_,rfl⟩ Ap.refl ?_).mono ?_
     ·rintro x hxl _ G1 ⟨u,v,rfl⟩ j;have h1:=CK (Zm (f:=shQ (shN n)) hxl);obtain⟨p,hp,rfl⟩:=zM.mp hxl;have h2:=wW (f:=shN n) (p:=p);exact b8 (a:= [some (.str p.1),some p.2]) (G':=G1) rfl ⟨rfl,⟨_,_,rfl⟩,b8 (a:=true) (G':=G1) rfl ⟨rfl,rfl,bin_w<| bin_w<| b8 (a:=.str p.1) (G':=G1) rfl<| b8 (a:=.str (": " :Str)) (G':=G1) rfl<| (Kx (ih (hx p hp) (by lia) (by lia)) (hn p hp).1.2 (by lia) λG2 j2=>⟨j.trans j2,rfl⟩).mono λy G2 k=>o4 (as:= [p.2]) rfl rfl k⟩⟩
     ·rintro _ G1 ⟨j,rfl⟩;exact m8.mpr<| (mJ (o:=("{" :Str)) (c:=("}" :Str)) (a:=123) (b:=125) rfl rfl j8 (by lia) (q _ (j.trans Ap.one))).mono λx G2 k=>k.mono λy G3 k=>b8 rfl k
section
variable{a b:Fe}{t:DSt->M Bool}{f g:Fs}{U:DSt}{G G1:DH}{Q:DPP}{P:Fl->DH->Prop}{B:Bool->DH->Prop}
theorem CI(w:Wp (a U) G λx G1=>x= .bl true/\Wp (b U) G1 Q):Wp (bB a b U) G Q:=AY.mpr (w.mono λx G1 q=>by obtain⟨rfl,q⟩:=q;exact Z7.mpr (by rw[if_pos rfl];exact q))
theorem lF(w:Wp (t U) G λk G1=>k=true/\Wp (g U) G1 P):Wp (ifS (notT t) f g U) G P:=J3 (sF.mpr (w.mono λk G1 q=>by obtain⟨rfl,q⟩:=q;exact⟨λz=>(by exact cC z),λ_=>q⟩))
theorem V3(w:Wp (a U) G λx G1=>x= .bl true/\B true G1):Wp (truthE a U) G B:=nA.mpr (w.mono λx G1 q=>by obtain⟨rfl,q⟩:=q;exact Z7.mpr q)
theorem B9(w:Wp (a U) G λx G1=>x= .bl false/\B false G1):Wp (truthE a U) G B:=nA.mpr (w.mono λx G1 q=>by obtain⟨rfl,q⟩:=q;exact Z7.mpr q)
end
theorem qm:AD=seqS (J1 i0 i3) (seqS (V1 RT RB) (retS F1)):=rfl
section
variable{T:Str}{G:DH}{Q:DPP}
theorem rD{pre d7:List Nat}{c:Nat}(h:tl T=pre++c::d7)(hz:T.length<=ze)(q:Q (.str ⟨#[c]⟩) G):Wp (ixD (.str T) (.int (pre.length:Int))) G Q:=by
 have e:ixD (.str T) (.int (pre.length:Int))=if T.length<=ze then (do
  let c <-S1 (atI T.cps.toList (pre.length:Int))
  pure (.str ⟨#[c]⟩):M D)else M.stuck:=rfl
 rw[e,if_pos hz];refine m6.mpr<| a8.mpr ⟨c,?_,j7.mpr q⟩;have hl:(tl T).length=pre.length+(c::d7).length:=by rw[h,za]
 show atI (tl T) (pre.length:Int)=some c;unfold atI ixN;simp only[zp]at hl;rw[if_pos (by lia),if_pos (by lia)];simp only[jR,ZI,h];rw[yb (zk _),Nat.sub_self];rfl
def C3(lo hi:Nat)(d7:List Nat):Prop:=∀c r,d7=c::r->¬(lo<=c/\c<=hi)
theorem oM{lo hi:Nat}{a1:Option D}(hz:T.length<=ze):∀(rn pre d7:List Nat) (n:Nat),rn.length<=n->tl T=pre++rn++d7->(∀c∈rn,lo<=c/\c<=hi)->C3 lo hi d7->
 Wp (J0 (n+1) RT RB [some (.str T),a1,some (.str ⟨#[lo]⟩),some (.str ⟨#[hi]⟩),some (.int (pre.length:Int))]) G λfl G'=>G'=G/\fl= .nx [some (.str T),a1,some (.str ⟨#[lo]⟩),some (.str ⟨#[hi]⟩),some (.int ((pre.length:Int)+rn.length))]
 |[],pre,d7,n,hn,h,hr,ho=>by
   rw[zX]at h;have hl:T.length=pre.length+d7.length:=by rw[<-v4,h,za]
   refine X5.mpr ?_;refine(show Wp (RT _) G λk G1=>k=false/\G1=G from ?_).mono ?_
   · refine D6<| m5<| bin_w<| b8 (a:=.int (pre.length:Int)) (G':=G) rfl<| O6 (as:= [.str T]) rfl<| (K4 hz).mpr<| t9.mpr ⟨_,rfl,λk=>?_,λk=>⟨rfl,rfl⟩⟩;have k:=of_decide_eq_true k;rcases d7 with _|⟨c,r⟩
     ·simp at hl;lia
     · have nc:=ho c r rfl;refine m5<| BK.mpr<| b8 (a:=.str ⟨#[lo]⟩) (G':=G) rfl<| bin_w<| b8 (a:=.str T) (G':=G) rfl<| b8 (a:=.int (pre.length:Int)) (G':=G) rfl<| rD h hz<| uE.mpr ⟨_,rfl,?_⟩;by_cases h1:lo<=c
       ·rw[decide_eq_true h1,if_pos rfl];refine b8 (a:=.str ⟨#[hi]⟩) (G':=G) rfl<| uE.mpr ⟨_,rfl,?_,rfl⟩;exact decide_eq_false λh2=>nc ⟨h1,h2⟩
       ·rw[decide_eq_false h1,if_neg zG];exact⟨_,rfl,rfl,rfl⟩
   ·rintro _ _ ⟨rfl,rfl⟩;rw[if_neg zG];exact⟨rfl,by simp⟩
 |c::r,pre,d7,n,hn,h,hr,ho=>by
   obtain⟨m,rfl⟩:∃m,n=m+1:=⟨n-1,by simp at hn;lia⟩;have hc:=hr c (zh ..);have h':tl T=pre++c::(r++d7):=by rw[h,zu];rfl
   have hl:T.length=pre.length+(c::(r++d7)).length:=by rw[<-v4,h',za]
   refine X5.mpr ?_;refine(show Wp (RT _) G λk G1=>k=true/\G1=G from ?_).mono ?_
   · refine D6<| m5<| bin_w<| b8 (a:=.int (pre.length:Int)) (G':=G) rfl<| O6 (as:= [.str T]) rfl<| (K4 hz).mpr<| t9.mpr ⟨_,rfl,λ_=>?_,λk=>?_⟩
     ·refine m5<| BK.mpr<| b8 (a:=.str ⟨#[lo]⟩) (G':=G) rfl<| bin_w<| b8 (a:=.str T) (G':=G) rfl<| b8 (a:=.int (pre.length:Int)) (G':=G) rfl<| rD h' hz<| uE.mpr ⟨_,rfl,?_⟩;rw[decide_eq_true hc.1,if_pos rfl];exact b8 (a:=.str ⟨#[hi]⟩) (G':=G) rfl<| uE.mpr ⟨_,rfl,decide_eq_true hc.2,rfl⟩
     ·have k:=of_decide_eq_false k;simp at hl;lia
   ·rintro _ G1 ⟨rfl,eG⟩;rw[if_pos rfl,eG];clear eG;refine b8 (a:=.nx [some (.str T),a1,some (.str ⟨#[lo]⟩),some (.str ⟨#[hi]⟩),some (.int ((pre.length:Int)+1))]) rfl ?_;have ih:=oM (a1:=a1) hz r (pre++[c]) d7 m (by simp at hn;lia) (by rw[h];simp) (λc hc=>hr c (zo _ hc)) ho;rw[za]at ih;refine(show Wp (J0 (m+1) RT RB [some (.str T),a1,some (.str ⟨#[lo]⟩),some (.str ⟨#[hi]⟩),some (.int ((pre.length:Int)+1))]) G _ from ih).mono ?_;rintro _ _ ⟨rfl,rfl⟩;refine⟨rfl,?_⟩;rw[zp];congr 6;simp;lia
theorem a9{lo hi:Nat}{pre rn d7:List Nat}{at':Int}(hz:T.length<=ze)(ha:at'=pre.length)(h:tl T=pre++rn++d7)(hr:∀c∈rn,lo<=c/\c<=hi)(ho:C3 lo hi d7)(q:Q (.int ((pre.length:Int)+rn.length)) G):
 Wp (W7 [.str T,.int at',.str ⟨#[lo]⟩,.str ⟨#[hi]⟩]) G Q:=by
 subst ha;refine t7 (show Wp (AD [some (.str T),some (.int pre.length),some (.str ⟨#[lo]⟩),some (.str ⟨#[hi]⟩),none]) G _ from ?_);rw[qm];refine w6 (G':=G) rfl<| d9.mpr<| dC (n:=rn.length+1)<| (oM hz rn pre d7 _ (zk _) h hr ho).mono ?_;rintro _ _ ⟨rfl,rfl⟩;exact o6<| b8 rfl<| o7 q
theorem J2{p:Str}{i:Int}{a b c:Fe}{U:DSt}(ha:a U G=some (.ok (.str T),G))(hb:b U G=some (.ok (.str p),G))(hc:c U G=some (.ok (.int i),G))(q:Q (.bl (E2 T p i)) G):Wp (mtE isStrM startsD a (M0 b c) U) G Q:=
 UA.mpr<| b8 ha<| eI.mpr<| u0 hb<| u0 hc<| m8.mpr<| b8 (a:=.bl (E2 T p i)) rfl q
theorem aE{p:Str}{pre d7:List Nat}{at':Int}(ha:at'=pre.length)(hp:p.length<=ze)(h:tl T=pre++(tl p++d7))(q:Q (.int ((pre.length:Int)+p.length)) G):Wp (pA [.str T,.int at',.str p]) G Q:=by subst ha;refine t7<| d9.mpr<| lF<| V3<| J2 (G:=G) rfl rfl rfl ?_;rw[S5 h rfl];exact⟨rfl,rfl,m7.mpr<| o6<| bin_w<| b8 (a:=.int pre.length) (G':=G) rfl<| O6 (as:= [.str p]) rfl<| (K4 hp).mpr<| J6.mpr<| o7 q⟩
end
section
variable{T:Str}{G:DH}{Q:DPP}
theorem OA{n:Nat}{z:Str}:shN (n+1) (.str z)=34::(tl z++[34]):=rfl
theorem KA{n:Nat}{i:Int}:shN (n+1) (.int i)=nmL i:=rfl
theorem OZ{z:Str}{pre post:List Nat}(hz:T.length<=ze)(ht:TxL z)(h:tl T=pre++(34::(tl z++[34]))++post)(q:Q (.tup [.str z,.int ((pre.length:Int)+(z.length+2:Nat))]) G):Wp (F_text_at [.str T,.int pre.length]) G Q:=by
 have h1:tl T= (pre++[34])++tl z++([34]++post):=by rw[h];simp
 have e1:((pre++[34]).length:Int)= (pre.length:Int)+1:=by simp
 refine t7<| d9.mpr<| v7<| o4 (as:= [.str T,.int ((pre.length:Int)+1),.str ⟨#[97]⟩,.str ⟨#[122]⟩]) rfl rfl<| a9 hz e1.symm h1 ht.1 (λc r e=>by cases e;decide) ?_;rw[e1];have h2:=U6 h1;rw[e1]at h2;refine o6<| T3.mpr<| j9<| N7.mpr<| b8 (a:=.str T) (G':=G) rfl<| b8 (a:=some ((pre.length:Int)+1)) (G':=G) rfl<| b8 (a:=some ((pre.length:Int)+1+(tl z).length)) (G':=G) rfl<| (d8 hz).mpr ?_;rw[h2];have h3:tl T= (pre++[34]++tl z)++(tl ("\"" :Str)++post):=by rw[h1];simp;rfl
 refine j9<| c6 (as:= [.str T,.int ((pre.length:Int)+1+(tl z).length),.str ("\"" :Str)]) rfl rfl<| aE (by simp;lia) (by decide) h3<| m8.mpr ⟨sz,o7 ?_⟩;have e4:(((pre++[34]++tl z).length:Int)+(("\"" :Str).length:Nat))= (pre.length:Int)+(z.length+2:Nat):=by rw[za,za,v4];show (((pre.length+1+z.length:Nat):Int)+(1:Nat))=_;lia
 rw[e4];exact q
theorem OJ{i:Int}(h:smI i)(q:Q (.int i) G):Wp (P2 [.str (ofL (nmL i))]) G Q:=by have e:P2 [.str (ofL (nmL i))]= (match YK (ofL (nmL i)) with|some n=>if (ofL (nmL i)).length<=640 then pure (.int n)else M.stuck|none=>M.stuck:M D):=rfl;have hl:=x9 h;rw[e,BH h];show Wp (if (ofL (nmL i)).length<=640 then pure (.int i)else M.stuck:M D) G Q;rw[if_pos (show (ofL (nmL i)).length<=640 from zw hl (by decide))];exact j7.mpr q
theorem MD{i:Int}{pre post ds:List Nat}{st:Int}(hz:T.length<=ze)(hi:smI i)(h:tl T=pre++nmL i++post)(en:(pre.length:Int)+(nmL i).length=st+ds.length)(hd:ds≠ [])(h40:ds.length<=40)(h0:(E2 T ("0" :Str) st=false)\/(nmL i).length=1)
 (q:Q (.tup [.int i,.int ((pre.length:Int)+(nmL i).length)]) G):
 Wp (seqS (ifS (orT (tBn eqD C0 B0) (tBn gtD (binE y3 C0 B0) (cIn 40))) (W8 "NoValue" (O0 (cSt "no number of one to forty figures where one is due"))) nextS) (seqS (ifS (u4 (truthE (mtE isStrM startsD g0 (M0 (cSt "0") B0))) (tBn gtD (binE y3 C0 i0) A0)) (W8 "NoValue" (O0 (cSt "a nought ahead, or below nought"))) nextS) (retS (N0 (I0 P2 (sliceT g0 (partO i0) (partO C0))) C0))) [some (.str T),some (.int pre.length),some (.int st),some (.int (st+ds.length))]) G (PB Q):=by
 have hp:0<ds.length:=jI.mpr hd;refine d9.mpr<| J3<| S4<| m5<| bin_w<| b8 (a:=.int (st+ds.length)) (G':=G) rfl<| b8 (a:=.int st) (G':=G) rfl<| O8.mpr ⟨_,rfl,λk=>?_,λ_=>m5<| bin_w<| bin_w<| b8 (a:=.int (st+ds.length)) (G':=G) rfl<| b8 (a:=.int st) (G':=G) rfl<| FC.mpr<| b8 (a:=.int 40) (G':=G) rfl<| w9.mpr ⟨_,rfl,λk=>?_,λ_=>m7.mpr ?_⟩⟩
 ·have:=of_decide_eq_true k;lia
 ·have:=of_decide_eq_true k;lia
 · have fin:Wp (retS (N0 (I0 P2 (sliceT g0 (partO i0) (partO C0))) C0) [some (.str T),some (.int pre.length),some (.int st),some (.int (st+ds.length))]) G (PB Q):=by
    refine o6<| T3.mpr<| j9<| J5<| j9<| N7.mpr<| b8 (a:=.str T) (G':=G) rfl<| b8 (a:=some (pre.length:Int)) (G':=G) rfl<| b8 (a:=some (st+ds.length)) (G':=G) rfl<| (d8 hz).mpr<| m8.mpr ?_;rw[<-en,U6 h];refine OJ hi<| b8 (a:= [.int ((pre.length:Int)+(nmL i).length)]) (G':=G) (by rw[en];rfl) ⟨sz,o7 q⟩
   refine d9.mpr<| J3<| D6<| nA.mpr<| J2 (G:=G) (i:=st) (p:=("0" :Str)) rfl rfl rfl<| Z7.mpr ⟨λk=>?_,λ_=>⟨λz=>(nomatch z),λ_=>m7.mpr fin⟩⟩;rcases h0 with h0|h0
   ·rw[h0]at k;cases k
   ·exact m5<| bin_w<| bin_w<| b8 (a:=.int (st+ds.length)) (G':=G) rfl<| b8 (a:=.int pre.length) (G':=G) rfl<| FC.mpr<| b8 (a:=.int 1) (G':=G) rfl<| w9.mpr ⟨_,rfl,λk=>(by have:=of_decide_eq_true k;lia),λ_=>m7.mpr fin⟩
theorem bW{i:Int}{pre post:List Nat}(hz:T.length<=ze)(hi:smI i)(h:tl T=pre++nmL i++post)(ho:C3 48 57 post)(q:Q (.tup [.int i,.int ((pre.length:Int)+(nmL i).length)]) G):Wp (Z9 [.str T,.int pre.length]) G Q:=by
 have hl:=x9 hi;have hs:tl T=pre++(nmL i++post):=by rw[h,zu]
 refine t7 (show Wp (Z5 [some (.str T),some (.int pre.length),none,none]) G _ from ?_);rcases V4 i with⟨m,rfl⟩|⟨m,hm,rfl⟩
 · have en:=S9 m;have hb:E2 T ("-" :Str) (pre.length:Int)=false:=V6 hs (c:=45) (ps:= []) rfl λc r e=>by
    rw[en]at e;rcases k:dg m with _|⟨x,y⟩
    ·exact absurd k (E6 m)
    ·rw[k]at e;have e:=(zi e).1;have:=Q7 m x (by rw[k];exact zh ..);lia
   refine d9.mpr<| v7<| MC.mpr<| B9<| J2 (G:=G) rfl rfl rfl ?_;rw[hb];refine⟨rfl,?_⟩;rw[if_neg zG];refine b8 (a:=.int pre.length) (G':=G) rfl<| d9.mpr<| v7<| o4 (as:= [.str T,.int pre.length,.str ⟨#[48]⟩,.str ⟨#[57]⟩]) rfl rfl<| a9 hz rfl (by rw[h,en]) (Q7 m) ho ?_;refine MD (ds:=dg m) hz hi h (by rw[en]) (E6 m) (HF hi) ?_ q;rcases jV m with rfl|hp
   ·exact .inr (by rw[en,U3 (by decide)];rfl)
   · refine .inl<| V6 hs (c:=48) (ps:= []) rfl λc r e=>?_;obtain⟨x,y,k,h49⟩:=QB m hp;rw[en,k]at e
     cases e;lia
 · have en:=F4 m hm;have hb:E2 T ("-" :Str) (pre.length:Int)=true:=S5 hs (r:=dg m++post) (by rw[en];rfl);refine d9.mpr<| v7<| MC.mpr<| V3<| J2 (G:=G) rfl rfl rfl ?_;rw[hb];refine⟨rfl,?_⟩;rw[if_pos rfl];have h1:tl T= (pre++[45])++dg m++post:=by rw[h,en];simp
   have e1:((pre++[45]).length:Int)= (pre.length:Int)+1:=by simp
   refine b8 (a:=.int ((pre.length:Int)+1)) (G':=G) rfl<| d9.mpr<| v7<| o4 (as:= [.str T,.int ((pre.length:Int)+1),.str ⟨#[48]⟩,.str ⟨#[57]⟩]) rfl rfl<| a9 hz e1.symm h1 (Q7 m) ho ?_;rw[e1];refine MD (ds:=dg m) hz hi h (by rw[en,zp];lia) (E6 m) (SZ hi) (.inl ?_) q;rw[<-e1];refine V6 (d7:=dg m++post) (by rw[h1,zu]) (c:=48) (ps:= []) rfl λc r e=>?_;obtain⟨x,y,k,h49⟩:=QB m hm;rw[k]at e
   cases e;lia
end
theorem Gr.ap{G G':DH}(h:Gr G G'):Ap G G':=by
 refine⟨G'.drop G.length,?_⟩;refine List.ext_getElem? λi=>?_;rcases Yd i G.length with c|c
 ·rw[zI c];exact h.2 i c
 ·rw[yb c,List.getElem?_drop];congr 1;lia
theorem kw{G:DH}{U:DSt}{fs:DSt->M (List D)}{R:Src->DH->Prop}:Wp (GA fs U) G R↔Wp (fs U) G λxs G1=>Wp (match xs with
 |[a,b]=>do
   let s1 <-C2 a
   let s2 <-C2 b
   pure ⟨(s1.items.zip s2.items).map λp=>.tup [p.1,p.2],λG=>s1.ck G&&s2.ck G⟩
 |_=>M.stuck:M Src) G1 R:=by
 unfold GA;simp only[m6]<;>rfl
theorem MY{G:DH}{p q:Nat}{k l:List D}{R:Src->DH->Prop}(ep:G[p]? =some (.lst k))(eq:G[q]? =some (.lst l)):Wp (match [D.ref p,D.ref q] with
 |[a,b]=>do
   let s1 <-C2 a
   let s2 <-C2 b
   pure ⟨(s1.items.zip s2.items).map λp=>.tup [p.1,p.2],λG=>s1.ck G&&s2.ck G⟩
 |_=>M.stuck:M Src) G R↔R ⟨(k.zip l).map λp=>.tup [p.1,p.2],λG=>ckO p (.lst k) G&&ckO q (.lst l) G⟩ G:=by
 show Wp (do
  let s1 <-C2 (.ref p)
  let s2 <-C2 (.ref q)
  pure ⟨(s1.items.zip s2.items).map λp=>.tup [p.1,p.2],λG=>s1.ck G&&s2.ck G⟩:M Src) G R↔_
 simp only[m6];rw[fE (U:= []) ep,fE (U:= []) eq];exact j7
theorem KL{α:Type}{R:α->α->Prop}:∀ {l:List α},l.Pairwise R->∀p∈l.zip (l.drop 1),R p.1 p.2
 |[],_,p,hp=>by cases hp
 |[x],_,p,hp=>by cases hp
 |x::y::r,h,p,hp=>by
   have h':=yB.mp h;rcases zl.mp (show p∈(x,y)::(y::r).zip r from hp)with rfl|hp
   ·exact h'.1 _ (by simp)
   ·exact KL (l:=y::r) h'.2 p hp
theorem NT{G:DH}{p:Nat}{l:List D}{lo hi:Option Int}{Q:DPP}(e:G[p]? =some (.lst l)):Wp (slT (.ref p) lo hi) G Q↔Q (.ref G.length) (G++[.lst (DL.cutD l lo hi)]):=Cf e
def SqD(G:DH)(d:D)(l:List D):Prop:=d= .tup l\/∃p,d= .ref p/\G[p]? =some (.lst l)
def AO(f:D->D->Bool):D->Bool
 | .tup [a,b]=>f a b
 |_=>false
theorem fM{f:D->D->Bool}{d:D}{l:List D}{e:Fe}{G:DH}{Q:DPP}(hd:SqD G d l)(hl:l.length<=900000)
 (h:∀p∈l.zip (l.drop 1),∀G1,Ap G G1->Wp (e [some p.1,some p.2]) G1 λy G2=>y= .bl (f p.1 p.2)/\Ap G1 G2) (q:∀G',Ap G G'->Q (.bl ((l.zip (l.drop 1)).all λp=>f p.1 p.2)) G'):
 Wp (L0 l8 (O0 (T5 (GA (M0 g0 (sliceT g0 (partO A0) (noPart)))) [none,none] (tupG 2 (consG E4 (consG P1 (nilG)))) (Z6) e)) [some d]) G Q:=by
 have bg:=big;have hz:(l.zip (l.drop 1)).length<=ze:=by rw[List.length_zip];lia
 have main:∀(ck:DH->Bool) (G0:DH),Ap G G0->(∀G',Ap G0 G'->ck G'=true)->Wp (M9 (tupG 2 (consG E4 (consG P1 (nilG)))) Z6 e ck ((l.zip (l.drop 1)).map λp=>.tup [p.1,p.2]) [none,none]) G0 λys G2=>Wp (F0 [some d]) (G2++[.lst ys]) λxs G3=>Wp (l8 (.ref G2.length::xs)) G3 Q:=by
  intro ck G0 j0 Pw;refine(VA (Ap G0) (λU=>∃u v,U= [u,v]) (λx=>.bl (AO f x)) Pw _ _ G0 ⟨_,_,rfl⟩ Ap.refl ?_).mono ?_
  ·rintro d hd _ G1 ⟨u,v,rfl⟩ j;obtain⟨p,hp,rfl⟩:=zM.mp hd;exact b8 (a:= [some p.1,some p.2]) rfl ⟨rfl,⟨_,_,rfl⟩,b8 (a:=true) rfl ⟨rfl,rfl,(h p hp G1 (j0.trans j)).mono λy G2 q=>⟨j.trans q.2,q.1⟩⟩⟩
  ·rintro _ G2 ⟨j,rfl⟩;refine m8.mpr ((nK (l:=(l.zip (l.drop 1)).map λp=>.tup [p.1,p.2]) (f:=AO f) j8).mpr ?_);rw[YW];exact q _ ((j0.trans j).trans Ap.one)
 refine J5<| j9<| wp_comp.mpr ?_;rcases hd with rfl|⟨p,rfl,ep⟩
 ·refine b8 (a:=⟨(l.zip (DL.cutD l (some 1) none)).map λp=>.tup [p.1,p.2],λ_=>true&&true⟩) (G':=G) rfl ?_;rw[QK];exact⟨by rw[zn];exact hz,main _ G Ap.refl λ_ _=>rfl⟩
 ·refine kw.mpr<| u0 (x:=.ref p) rfl<| j9<| N7.mpr<| b8 (a:=.ref p) rfl<| FB.mpr<| b8 (a:=.int 1) rfl ⟨1,rfl,km.mpr<| (NT ep).mpr<| m8.mpr<| (MY (o9 ep) j8).mpr ?_⟩;rw[QK];refine⟨by rw[zn];exact hz,main _ _ Ap.one λG' j=>?_⟩;have h1:=j.at (o9 ep);have h2:=j.at (j8 (G:=G) (o:=DO.lst (l.drop 1)));simp only[ckO,h1,h2];simp
theorem GP{d:D}{l:List D}{G:DH}{Q:DPP}(hd:SqD G d l)(hl:l.length<=900000)(h:l.Pairwise λa b=>∀G,ltN 40 G a b=some true)(q:∀G',Ap G G'->Q (.bl true) G'):Wp (OC [d]) G Q:=
 t7<| o6<| fM (f:=λ_ _=>true) hd hl (λp hp G1 j=>bin_w<| b8 rfl<| b8 rfl<| OH.mpr ⟨true,KL h p hp G1,rfl,Ap.refl⟩) λG' a=>by rw[Zb.mpr λ_ _=>rfl];exact o7 (q G' a)
theorem iS{ss:List Str}(h:ss.Pairwise LtS):(ss.map D.str).Pairwise λa b=>∀G,ltN 40 G a b=some true:=
 List.pairwise_map.mpr (h.imp λ{a b} q G=>(show ltN 40 G (.str a) (.str b)=some (decide (a.cps.toList<b.cps.toList))from rfl).trans (by rw[decide_eq_true (show a.cps.toList<b.cps.toList from q)]))
def hd0:D->D
 | .tup (x::_)=>x
 |_=>.non
def PT:DSt->M Bool:=(truthE cBt)
theorem mK(R:List D->M D):HB R=seqS (ifS (truthE (mtE isStrM startsD g0 (M0 B0 i0))) (retS (N0 (S3 F0) (binE addD i0 (I0 lenF B0)))) nextS) (asQ (lstE F0) F5 (V1 PT (PW R))):=rfl
theorem Gk{i n:Nat}{tab:Str->Option (List D->M D)}{fs:DSt->M (List D)}{U:DSt}{x:Str}{F:List D->M D}{G:DH}{Q:DPP}(h:U[i]? =some (some (.fn x)))(ht:tab x=some F)(w:Wp (fs U) G λds G1=>ds.length=n/\Wp (F ds) G1 Q):Wp (d6 i n tab fs U) G Q:=by
 have e:d6 i n tab fs U= (fs U >>= fnZ n F):=by delta d6;rw[h];show (match tab x with|some F=>fs U >>= fnZ n F|none=>M.stuck:M D)=_;rw[ht]
 rw[e];exact m6.mpr (w.mono λds G1 q=>tH.mpr q)
def qC(T:Str)(F:List D->M D)(dp:Int)(t:List Nat)(d:D):Prop:=∀ {pre post:List Nat} {G:DH} {Q:DPP},tl T=pre++t++post->C3 48 57 post->(∀G',Ap G G'->Q (.tup [d,.int ((pre.length:Int)+t.length)]) G')->Wp (F [.str T,.int pre.length,.int dp]) G Q
section
variable{T:Str}{R F:List D->M D}{x:Str}{dp:Int}{f:D->List Nat}{cl:Nat}{G0:DH}{c:Nat}
abbrev pS(T:Str)(at':Int)(cl:Nat)(x:Str)(dp:Int)(c:Nat)(u:Option D):DSt:= [some (.str T),some (.int at'),some (.str ⟨#[cl]⟩),some (.fn x),some (.int dp),sRf c,u]
theorem qJ(hz:T.length<=ze)(ht:L3 "value_at" "pair_at" R (J9 R) x=some F)(h44:cl≠44)(hcl:¬(48<=cl/\cl<=57))(hle:G0.length<=c):∀(xs dn:List D) (y:D) (pre post:List Nat) (u:Option D) (n:Nat) (G:DH),xs.length<n->(∀x∈y::xs,qC T F dp (f x) x)->tl T=pre++(f y++(glL [44,32] (xs.map f)++(cl::post)))->Gr G0 G->G[c]? =some (.lst dn)->dn.length+xs.length<900000->
 Wp (J0 n PT (PW R) (pS T pre.length cl x dp c u)) G λfl G'=>Gr G0 G'/\fl= .rt (.tup [.tup (dn++y::xs),.int ((pre.length:Int)+(f y++glL [44,32] (xs.map f)).length+1)])
 |xs,dn,y,pre,post,u,0,G,hn,hr,h,g,e,hl=>by lia
 |xs,dn,y,pre,post,u,n+1,G,hn,hr,h,g,e,hl=>by
   have bg:=big;refine X5.mpr<| b8 (a:=true) (G':=G) rfl ?_;rw[if_pos rfl];have h1:tl T=pre++f y++(glL [44,32] (xs.map f)++(cl::post)):=by rw[h,zu]
   have ho:C3 48 57 (glL [44,32] (xs.map f)++(cl::post)):=by
    intro a r ea;rcases xs with _|⟨z,t⟩
    ·have ea:cl=a:=(zi ea).1;rw[<-ea];exact hcl
    ·have ea:44=a:=(zi ea).1;rw[<-ea];decide
   refine d9.mpr<| v7<| Gk rfl ht<| b8 (a:= [.str T,.int pre.length,.int dp]) (G':=G) rfl ⟨rfl,hr y (zh ..) h1 ho λG1 j1=>?_⟩;have e1:=j1.at e;refine d9.mpr<| vG.mpr<| UA.mpr<| b8 (a:=.ref c) (G':=G1) rfl<| (rF e1).mpr<| b8 (a:= [y]) (G':=G1) rfl<| (oG e1 (by lia)).mpr ?_;have e2:(G1.set c (.lst (dn++[y])))[c]? =some (.lst (dn++[y])):=zU (lt_of_get e1);have g2:Gr G0 (G1.set c (.lst (dn++[y]))):=(g.trans j1.gr).set hle;generalize G1.set c (.lst (dn++[y]))=G2 at e2 g2;have el:((pre++f y).length:Int)= (pre.length:Int)+(f y).length:=by simp
   rcases xs with _|⟨z,t⟩
   · have hb:E2 T ⟨#[cl]⟩ ((pre.length:Int)+(f y).length)=true:=by
      rw[<-el];exact S5 (d7:=cl::post) (r:=post) (by rw[h1];rfl) rfl
     refine d9.mpr<| J3<| V3<| J2 (G:=G2) rfl rfl rfl ?_;rw[hb];refine⟨rfl,λ_=>o6<| T3.mpr<| j9<| O6 (as:= [.ref c]) rfl<| (W9 e2).mpr<| b8 (a:= [.int ((pre.length:Int)+(f y).length+1)]) (G':=G2) rfl ⟨sz,g2,?_⟩,λz=>nomatch z⟩;simp[glL]
   · have hb:E2 T ⟨#[cl]⟩ ((pre.length:Int)+(f y).length)=false:=by
      rw[<-el];exact V6 h1 (c:=cl) (ps:= []) rfl λa r ea=>by have ea:44=a:=(zi ea).1;rw[<-ea];exact Ne.symm h44
     refine d9.mpr<| J3<| B9<| J2 (G:=G2) rfl rfl rfl ?_;rw[hb];refine⟨rfl,λz=>(nomatch z),λ_=>m7.mpr ?_⟩;have h2:tl T= (pre++f y)++(tl (", " :Str)++(f z++(glL [44,32] (t.map f)++(cl::post)))):=by rw[h1];simp[glL];rfl
     refine v7<| c6 (as:= [.str T,.int ((pre.length:Int)+(f y).length),.str (", " :Str)]) rfl rfl<| aE el.symm (by decide) h2 ?_;have el2:(((pre++f y).length:Int)+((", " :Str).length:Nat))= ((pre++f y++[44,32]).length:Int):=by rw[za (as:=pre++f y)];show _+((2:Nat):Int)=_;simp
     rw[el2];have h3:tl T= (pre++f y++[44,32])++(f z++(glL [44,32] (t.map f)++(cl::post))):=by rw[h2,zu (as:=pre++f y)];rfl
     refine(qJ hz ht h44 hcl hle t (dn++[y]) z _ post _ n G2 (by simp at hn;lia) (λx hx=>hr x (zo _ hx)) h3 g2 e2 (by simp at hl ⊢;lia)).mono ?_;rintro _ G3 ⟨g3,rfl⟩;refine⟨g3,?_⟩;rw[zu];have:((pre++f y++[44,32]).length:Int)+(f z++glL [44,32] (t.map f)).length+1= (pre.length:Int)+(f y++glL [44,32] ((z::t).map f)).length+1:=by simp[glL];lia
     rw[this];rfl
theorem BL(hz:T.length<=ze)(ht:L3 "value_at" "pair_at" R (J9 R) x=some F)(h44:cl≠44)(hcl:¬(48<=cl/\cl<=57)){xs:List D}{pre post:List Nat}{at':Int}{G:DH}{Q:DPP}(ha:at'=pre.length)(hr:∀x∈xs,qC T F dp (f x) x)(hh:∀x∈xs,f x≠ []/\hdN cl (f x))(hl:xs.length<=400000)(h:tl T=pre++(K7 [44,32] (xs.map f)++(cl::post)))
 (q:∀G',Ap G G'->Q (.tup [.tup xs,.int ((pre.length:Int)+(K7 [44,32] (xs.map f)).length+1)]) G'):Wp (Q4 R [.str T,.int at',.str ⟨#[cl]⟩,.fn x,.int dp]) G Q:=by
 subst ha;refine t7 (show Wp (HB R [some (.str T),some (.int pre.length),some (.str ⟨#[cl]⟩),some (.fn x),some (.int dp),none,none]) G _ from ?_);rw[mK];rcases xs with _|⟨y,t⟩
 ·have hb:E2 T ⟨#[cl]⟩ (pre.length:Int)=true:=S5 (d7:=cl::post) (r:=post) h rfl;refine d9.mpr<| J3<| V3<| J2 (G:=G) rfl rfl rfl ?_;rw[hb];exact⟨rfl,λ_=>o6<| b8 (a:=.tup [.tup [],.int ((pre.length:Int)+1)]) (G':=G) rfl<| o7 (by have:=q G Ap.refl;simpa [K7]using this),λz=>nomatch z⟩
 · have hy:=hh y (zh ..);have hb:E2 T ⟨#[cl]⟩ (pre.length:Int)=false:=V6 h (c:=cl) (ps:= []) rfl λa r ea=>by
    rcases k:f y with _|⟨b,s⟩
    ·exact absurd k hy.1
    · have ea:b=a:=by
       have ea:(f y++glL [44,32] (t.map f))++(cl::post)=a::r:=ea;rw[k]at ea;exact(zi ea).1
      rw[<-ea];exact hy.2 b s k
   refine d9.mpr<| J3<| B9<| J2 (G:=G) rfl rfl rfl ?_;rw[hb];refine⟨rfl,λz=>(nomatch z),λ_=>m7.mpr ?_⟩;refine w6 (X2:=pS T pre.length cl x dp G.length none) (G':=G++[.lst []]) rfl<| dC (n:=t.length+1)<| (qJ (G0:=G) (f:=f) hz ht h44 hcl (zk _) t [] y pre post none (t.length+1) _ (by lia) hr (by rw[h];show _=pre++(f y++(_++_));rw[<-zu (f y)];rfl) Gr.app j8 (by simp at hl ⊢;lia)).mono ?_;rintro _ G1 ⟨g1,rfl⟩;exact o7 (q G1 g1.ap)
end
section
variable{T:Str}{R:List D->M D}{dp:Int}
theorem FN:L3 "value_at" "pair_at" R (J9 R) "value_at" =some R:=by unfold L3;rw[if_pos rfl]
theorem uL:L3 "value_at" "pair_at" R (J9 R) "pair_at" =some (J9 R):=by unfold L3;rw[if_neg (by decide),if_pos rfl]
theorem rZ{f:D->List Nat}{p:Str×D}(hz:T.length<=ze)(hn:TxL p.1/\tl p.1≠ [])(h:qC T R dp (f p.2) p.2):qC T (J9 R) dp (shQ f (prD p)) (prD p):=by
 intro pre post G Q ht ho q;have e0:shQ f (prD p)=tl p.1++[58,32]++f p.2:=rfl;rw[e0]at ht q;have h1:tl T=pre++tl p.1++([58,32]++f p.2++post):=by rw[ht];simp
 have np:0<(tl p.1).length:=jI.mpr hn.2;refine t7<| d9.mpr<| v7<| o4 (as:= [.str T,.int pre.length,.str ⟨#[97]⟩,.str ⟨#[122]⟩]) rfl rfl<| a9 hz rfl h1 hn.1.1 (λc r e=>by cases e;decide) ?_;refine d9.mpr<| J3<| m5<| bin_w<| b8 (a:=.int ((pre.length:Int)+(tl p.1).length)) (G':=G) rfl<| b8 (a:=.int pre.length) (G':=G) rfl<| O8.mpr ⟨_,rfl,λk=>(by have:=of_decide_eq_true k;lia),λ_=>m7.mpr ?_⟩;have el:((pre++tl p.1).length:Int)= (pre.length:Int)+(tl p.1).length:=by simp
 have h2:tl T= (pre++tl p.1)++(tl (": " :Str)++(f p.2++post)):=by rw[h1];simp;rfl
 have el2:(((pre++tl p.1).length:Int)+((": " :Str).length:Nat))= ((pre++tl p.1++[58,32]).length:Int):=by rw[za (as:=pre++tl p.1)];show _+((2:Nat):Int)=_;simp
 refine d9.mpr<| v7<| J5<| u0 (x:=.str T) rfl<| j9<| c6 (as:= [.str T,.int ((pre.length:Int)+(tl p.1).length),.str (": " :Str)]) rfl rfl<| aE el.symm (by decide) h2<| b8 (a:= [.int dp]) (G':=G) rfl<| tH.mpr ⟨rfl,?_⟩;rw[el2];have h3:tl T= (pre++tl p.1++[58,32])++f p.2++post:=by rw[h2];simp;rfl
 refine h h3 ho λG1 j1=>?_;refine o6<| T3.mpr<| j9<| T3.mpr<| j9<| N7.mpr<| b8 (a:=.str T) (G':=G1) rfl<| b8 (a:=some (pre.length:Int)) (G':=G1) rfl<| b8 (a:=some ((pre.length:Int)+(tl p.1).length)) (G':=G1) rfl<| (d8 hz).mpr ?_;rw[U6 h1];refine b8 (a:= [p.2]) (G':=G1) rfl ⟨sz,b8 (a:= [.int (((pre++tl p.1++[58,32]).length:Int)+(f p.2).length)]) (G':=G1) rfl ⟨sz,o7 ?_⟩⟩;have e4:((pre++tl p.1++[58,32]).length:Int)+(f p.2).length= (pre.length:Int)+(tl p.1++[58,32]++f p.2).length:=by simp;lia
 rw[e4];exact q G1 j1
theorem WI{ps:List (Str×D)}{G:DH}{Q:DPP}(hl:ps.length<=400000)(q:Q (.ref G.length) (G++[.lst ((ps.map (·.1)).map D.str)])):Wp (eF [.tup (ps.map prD)]) G Q:=by
 refine t7<| o6<| EB (l:=ps.map prD) (G1:=G) rfl (by rw[zn];have:=big;lia)<| (VA (λG2=>G2=G) One hd0 (λ_ _=>rfl) _ _ G ⟨_,rfl⟩ rfl ?_).mono ?_
 ·rintro d hd _ _ ⟨u,rfl⟩ rfl;obtain⟨f,hf,rfl⟩:=zM.mp hd;exact aH ⟨_,rfl⟩ (b8 (a:=.str f.1) rfl ⟨rfl,rfl⟩)
 ·rintro _ _ ⟨rfl,rfl⟩;rw[Zq]at q ⊢;exact o7 q
theorem T9{p:Str}{pre d7:List Nat}{G:DH}{P:Fl->DH->Prop}{X Y:Fs}{c:Nat}{ps:List Nat}(h:tl T=pre++d7)(hp:tl p=c::ps)(k:hdN c d7)(w:Wp (Y [some (.str T),some (.int pre.length),some (.int dp)]) G P):
 Wp (seqS (ifS (truthE (mtE isStrM startsD g0 (M0 (cE (.str p)) i0))) X nextS) Y [some (.str T),some (.int pre.length),some (.int dp)]) G P:=by
 refine d9.mpr<| J3<| B9<| J2 (G:=G) (T:=T) (p:=p) (i:=pre.length) rfl rfl rfl ?_;rw[V6 h hp k];exact⟨rfl,λz=>(nomatch z),λ_=>m7.mpr w⟩
theorem AB{p:Str}{pre d7 r:List Nat}{G:DH}{P:Fl->DH->Prop}{e:Fe}{Y:Fs}(h:tl T=pre++d7)(k:d7=tl p++r)(w:Wp (e [some (.str T),some (.int pre.length),some (.int dp)]) G λd G1=>P (.rt d) G1):
 Wp (seqS (ifS (truthE (mtE isStrM startsD g0 (M0 (cE (.str p)) i0))) (retS e) nextS) Y [some (.str T),some (.int pre.length),some (.int dp)]) G P:=by
 refine d9.mpr<| J3<| V3<| J2 (G:=G) (T:=T) (p:=p) (i:=pre.length) rfl rfl rfl ?_;rw[S5 h k];exact⟨rfl,λ_=>o6 w,λz=>nomatch z⟩
theorem Q0{c d:Nat}{r:List Nat}(h:d≠c):hdN c (d::r):=λa s e=>by have:=(zi e).1;rw[<-this];exact h
theorem GE{n:Nat}{d:D}(h:GV n d):∃c r,shN n d=c::r/\(c=91\/c=123\/c=34\/c=116\/c=102\/c=45\/(48<=c/\c<=57)):=by
 cases h with
 |@i n i hi=>
   rw[KA];rcases V4 i with⟨m,rfl⟩|⟨m,hm,rfl⟩
   · rw[S9];rcases k:dg m with _|⟨x,y⟩
     ·exact absurd k (E6 m)
     ·exact⟨x,y,rfl,by have:=Q7 m x (by rw[k];exact zh ..);lia⟩
   ·rw[F4 m hm];exact⟨45,_,rfl,by lia⟩
 |@b n k=>rcases k with _|_<;>exact⟨_,_,rfl,by decide⟩
 |@s n z hs=>exact⟨34,_,rfl,by lia⟩
 |@l n l hl hx=>rw[F3];exact⟨91,_,rfl,by lia⟩
 |@r n ps hl hp hn hx=>rw[A4];exact⟨123,_,rfl,by lia⟩
end
theorem rS{T:Str}(hz:T.length<=ze):∀ {n N:Nat} {d:D} {dp:Int},GV n d->n<=N->dp+n<=21->qC T (O5 N) dp (shN n d) d:=by
 intro n
 induction n with
 |zero=>intro N d dp h;cases h
 |succ n ih=>
   intro N d dp h hN hd pre post G Q ht ho q;obtain⟨M,rfl⟩:∃M,N=M+1:=⟨N-1,by lia⟩;have bg:=big;have ht':tl T=pre++(shN (n+1) d++post):=by rw[ht,zu]
   refine t7 (show Wp (W0 (O5 M) [some (.str T),some (.int pre.length),some (.int dp)]) G _ from ?_);refine d9.mpr<| J3<| m5<| bin_w<| b8 (a:=.int dp) (G':=G) rfl<| b8 (a:=.int 20) (G':=G) rfl<| w9.mpr ⟨_,rfl,λk=>(by have:=of_decide_eq_true k;lia),λ_=>m7.mpr ?_⟩
   cases h with
   |@i _ i hi=>
     obtain⟨c,r,e,hc⟩:=GE (GB.i (n:=n) hi);have hs:tl T=pre++(c::(r++post)):=by rw[ht',e];rfl
     have hc:c=45\/(48<=c/\c<=57):=by
      rcases V4 i with⟨m,rfl⟩|⟨m,hm,rfl⟩
      ·rw[KA,S9]at e;have:=Q7 m c (by rw[e];exact zh ..);exact .inr this
      ·rw[KA,F4 m hm]at e;exact .inl (zi e).1.symm
     refine T9 hs (c:=91) (ps:= []) rfl (Q0 (by lia))<| T9 hs (c:=123) (ps:= []) rfl (Q0 (by lia))<| T9 hs (c:=34) (ps:= []) rfl (Q0 (by lia))<| T9 hs (c:=116) (ps:= [114,117,101]) rfl (Q0 (by lia))<| T9 hs (c:=102) (ps:= [97,108,115,101]) rfl (Q0 (by lia)) ?_;exact o6<| c6 (as:= [.str T,.int pre.length]) rfl rfl<| bW hz hi ht ho<| o7 (q G Ap.refl)
   |@b _ k=>
     rcases k with _|_
     ·have hs:tl T=pre++(102::([97,108,115,101]++post)):=ht';refine T9 hs (c:=91) (ps:= []) rfl (Q0 (by decide))<| T9 hs (c:=123) (ps:= []) rfl (Q0 (by decide))<| T9 hs (c:=34) (ps:= []) rfl (Q0 (by decide))<| T9 hs (c:=116) (ps:= [114,117,101]) rfl (Q0 (by decide))<| AB (r:=post) hs rfl ?_;exact b8 (a:=.tup [.bl false,.int ((pre.length:Int)+5)]) (G':=G) rfl<| o7 (q G Ap.refl)
     ·have hs:tl T=pre++(116::([114,117,101]++post)):=ht';refine T9 hs (c:=91) (ps:= []) rfl (Q0 (by decide))<| T9 hs (c:=123) (ps:= []) rfl (Q0 (by decide))<| T9 hs (c:=34) (ps:= []) rfl (Q0 (by decide))<| AB (r:=post) hs rfl ?_;exact b8 (a:=.tup [.bl true,.int ((pre.length:Int)+4)]) (G':=G) rfl<| o7 (q G Ap.refl)
   |@s _ z hs=>
     rw[OA]at ht ht' q;refine T9 ht' (c:=91) (ps:= []) rfl (Q0 (by decide))<| T9 ht' (c:=123) (ps:= []) rfl (Q0 (by decide))<| AB (r:=tl z++[34]++post) ht' rfl ?_;refine c6 (as:= [.str T,.int pre.length]) rfl rfl<| OZ hz hs ht<| o7 ?_;have e:(34::(tl z++[34])).length=z.length+2:=by rw[zp,za,v4];rfl
     rw[<-e];exact q G Ap.refl
   |@l _ l hl hx=>
     rw[F3]at ht ht' q;refine AB (r:=K7 [44,32] (l.map (shN n))++[93]++post) ht' rfl ?_;have h1:tl T= (pre++[91])++(K7 [44,32] (l.map (shN n))++(93::post)):=by rw[ht'];simp
     have e1:(pre.length:Int)+1= ((pre++[91]).length:Int):=by simp
     refine c6 (as:= [.str T,.int pre.length,.int dp]) rfl rfl<| t7<| d9.mpr<| v7<| c6 (as:= [.str T,.int ((pre.length:Int)+1),.str ⟨#[93]⟩,.fn "value_at",.int (dp+1)]) rfl rfl<| BL hz FN (by decide) (by decide) e1 (λx hxl=>ih (hx x hxl) (by lia) (by lia)) (λx hxl=>?_) hl h1 λG1 j1=>?_
     ·obtain⟨c,r,e,hc⟩:=GE (hx x hxl);rw[e];exact⟨xB _ _,Q0 (by lia)⟩
     · refine o6<| b8 (a:=.tup [.tup [.str M3,.tup l],.int (((pre++[91]).length:Int)+(K7 [44,32] (l.map (shN n))).length+1)]) (G':=G1) rfl<| o7<| o7 ?_;have e4:((pre++[91]).length:Int)+(K7 [44,32] (l.map (shN n))).length+1= (pre.length:Int)+(91::(K7 [44,32] (l.map (shN n))++[93])).length:=by simp;lia
       rw[e4];exact q G1 j1
   |@r _ ps hl hp hn hx=>
     rw[A4]at ht ht' q;refine T9 ht' (c:=91) (ps:= []) rfl (Q0 (by decide))<| AB (r:=K7 [44,32] ((ps.map prD).map (shQ (shN n)))++[125]++post) ht' rfl ?_;have h1:tl T= (pre++[123])++(K7 [44,32] ((ps.map prD).map (shQ (shN n)))++(125::post)):=by rw[ht'];simp
     have e1:(pre.length:Int)+1= ((pre++[123]).length:Int):=by simp
     refine c6 (as:= [.str T,.int pre.length,.int dp]) rfl rfl<| t7<| d9.mpr<| v7<| c6 (as:= [.str T,.int ((pre.length:Int)+1),.str ⟨#[125]⟩,.fn "pair_at",.int (dp+1)]) rfl rfl<| BL hz uL (by decide) (by decide) e1 (λx hxl=>?_) (λx hxl=>?_) (by rw[zn];exact hl) h1 λG1 j1=>?_
     ·obtain⟨p,Nx,rfl⟩:=zM.mp hxl;exact rZ hz (hn p Nx) (ih (hx p Nx) (by lia) (by lia))
     · obtain⟨p,Nx,rfl⟩:=zM.mp hxl;have hnp:=hn p Nx;show (tl p.1++[58,32]++shN n p.2)≠ []/\hdN 125 (tl p.1++[58,32]++shN n p.2);rcases k:tl p.1 with _|⟨a,s⟩
       ·exact absurd k hnp.2
       ·have:=hnp.1.1 a (by rw[k];exact zh ..);exact⟨xB _ _,Q0 (by lia)⟩
     · refine d9.mpr<| lF<| V3<| J5<| j9<| o4 (as:= [.tup (ps.map prD)]) rfl rfl<| WI hl<| m8.mpr<| Q9.mpr ⟨rfl,?_⟩;refine GP (.inr ⟨_,rfl,j8⟩) (by rw[zn,zn];lia) (iS hp) λG2 j2=>⟨rfl,rfl,m7.mpr ?_⟩;refine o6<| b8 (a:=.tup [.tup [.str Z4,.tup (ps.map prD)],.int (((pre++[123]).length:Int)+(K7 [44,32] ((ps.map prD).map (shQ (shN n)))).length+1)]) (G':=G2) rfl<| o7<| o7 ?_;have e4:((pre++[123]).length:Int)+(K7 [44,32] ((ps.map prD).map (shQ (shN n)))).length+1= (pre.length:Int)+(123::(K7 [44,32] ((ps.map prD).map (shQ (shN n)))++[125])).length:=by simp;lia
       rw[e4];exact q G2 ((j1.trans Ap.one).trans j2)
theorem rT{G:DH}{U:DSt}{i:Nat}{p a b:Str}(h:U[i]? =some (some (.str p)))(s0:(xP++a).length<=ze)(s1:(xI p).length<=ze)(s2:(xP++a++xI p).length<=ze)(s3:(xP++a++xI p++b).length<=ze):
 i5 [cE (.str a),PC (R5 i),cE (.str b)] xP U G=some (.ok (.str (xP++a++xI p++b)),G):=by
 have v:R5 i U G=some (.ok (.str p),G):=by unfold R5;rw[h]
 have r:PC (R5 i) U G=some (.ok (.str (xI p)),G):=by unfold PC;rw[M.bind_eq,v];dsimp only;rw[if_pos s1];rfl
 have e1:∀(f:Fe) (l:List Fe) (Nz y:Str),f U G=some (.ok (.str y),G)->(Nz++y).length<=ze->i5 (f::l) Nz U G=i5 l (Nz++y) U G:=λf l Nz y hf hs=>by have q:i5 (f::l) Nz U= (f U >>= λd=>(match d with| .str y=>if (Nz++y).length<=ze then i5 l (Nz++y) U else M.stuck|_=>M.stuck:M D)):=rfl;rw[q,M.bind_eq,hf];dsimp only;rw[if_pos hs]
 rw[e1 _ _ _ a rfl s0,e1 _ _ _ _ r s2,e1 _ _ _ b rfl s3];unfold i5;rw[if_pos s3];rfl
section
variable{T:Str}{G:DH}
theorem wG{p:Str}{pre d7:List Nat}{at':Int}(ha:at'=pre.length)(hp:p.length<=ze)(h:tl T=pre++d7)
 (s1:(xI p).length<=ze) (s2:(xP++("no " :Str)++xI p).length<=ze) (s3:(xP++("no " :Str)++xI p++(" where one is due" :Str)).length<=ze):
 We "NoValue" (λG'=>G'=G) (pA [.str T,.int at',.str p]) G λd G'=>G'=G/\d= .int ((pre.length:Int)+p.length)/\∃r,d7=tl p++r:=by
 subst ha;by_cases hb:tl p <+:d7
 ·obtain⟨r,rfl⟩:=hb;exact .inl (aE rfl hp h ⟨rfl,rfl,r,rfl⟩)
 ·refine X8<| J4<| E3<| sF.mpr<| nA.mpr<| J2 (G:=G) rfl rfl rfl ?_;rw[BE h,decide_eq_false hb];refine Z7.mpr ⟨λ_=>qA<| u0 (rT rfl (by decide +kernel) s1 s2 s3)<| m8.mpr rfl,λk=>nomatch k⟩
end
section
variable{T:Str}{G:DH}
theorem E7(lo hi:Nat):∀l:List Nat,∃rn post,l=rn++post/\(∀c∈rn,lo<=c/\c<=hi)/\C3 lo hi post
 |[]=>⟨[], [],rfl,λc h=>(nomatch h),λc r h=>(nomatch h)⟩
 |a::l=>by
   by_cases h:lo<=a/\a<=hi
   · obtain⟨rn,post,e,k,o⟩:=E7 lo hi l;refine⟨a::rn,post,by rw[e];rfl,λc hc=>?_,o⟩;rcases zl.mp hc with rfl|hc
     ·exact h
     ·exact k c hc
   ·exact⟨[],a::l,rfl,λc h=>(nomatch h),λc r e=>by cases e;exact h⟩
theorem wj{pre d7:List Nat}(hz:T.length<=900000)(h:tl T=pre++34::d7):
 We "NoValue" (λG'=>G'=G) (F_text_at [.str T,.int pre.length]) G λd G'=>G'=G/\∃z r,TxL z/\d= .tup [.str z,.int ((pre.length:Int)+(z.length+2:Nat))]/\d7=tl z++34::r:=by
 obtain⟨rn,post,e,k,o⟩:=E7 97 122 d7;have Pg:T.length<=ze:=zw hz (by decide);have h1:tl T= (pre++[34])++rn++post:=by rw[h,e];simp
 have e1:((pre++[34]).length:Int)= (pre.length:Int)+1:=by simp
 refine X8<| J4<| W2<|.inl<| o4 (as:= [.str T,.int ((pre.length:Int)+1),.str ⟨#[97]⟩,.str ⟨#[122]⟩]) rfl rfl<| a9 Pg e1.symm h1 k o ?_;rw[e1];have h2:=U6 h1;rw[e1]at h2;refine D9<| FY<| uC<|.inl<| N7.mpr<| b8 (a:=.str T) (G':=G) rfl<| b8 (a:=some ((pre.length:Int)+1)) (G':=G) rfl<| b8 (a:=some ((pre.length:Int)+1+rn.length)) (G':=G) rfl<| (d8 Pg).mpr ?_;rw[h2];have h3:tl T= (pre++[34]++rn)++post:=h1;refine uC<| U9<| b8 (a:= [.str T,.int ((pre.length:Int)+1+rn.length),.str ("\"" :Str)]) (G':=G) rfl ⟨rfl,(wG (by simp;lia) (by decide) h3 (by decide +kernel) (by decide +kernel) (by decide +kernel)).mono λd G' q=>?_⟩
 · obtain⟨rfl,rfl,r,rfl⟩:=q;refine .inl<| m8.mpr ⟨sz,o7 ⟨rfl,ofL rn,r,⟨λc hc=>k c hc,?_⟩,?_,e⟩⟩
   ·have:=congrArg zW h1;rw[v4]at this;simp at this;show rn.length<=900000;lia
   · have e4:(((pre++[34]++rn).length:Int)+(("\"" :Str).length:Nat))= (pre.length:Int)+((ofL rn).length+2:Nat):=by
      rw[za,za];show (((pre.length+1+rn.length:Nat):Int)+(1:Nat))= (pre.length:Int)+((rn.length+2:Nat):Int);lia
     rw[e4]
end
theorem sB(l:List Nat)(c:Nat):zr (l++[c])=zr l*10+(c-48):=by unfold zr;rw[List.foldl_append];rfl
theorem UE:∀(n:Nat) (ds:List Nat),ds.length=n+1->(∀c∈ds,48<=c/\c<=57)->(∀r,ds=48::r->r= [])->dg (zr ds)=ds
 |0,ds,hl,hd,h0=>by
   obtain⟨c,rfl⟩:=List.length_eq_one_iff.mp hl;have:=hd c (zh ..);have e:zr [c]=c-48:=by have:=sB [] c;rw[List.nil_append]at this;rw[this];show 0*10+_=_;lia
   rw[e,U3 (by lia)];congr 1;lia
 |n+1,ds,hl,hd,h0=>by
   obtain⟨l,c,rfl⟩:∃l c,ds=l++[c]:=⟨ds.dropLast,ds.getLast (λz=>by rw[z]at hl;cases hl),(Xr _).symm⟩;have hll:l.length=n+1:=by rw[za]at hl;exact ZJ hl
   have hc:=hd c (zT _ (zh ..));have hn:∀r,l=48::r->False:=λr e=>by have:=h0 (r++[c]) (by rw[e];rfl);exact absurd this (by simp)
   have ih:=UE n l hll (λx hx=>hd x (jN _ hx)) λr e=>(hn r e).elim;have hv:0<zr l:=by
    rcases jV (zr l)with z|z
    ·rw[z,U3 (by decide)]at ih;exact(hn [] ih.symm).elim
    ·exact z
   rw[sB,AE (by lia)];have e1:(zr l*10+(c-48)) / 10=zr l:=by lia
   have e2:(zr l*10+(c-48)) % 10=c-48:=by lia
   rw[e1,e2,ih,U3 (by lia)];congr 2;lia
theorem pG:∀(n:Nat) (ds:List Nat),ds.length<=n->(∀c∈ds,48<=c/\c<=57)->zr ds<10 ^ n
 |0,ds,hl,_=>by
   cases jn (Nat.le_zero.mp hl)
   decide
 |n+1,ds,hl,hd=>by
   rcases jV ds.length with z|z
   · cases jn z
     exact Nat.pow_pos (by decide)
   ·obtain⟨l,c,rfl⟩:∃l c,ds=l++[c]:=⟨ds.dropLast,ds.getLast (λk=>by rw[k]at z;cases z),(Xr _).symm⟩;have hc:=hd c (zT _ (zh ..));have:=pG n l (by rw[za]at hl;exact Nat.le_of_succ_le_succ hl) λx hx=>hd x (jN _ hx);rw[sB,JL];lia
section
variable{T:Str}{G:DH}
theorem kM{st:Int}{n:Nat}{a b:Option D}:Wp (orT (tBn eqD C0 B0) (tBn gtD (binE y3 C0 B0) (cIn 40)) [a,b,some (.int st),some (.int (st+n))]) G λk G1=>G1=G/\k=decide (n=0\/40<n):=by
 refine S4<| m5<| bin_w<| b8 (a:=.int (st+n)) (G':=G) rfl<| b8 (a:=.int st) (G':=G) rfl<| O8.mpr ⟨_,rfl,λk=>⟨rfl,?_⟩,λk=>m5<| bin_w<| bin_w<| b8 (a:=.int (st+n)) (G':=G) rfl<| b8 (a:=.int st) (G':=G) rfl<| FC.mpr<| b8 (a:=.int 40) (G':=G) rfl<| w9.mpr ⟨_,rfl,rfl,?_⟩⟩
 ·have:=of_decide_eq_true k;exact(decide_eq_true (Or.inl (by lia))).symm
 · have:=of_decide_eq_false k;by_cases h:40<n
   ·rw[decide_eq_true (show st+(n:Int)-st>40 by lia),decide_eq_true (Or.inr h)]
   ·rw[decide_eq_false (show ¬st+(n:Int)-st>40 by lia),decide_eq_false (by lia)]
theorem uR{p st e:Int}:Wp (u4 (truthE (mtE isStrM startsD g0 (M0 (cSt "0") B0))) (tBn gtD (binE y3 C0 i0) A0) [some (.str T),some (.int p),some (.int st),some (.int e)]) G λk G1=>G1=G/\k= (E2 T ("0" :Str) st&&decide (e-p>1)):=by
 refine D6<| nA.mpr<| J2 (G:=G) (i:=st) (p:=("0" :Str)) rfl rfl rfl<| Z7.mpr ⟨λk=>m5<| bin_w<| bin_w<| b8 (a:=.int e) (G':=G) rfl<| b8 (a:=.int p) (G':=G) rfl<| FC.mpr<| b8 (a:=.int 1) (G':=G) rfl<| w9.mpr ⟨_,rfl,rfl,?_⟩,λk=>⟨rfl,?_⟩⟩
 ·rw[k];rfl
 ·rw[k];rfl
theorem QO{pre sg rn post:List Nat}(hz:T.length<=ze)(hs:sg= []\/sg= [45])(h:tl T=pre++(sg++rn)++post)(k:∀c∈rn,48<=c/\c<=57):
 We "NoValue" (λG'=>G'=G) (NE [some (.str T),some (.int pre.length),some (.int ((pre.length:Int)+sg.length)),some (.int ((pre.length:Int)+sg.length+rn.length))]) G (PB λd G'=>G'=G/\∃i,smI i/\d= .tup [.int i,.int ((pre.length:Int)+(nmL i).length)]/\sg++rn=nmL i):=by
 by_cases A:rn.length=0\/40<rn.length
 ·refine J4<| E3<| kM.mono λb G1 q=>?_;obtain⟨rfl,e⟩:=q;rw[decide_eq_true A]at e;exact⟨λ_=>qA (b8 rfl rfl),λz=>by rw[e]at z;cases z⟩
 · have hst:tl T= (pre++sg)++(rn++post):=by rw[h];simp
   have hsl:((pre++sg).length:Int)= (pre.length:Int)+sg.length:=by simp
   by_cases B:(E2 T ("0" :Str) ((pre.length:Int)+sg.length)&&decide ((pre.length:Int)+sg.length+rn.length-pre.length>1))=true
   ·refine J4<| E3<| kM.mono λb G1 q=>?_;obtain⟨rfl,e⟩:=q;rw[decide_eq_false A]at e;refine⟨λz=>(by rw[e]at z;cases z),λ_=>.inl (m7.mpr ?_)⟩;refine J4<| E3<| uR.mono λb G1 q=>?_;obtain⟨rfl,e⟩:=q;rw[B]at e;exact⟨λ_=>qA (b8 rfl rfl),λz=>by rw[e]at z;cases z⟩
   · have h48:∀r,rn=48::r->sg= []/\r= []:=λr er=>by
      have hb:E2 T ("0" :Str) ((pre.length:Int)+sg.length)=true:=by rw[<-hsl];exact S5 hst (r:=r++post) (by rw[er];rfl)
      rw[hb,Bool.true_and]at B;have B:=of_decide_eq_false (xV.mpr B);have:rn.length=r.length+1:=by rw[er];rfl
      exact⟨jn (by lia),jn (by lia)⟩
     obtain⟨n,hn⟩:∃n,rn.length=n+1:=⟨rn.length-1,by lia⟩;have dgr:=UE n rn hn k λr e=>(h48 r e).2;have lt:=pG 40 rn (by lia) k;have hd:rn≠ []:=λz=>by rw[z]at hn;cases hn
     have lt':zr rn<=9999999999999999999999999999999999999999:=Nat.le_of_lt_succ lt;have hB:E2 T ("0" :Str) ((pre.length:Int)+sg.length)=true->sg.length+rn.length<=1:=λhb=>by rw[hb,Bool.true_and]at B;have B:=of_decide_eq_false (xV.mpr B);lia
     rcases hs with rfl|rfl
     · have en:nmL ((zr rn:Nat):Int)=rn:=(S9 _).trans dgr;have sm:smI ((zr rn:Nat):Int):=by unfold smI d5;lia
       refine .inl (MD (i:=((zr rn:Nat):Int)) (ds:=rn) (post:=post) hz sm (by rw[en];exact h) (by rw[en];simp) hd (by lia) ?_ ⟨rfl,_,sm,rfl,en.symm⟩);rw[en];rcases hb:E2 T ("0" :Str) ((pre.length:Int)+([]:List Nat).length)with _|_
       ·exact .inl rfl
       ·have:=hB hb;exact .inr (by simp at this;lia)
     · have m0:0<zr rn:=by
        rcases jV (zr rn)with z|z
        ·rw[z,U3 (by decide)]at dgr;exact absurd (h48 [] dgr.symm).1 (by simp)
        ·exact z
       have en:nmL (-((zr rn:Nat):Int))=45::rn:=(F4 _ m0).trans (by rw[dgr]);have sm:smI (-((zr rn:Nat):Int)):=by unfold smI d5;lia
       refine .inl (MD (i:= -((zr rn:Nat):Int)) (ds:=rn) (post:=post) hz sm (by rw[en];exact h) (by rw[en];simp;lia) hd (by lia) ?_ ⟨rfl,_,sm,rfl,en.symm⟩);rcases hb:E2 T ("0" :Str) ((pre.length:Int)+([45]:List Nat).length)with _|_
       ·exact .inl rfl
       ·have:=hB hb;simp at this;lia
end
section
variable{T:Str}{G:DH}
theorem NU:Z5=seqS (J1 (ifE (truthE (mtE isStrM startsD g0 (M0 (cSt "-") i0))) (binE addD i0 A0) i0) D1) (asQ (TB W7 g0 B0 (cSt "0") (cSt "9")) T0 NE):=rfl
theorem MX{pre d7:List Nat}(hz:T.length<=ze)(h:tl T=pre++d7):
 We "NoValue" (λG'=>G'=G) (Z9 [.str T,.int pre.length]) G λd G'=>G'=G/\∃i r,smI i/\d= .tup [.int i,.int ((pre.length:Int)+(nmL i).length)]/\d7=nmL i++r:=by
 refine X8 (show We _ _ (Z5 [some (.str T),some (.int pre.length),none,none]) G _ from ?_);rw[NU];by_cases hb:∃r,d7=45::r
 · obtain⟨r1,rfl⟩:=hb;obtain⟨rn,post,e,k,o⟩:=E7 48 57 r1;have h1:tl T= (pre++[45])++rn++post:=by rw[h,e];simp
   have e1:((pre++[45]).length:Int)= (pre.length:Int)+1:=by simp
   refine J4<| W2<|.inl<| MC.mpr<| V3<| J2 (G:=G) rfl rfl rfl ?_;rw[S5 h (r:=r1) rfl];refine⟨rfl,?_⟩;rw[if_pos rfl];refine b8 (a:=.int ((pre.length:Int)+1)) (G':=G) rfl<| J4<| W2<|.inl<| o4 (as:= [.str T,.int ((pre.length:Int)+1),.str ⟨#[48]⟩,.str ⟨#[57]⟩]) rfl rfl<| a9 hz e1.symm h1 k o ?_;rw[e1];refine(QO (sg:= [45]) (rn:=rn) (post:=post) hz (.inr rfl) (by rw[h1];simp) k).mono λfl G1 q=>?_;rcases fl with _|d|_|_
   ·obtain⟨_,i,_,q,_⟩:=q;cases q
   ·obtain⟨rfl,i,sm,rfl,en⟩:=q;exact⟨rfl,i,post,sm,rfl,by rw[<-en,e];rfl⟩
   ·exact q
   ·exact q
 · obtain⟨rn,post,e,k,o⟩:=E7 48 57 d7;have h1:tl T=pre++rn++post:=by rw[h,e];simp
   refine J4<| W2<|.inl<| MC.mpr<| B9<| J2 (G:=G) rfl rfl rfl ?_;rw[V6 h (c:=45) (ps:= []) rfl λc r z=>by rintro rfl;exact hb ⟨r,z⟩];refine⟨rfl,?_⟩;rw[if_neg zG];refine b8 (a:=.int pre.length) (G':=G) rfl<| J4<| W2<|.inl<| o4 (as:= [.str T,.int pre.length,.str ⟨#[48]⟩,.str ⟨#[57]⟩]) rfl rfl<| a9 hz rfl h1 k o ?_;have w:=QO (G:=G) (pre:=pre) (sg:= []) (rn:=rn) (post:=post) hz (.inl rfl) (by rw[h1];simp) k;rw[show ((pre.length:Int)+(([]:List Nat).length:Nat))= (pre.length:Int)from by simp]at w;refine w.mono λfl G1 q=>?_;rcases fl with _|d|_|_
   ·obtain⟨_,i,_,q,_⟩:=q;cases q
   ·obtain⟨rfl,i,sm,rfl,en⟩:=q;exact⟨rfl,i,post,sm,rfl,by rw[<-en,e];rfl⟩
   ·exact q
   ·exact q
end
def Rd(T:Str)(F:List D->M D)(dp:Int)(ok:D->List Nat->Prop):Prop:=∀ {pre d7:List Nat} {G:DH},tl T=pre++d7->We "NoValue" (Ap G) (F [.str T,.int pre.length,.int dp]) G λd G'=>Ap G G'/\∃v t r,d= .tup [v,.int ((pre.length:Int)+t.length)]/\d7=t++r/\ok v t
def okP(ok:D->List Nat->Prop)(d:D)(t:List Nat):Prop:=∃nm v u,TxL nm/\tl nm≠ []/\d= .tup [.str nm,v]/\t=tl nm++[58,32]++u/\ok v u
section
variable{T:Str}{R:List D->M D}{dp:Int}{ok:D->List Nat->Prop}
theorem pV(hz:T.length<=900000)(h:Rd T R dp ok):Rd T (J9 R) dp (okP ok):=by
 intro pre d7 G ht;have Pg:T.length<=ze:=zw hz (by decide);obtain⟨rn,post,e,k,o⟩:=E7 97 122 d7;have h1:tl T=pre++rn++post:=by rw[ht,e];simp
 refine X8<| J4<| W2<|.inl<| o4 (as:= [.str T,.int pre.length,.str ⟨#[97]⟩,.str ⟨#[122]⟩]) rfl rfl<| a9 Pg rfl h1 k o ?_;refine J4<| E3<| m5<| bin_w<| b8 (a:=.int ((pre.length:Int)+rn.length)) (G':=G) rfl<| b8 (a:=.int pre.length) (G':=G) rfl<| O8.mpr ⟨_,rfl,λ_=>qA (b8 rfl Ap.refl),λkk=>.inl (m7.mpr ?_)⟩;have np:rn≠ []:=λz=>by have:=of_decide_eq_false kk;rw[z]at this;simp at this
 have el:((pre++rn).length:Int)= (pre.length:Int)+rn.length:=by simp
 refine J4<| W2<| GR<| uC<|.inl<| b8 (a:=.str T) (G':=G) rfl<| uC<| U9<| b8 (a:= [.str T,.int ((pre.length:Int)+rn.length),.str (": " :Str)]) (G':=G) rfl ⟨rfl,((wG (G:=G) (p:=(": " :Str)) el.symm (by decide) h1 (by decide +kernel) (by decide +kernel) (by decide +kernel)).emono λG' z=>by rw[z];exact Ap.refl).mono λd G' q=>?_⟩;obtain⟨rfl,rfl,r,er⟩:=q;have el2:(((pre++rn).length:Int)+((": " :Str).length:Nat))= ((pre++rn++[58,32]).length:Int):=by rw[za (as:=pre++rn)];show _+((2:Nat):Int)=_;simp
 rw[el2];refine .inl<| b8 (a:= [.int dp]) (G':=G') rfl ⟨rfl,?_⟩;have er:post= [58,32]++r:=er;have h3:tl T= (pre++rn++[58,32])++r:=by rw[h1,er];simp
 refine(h h3).mono λd G1 q=>?_;obtain⟨j1,v,t,r2,rfl,e2,kv⟩:=q;refine D9<|.inl<| T3.mpr<| j9<| T3.mpr<| j9<| N7.mpr<| b8 (a:=.str T) (G':=G1) rfl<| b8 (a:=some (pre.length:Int)) (G':=G1) rfl<| b8 (a:=some ((pre.length:Int)+rn.length)) (G':=G1) rfl<| (d8 Pg).mpr ?_;rw[U6 h1];refine b8 (a:= [v]) (G':=G1) rfl ⟨sz,b8 (a:= [.int (((pre++rn++[58,32]).length:Int)+t.length)]) (G':=G1) rfl ⟨sz,o7 ⟨j1,_,rn++[58,32]++t,r2,?_,?_,ofL rn,v,t,⟨λc hc=>k c hc,?_⟩,np,rfl,rfl,kv⟩⟩⟩
 · have e4:((pre++rn++[58,32]).length:Int)+t.length= (pre.length:Int)+(rn++[58,32]++t).length:=by simp;lia
   rw[e4]
 ·rw[e,er,e2];simp
 ·have:=congrArg zW h1;rw[v4]at this;simp at this;show rn.length<=900000;lia
end
inductive PO(ok:D->List Nat->Prop):List D->List Nat->Prop
 |one {v:D} {t:List Nat}:ok v t->PO ok [v] t
 |more {v:D} {vs:List D} {t u:List Nat}:ok v t->PO ok vs u->PO ok (v::vs) (t++([44,32]++u))
section
variable{T:Str}{R F:List D->M D}{x:Str}{dp:Int}{ok:D->List Nat->Prop}{cl:Nat}{G0:DH}{c:Nat}
theorem qO(hz:T.length<=900000)(ht:L3 "value_at" "pair_at" R (J9 R) x=some F)(h:Rd T F dp ok)(Ph:∀v t,ok v t->t≠ [])(hle:G0.length<=c):∀(n:Nat) (dn:List D) (pre d7:List Nat) (u:Option D) (G:DH),d7.length<n->tl T=pre++d7->Gr G0 G->G[c]? =some (.lst dn)->dn.length+d7.length<=900001->
 We "NoValue" (Gr G0) (J0 n PT (PW R) (pS T pre.length cl x dp c u)) G λfl G'=>Gr G0 G'/\∃vs t r,fl= .rt (.tup [.tup (dn++vs),.int ((pre.length:Int)+t.length+1)])/\d7=t++cl::r/\PO ok vs t
 |0,dn,pre,d7,u,G,hn,hT,g,e,hl=>absurd hn (XE _)
 |n+1,dn,pre,d7,u,G,hn,hT,g,e,hl=>by
   have bg:=big;have Pg:T.length<=ze:=zw hz (by decide);refine UW<| b8 (a:=true) (G':=G) rfl ?_;rw[if_pos rfl];refine J4<| W2<| eQ rfl ht<| b8 (a:= [.str T,.int pre.length,.int dp]) (G':=G) rfl ⟨rfl,((h hT).emono λG' j=>g.trans j.gr).mono λd G1 q=>?_⟩;obtain⟨j1,v,t,r,rfl,er,kv⟩:=q;have e1:=j1.at e;have tp:0<t.length:=jI.mpr (Ph v t kv);have lr:d7.length=t.length+r.length:=by rw[er,za]
   refine J4<|.inl<| vG.mpr<| UA.mpr<| b8 (a:=.ref c) (G':=G1) rfl<| (rF e1).mpr<| b8 (a:= [v]) (G':=G1) rfl<| (oG e1 (by lia)).mpr ?_;have e2:(G1.set c (.lst (dn++[v])))[c]? =some (.lst (dn++[v])):=zU (lt_of_get e1);have g2:Gr G0 (G1.set c (.lst (dn++[v]))):=(g.trans j1.gr).set hle;generalize G1.set c (.lst (dn++[v]))=G2 at e2 g2;have el:((pre++t).length:Int)= (pre.length:Int)+t.length:=by simp
   have h1:tl T= (pre++t)++r:=by rw[hT,er];simp
   by_cases hb:∃r1,r=cl::r1
   ·obtain⟨r1,rfl⟩:=hb;refine J4<| E3<| V3<| J2 (G:=G2) rfl rfl rfl ?_;rw[<-el,S5 h1 (r:=r1) rfl,el];refine⟨rfl,λ_=>.inl<| o6<| T3.mpr<| j9<| O6 (as:= [.ref c]) rfl<| (W9 e2).mpr<| b8 (a:= [.int ((pre.length:Int)+t.length+1)]) (G':=G2) rfl ⟨sz,g2, [v],t,r1,rfl,er,.one kv⟩,λz=>nomatch z⟩
   · refine J4<| E3<| B9<| J2 (G:=G2) rfl rfl rfl ?_;rw[<-el,V6 h1 (c:=cl) (ps:= []) rfl λa s z=>by rintro rfl;exact hb ⟨s,z⟩,el];refine⟨rfl,λz=>(nomatch z),λ_=>.inl<| m7.mpr ?_⟩;refine W2<| U9<| b8 (a:= [.str T,.int ((pre.length:Int)+t.length),.str (", " :Str)]) (G':=G2) rfl ⟨rfl,((wG (G:=G2) (p:=(", " :Str)) el.symm (by decide) h1 (by decide +kernel) (by decide +kernel) (by decide +kernel)).emono λG' z=>by rw[z];exact g2).mono λd G3 q=>?_⟩;obtain⟨rfl,rfl,r2,er2⟩:=q;have er2:r= [44,32]++r2:=er2;have el2:(((pre++t).length:Int)+((", " :Str).length:Nat))= ((pre++t++[44,32]).length:Int):=by
      rw[za (as:=pre++t)];show _+((2:Nat):Int)=_;simp
     rw[el2];have lr2:r.length=2+r2.length:=by rw[er2,za];rfl
     refine(qO hz ht h Ph hle n (dn++[v]) (pre++t++[44,32]) r2 _ G3 (by lia) (by rw[h1,er2];simp) g2 e2 (by rw[za];simp;lia)).mono λfl G4 q=>?_;obtain⟨g4,vs,u,r3,rfl,e3,po⟩:=q;refine⟨g4,v::vs,t++([44,32]++u),r3,?_,by rw[er,er2,e3];simp,.more kv po⟩;rw[zu];have:((pre++t++[44,32]).length:Int)+u.length+1= (pre.length:Int)+(t++([44,32]++u)).length+1:=by simp;lia
     rw[this];rfl
end
section
variable{T:Str}{R F:List D->M D}{x:Str}{dp:Int}{ok:D->List Nat->Prop}{cl:Nat}
theorem IN(hz:T.length<=900000)(ht:L3 "value_at" "pair_at" R (J9 R) x=some F)(h:Rd T F dp ok)(Ph:∀v t,ok v t->t≠ []){pre d7:List Nat}{at':Int}{G:DH}(ha:at'=pre.length)(hT:tl T=pre++d7):
 We "NoValue" (Ap G) (Q4 R [.str T,.int at',.str ⟨#[cl]⟩,.fn x,.int dp]) G λd G'=>Ap G G'/\∃vs t r,d= .tup [.tup vs,.int ((pre.length:Int)+t.length+1)]/\d7=t++cl::r/\((vs= []/\t= [])\/PO ok vs t):=by
 subst ha;refine X8 (show We _ _ (HB R [some (.str T),some (.int pre.length),some (.str ⟨#[cl]⟩),some (.fn x),some (.int dp),none,none]) G _ from ?_);rw[mK];by_cases hb:∃r1,d7=cl::r1
 ·obtain⟨r1,rfl⟩:=hb;refine J4<| E3<| V3<| J2 (G:=G) rfl rfl rfl ?_;rw[S5 hT (r:=r1) rfl];exact⟨rfl,λ_=>.inl<| o6<| b8 (a:=.tup [.tup [],.int ((pre.length:Int)+1)]) (G':=G) rfl<| o7 ⟨Ap.refl, [], [],r1,by simp,rfl,.inl ⟨rfl,rfl⟩⟩,λz=>nomatch z⟩
 ·refine J4<| E3<| B9<| J2 (G:=G) rfl rfl rfl ?_;rw[V6 hT (c:=cl) (ps:= []) rfl λa s z=>by rintro rfl;exact hb ⟨s,z⟩];refine⟨rfl,λz=>(nomatch z),λ_=>.inl<| m7.mpr ?_⟩;have lr:=congrArg zW hT;rw[v4,za]at lr;refine J4<|.inl<| b8 (a:=Fl.nx (pS T pre.length cl x dp G.length none)) (G':=G++[.lst []]) rfl<| Ff (n:=d7.length+1)<| ((qO (G0:=G) hz ht h Ph (zk _) (d7.length+1) [] pre d7 none _ (yY _) hT Gr.app (by simp) (by simp;lia)).emono λG' g=>g.ap).mono λfl G1 q=>?_;obtain⟨g1,vs,t,r,rfl,er,po⟩:=q;exact o7 ⟨g1.ap,vs,t,r,rfl,er,.inr po⟩
end
def okV(n:Nat)(v:D)(t:List Nat):Prop:=GV n v/\t=shN n v
theorem ME{n:Nat}(v:D)(t:List Nat)(h:okV n v t):t≠ []:=by obtain⟨g,rfl⟩:=h;obtain⟨c,r,e,_⟩:=GE g;rw[e];exact xB _ _
theorem FE{ok:D->List Nat->Prop}(Ph:∀v t,ok v t->t≠ []){vs:List D}{t:List Nat}(h:PO ok vs t):3*vs.length<=t.length+2:=by
 induction h with
 |one k=>have:=jI.mpr (Ph _ _ k);simp;lia
 |more k _ ih=>have:=jI.mpr (Ph _ _ k);simp;lia
theorem AH{ok:D->List Nat->Prop}{f:D->List Nat}(hf:∀v t,ok v t->t=f v){vs:List D}{t:List Nat}(h:PO ok vs t):t=K7 [44,32] (vs.map f):=by
 have tail:∀ {vs:List D} {t:List Nat},PO ok vs t-> [44,32]++t=glL [44,32] (vs.map f):=λ{vs t} h=>by
  induction h with
  |one k=>rw[hf _ _ k];simp[glL]
  |more k _ ih=>rw[hf _ _ k,ih];simp[glL]
 cases h with
 |one k=>rw[hf _ _ k];simp[K7,glL]
 |more k q=>rw[hf _ _ k,tail q];rfl
theorem vD{ok:D->List Nat->Prop}{K:D->Prop}(hf:∀v t,ok v t->K v){vs:List D}{t:List Nat}(h:PO ok vs t):∀v∈vs,K v:=by
 induction h with
 |one k=>intro v hv;rcases zR.mp hv with rfl;exact hf _ _ k
 |more k _ ih=>
   intro v hv;rcases zl.mp hv with rfl|hv
   ·exact hf _ _ k
   ·exact ih v hv
section
variable{T:Str}{R:List D->M D}{dp:Int}{n:Nat}
theorem cY(hz:T.length<=900000)(h:Rd T R (dp+1) (okV n)){pre d7:List Nat}{G:DH}(hT:tl T=pre++91::d7):
 We "NoValue" (Ap G) (WC R [.str T,.int pre.length,.int dp]) G λd G'=>Ap G G'/\∃v t r,d= .tup [v,.int ((pre.length:Int)+t.length)]/\91::d7=t++r/\okV (n+1) v t:=by
 have h1:tl T= (pre++[91])++d7:=by rw[hT];simp
 have e1:(pre.length:Int)+1= ((pre++[91]).length:Int):=by simp
 have lr:=congrArg zW h1;rw[v4,za]at lr;refine X8<| J4<| W2<| U9<| b8 (a:= [.str T,.int ((pre.length:Int)+1),.str ⟨#[93]⟩,.fn "value_at",.int (dp+1)]) (G':=G) rfl ⟨rfl,(IN (cl:=93) hz FN h ME e1 h1).mono λd G1 q=>?_⟩;obtain⟨j1,vs,t,r,rfl,er,po⟩:=q;refine D9<|.inl<| b8 (a:=.tup [.tup [.str M3,.tup vs],.int (((pre++[91]).length:Int)+t.length+1)]) (G':=G1) rfl<| o7 ⟨j1,.tup [.str M3,.tup vs],91::(t++[93]),r,?_,by rw[er];simp,?_⟩
 · have e4:((pre++[91]).length:Int)+t.length+1= (pre.length:Int)+(91::(t++[93])).length:=by simp;lia
   rw[e4]
 · rcases po with⟨rfl,rfl⟩|po
   ·exact⟨.l (by simp) (λx hx=>nomatch hx),by rw[F3];rfl⟩
   · have l3:=FE ME po;have lt:d7.length=t.length+1+r.length:=by rw[er];simp;lia
     exact⟨.l (by lia) (vD (λv t k=>k.1) po),by rw[F3,AH (f:=shN n) (λv t k=>k.2) po]⟩
end
theorem EK{α:Type}{R:α->α->Prop}(tr:∀a b c,R a b->R b c->R a c):∀ {l:List α},(∀p∈l.zip (l.drop 1),R p.1 p.2)->l.Pairwise R
 |[],_=>.nil
 |[x],_=>yB.mpr ⟨λ_ h=>(nomatch h),.nil⟩
 |x::y::r,h=>by
   have ih:=EK tr (l:=y::r) λp hp=>h p (zo _ hp);have h1:=h (x,y) (zh ..);refine yB.mpr ⟨λz hz=>?_,ih⟩;rcases zl.mp hz with rfl|hz
   ·exact h1
   ·exact tr _ _ _ h1 ((yB.mp ih).1 z hz)
def lS:D->D->Bool
 | .str a,.str b=>decide (a.cps.toList<b.cps.toList)
 |_,_=>false
theorem qS{ss:List Str}{d:D}{G:DH}{Q:DPP}(hd:SqD G d (ss.map D.str))(hl:ss.length<=900000)(q:∀G' b,Ap G G'->(b=true->ss.Pairwise LtS)->Q (.bl b) G'):Wp (OC [d]) G Q:=by
 refine t7<| o6<| fM (f:=lS) hd (by rw[zn];exact hl) (λp hp G1 j=>?_) λG' a=>o7 (q G' _ a λh=>?_)
 ·have hm:=Ye (show (p.1,p.2)∈_ from hp);obtain⟨a,_,ea⟩:=zM.mp hm.1;obtain⟨b,_,eb⟩:=zM.mp (Yp hm.2);rw[<-ea,<-eb];exact bin_w<| b8 rfl<| b8 rfl<| OH.mpr ⟨lS (.str a) (.str b),rfl,rfl,Ap.refl⟩
 ·rw[Zb]at h;refine EK (R:=LtS) (λa b c h k=>List.lt_trans h k) λp hp=>?_;refine of_decide_eq_true (p:=p.1.cps.toList<p.2.cps.toList) (h (.str p.1,.str p.2) ?_);rw[<-List.map_drop,List.zip_map];exact zM.mpr ⟨p,hp,rfl⟩
theorem oH{n:Nat}:∀ {vs:List D},(∀v∈vs,∃t,okP (okV n) v t)->∃ps:List (Str×D),vs=ps.map prD/\∀p∈ps,(TxL p.1/\tl p.1≠ [])/\GV n p.2
 |[],_=>⟨[],rfl,λ_ h=>nomatch h⟩
 |d::r,h=>by
   obtain⟨t,nm,v,u,h1,h2,rfl,_,h3⟩:=h d (zh ..);obtain⟨ps,rfl,hp⟩:=oH λv hv=>h v (zo _ hv);refine⟨(nm,v)::ps,rfl,λp hq=>?_⟩;rcases zl.mp hq with rfl|hq
   ·exact⟨⟨h1,h2⟩,h3.1⟩
   ·exact hp p hq
theorem VH{n:Nat}(v:D)(t:List Nat)(h:okP (okV n) v t):t≠ []:=by obtain⟨nm,w,u,_,h2,_,rfl,_⟩:=h;intro z;rw[zu,List.append_eq_nil_iff]at z;exact h2 z.1
theorem fN{n:Nat}(v:D)(t:List Nat)(h:okP (okV n) v t):t=shQ (shN n) v:=by obtain⟨nm,w,u,_,_,rfl,rfl,h3⟩:=h;rw[h3.2];rfl
section
variable{T:Str}{R:List D->M D}{dp:Int}{n:Nat}
theorem mQ(hz:T.length<=900000)(h:Rd T R (dp+1) (okV n)){pre d7:List Nat}{G:DH}(hT:tl T=pre++123::d7):
 We "NoValue" (Ap G) (Z3 R [.str T,.int pre.length,.int dp]) G λd G'=>Ap G G'/\∃v t r,d= .tup [v,.int ((pre.length:Int)+t.length)]/\123::d7=t++r/\okV (n+1) v t:=by
 have h1:tl T= (pre++[123])++d7:=by rw[hT];simp
 have e1:(pre.length:Int)+1= ((pre++[123]).length:Int):=by simp
 have lr:=congrArg zW h1;rw[v4,za]at lr;refine X8<| J4<| W2<| U9<| b8 (a:= [.str T,.int ((pre.length:Int)+1),.str ⟨#[125]⟩,.fn "pair_at",.int (dp+1)]) (G':=G) rfl ⟨rfl,(IN (cl:=125) hz uL (pV hz h) VH e1 h1).mono λd G1 q=>?_⟩;obtain⟨j1,vs,t,r,rfl,er,po⟩:=q;have lt:d7.length=t.length+1+r.length:=by rw[er];simp;lia
 obtain⟨ps,rfl,hp⟩:∃ps:List (Str×D),vs=ps.map prD/\∀p∈ps,(TxL p.1/\tl p.1≠ [])/\GV n p.2:=by
  rcases po with⟨rfl,_⟩|po
  ·exact⟨[],rfl,λ_ h=>nomatch h⟩
  ·exact oH (vD (λv t k=>⟨t,k⟩) po)
 have hl:ps.length<=400000:=by
  rcases po with⟨z,_⟩|po
  ·rw[Yx.mp z];simp
  ·have l3:=FE VH po;rw[zn]at l3;lia
 have et:t=K7 [44,32] ((ps.map prD).map (shQ (shN n))):=by
  rcases po with⟨z,rfl⟩|po
  ·rw[z];rfl
  ·exact AH fN po
 refine J4<| E3<| sF.mpr<| nA.mpr<| J5<| j9<| o4 (as:= [.tup (ps.map prD)]) rfl rfl<| WI hl<| m8.mpr<| Q9.mpr ⟨rfl,?_⟩;refine qS (.inr ⟨_,rfl,j8⟩) (by rw[zn];lia) λG2 b j2 hb=>Z7.mpr ⟨λ_=>qA (b8 rfl ((j1.trans Ap.one).trans j2)),λkb=>.inl (m7.mpr ?_)⟩;have hb:=hb (by rcases b with _|_<;>first|rfl|exact nomatch kb);refine D9<|.inl<| b8 (a:=.tup [.tup [.str Z4,.tup (ps.map prD)],.int (((pre++[123]).length:Int)+t.length+1)]) (G':=G2) rfl<| o7 ⟨(j1.trans Ap.one).trans j2,.tup [.str Z4,.tup (ps.map prD)],123::(t++[125]),r,?_,by rw[er];simp,.r hl hb (λp k=>(hp p k).1) (λp k=>(hp p k).2),by rw[A4,et]⟩;have e4:((pre++[123]).length:Int)+t.length+1= (pre.length:Int)+(123::(t++[125])).length:=by simp;lia
 rw[e4]
theorem pB{x:Str}{E:DH->Prop}{p:Str}{pre d7:List Nat}{G:DH}{P:Fl->DH->Prop}{e:Fe}{Y:Fs}(h:tl T=pre++d7)(y:∀r,d7=tl p++r->We x E (e [some (.str T),some (.int pre.length),some (.int dp)]) G λd G1=>P (.rt d) G1)(w:We x E (Y [some (.str T),some (.int pre.length),some (.int dp)]) G P):
 We x E (seqS (ifS (truthE (mtE isStrM startsD g0 (M0 (cE (.str p)) i0))) (retS e) nextS) Y [some (.str T),some (.int pre.length),some (.int dp)]) G P:=by
 refine J4<| E3<| nA.mpr<| J2 (G:=G) (T:=T) (p:=p) (i:=pre.length) rfl rfl rfl<| Z7.mpr ?_;rw[BE h];refine⟨λk=>D9 ?_,λ_=>.inl (m7.mpr w)⟩;obtain⟨r,er⟩:=of_decide_eq_true k;exact y r er.symm
theorem aR(hz:T.length<=900000):∀(n N:Nat) (dp:Int),dp+n=21->n<N->Rd T (O5 N) dp (okV n):=by
 intro n;have Pg:T.length<=ze:=zw hz (by decide)
 induction n with
 |zero=>
   intro N dp hd hN pre d7 G hT;obtain⟨M,rfl⟩:∃M,N=M+1:=⟨N-1,by lia⟩;refine X8 (show We _ _ (W0 (O5 M) [some (.str T),some (.int pre.length),some (.int dp)]) G _ from ?_);exact J4<| E3<| m5<| bin_w<| b8 (a:=.int dp) (G':=G) rfl<| b8 (a:=.int 20) (G':=G) rfl<| w9.mpr ⟨_,rfl,λ_=>qA (b8 rfl Ap.refl),λk=>absurd (of_decide_eq_false k) (by lia)⟩
 |succ n ih=>
   intro N dp hd hN pre d7 G hT;obtain⟨M,rfl⟩:∃M,N=M+1:=⟨N-1,by lia⟩;have ih:Rd T (O5 M) (dp+1) (okV n):= @ih M (dp+1) (by lia) (by lia);refine X8 (show We _ _ (W0 (O5 M) [some (.str T),some (.int pre.length),some (.int dp)]) G _ from ?_);refine J4<| E3<| m5<| bin_w<| b8 (a:=.int dp) (G':=G) rfl<| b8 (a:=.int 20) (G':=G) rfl<| w9.mpr ⟨_,rfl,λk=>absurd (of_decide_eq_true k) (by lia),λ_=>.inl (m7.mpr ?_)⟩;refine pB hT (λr er=>?_)<| pB hT (λr er=>?_)<| pB hT (λr er=>?_)<| pB hT (λr er=>?_)<| pB hT (λr er=>?_) ?_
   ·subst er;exact U9<| b8 (a:= [.str T,.int pre.length,.int dp]) (G':=G) rfl ⟨rfl,(cY hz ih hT).mono λd G1 q=>o7 q⟩
   ·subst er;exact U9<| b8 (a:= [.str T,.int pre.length,.int dp]) (G':=G) rfl ⟨rfl,(mQ hz ih hT).mono λd G1 q=>o7 q⟩
   · subst er;refine U9<| b8 (a:= [.str T,.int pre.length]) (G':=G) rfl ⟨rfl,((wj hz hT).emono λG' z=>by rw[z];exact Ap.refl).mono λd G1 q=>o7 ?_⟩;obtain⟨rfl,z,r2,hz2,rfl,e2⟩:=q;have el:(34::(tl z++[34])).length=z.length+2:=by rw[zp,za,v4];rfl
     exact⟨Ap.refl,.str z,34::(tl z++[34]),r2,by rw[el],by show 34::r=_;rw[show r=tl z++34::r2 from e2];simp,.s hz2,rfl⟩
   ·subst er;exact .inl<| b8 (a:=.tup [.bl true,.int ((pre.length:Int)+4)]) (G':=G) rfl<| o7 ⟨Ap.refl,.bl true,cT,r,rfl,rfl,.b,rfl⟩
   ·subst er;exact .inl<| b8 (a:=.tup [.bl false,.int ((pre.length:Int)+5)]) (G':=G) rfl<| o7 ⟨Ap.refl,.bl false,cF,r,rfl,rfl,.b,rfl⟩
   ·refine D9<| U9<| b8 (a:= [.str T,.int pre.length]) (G':=G) rfl ⟨rfl,((MX Pg hT).emono λG' z=>by rw[z];exact Ap.refl).mono λd G1 q=>o7 ?_⟩;obtain⟨rfl,i,r,hi,rfl,e⟩:=q;exact⟨Ap.refl,.int i,nmL i,r,rfl,e,.i hi,rfl⟩
theorem IZ(hz:T.length<=900000){G:DH}:We "NoValue" (Ap G) (U8 [.str T]) G λd G'=>Ap G G'/\okV 20 d (tl T):=by
 have Pg:T.length<=ze:=zw hz (by decide);refine X8<| J4<| W2<| U9<| b8 (a:= [.str T,.int 0,.int 1]) (G':=G) rfl ⟨rfl,(aR hz 20 21 1 (by decide) (by decide) (pre:= []) (d7:=tl T) rfl).mono λd G1 q=>?_⟩;obtain⟨j1,v,t,r,rfl,er,ok⟩:=q;refine J4<| E3<| m5<| bin_w<| b8 (a:=.int ((([]:List Nat).length:Int)+t.length)) (G':=G1) rfl<| O6 (as:= [.str T]) rfl<| (K4 Pg).mpr<| lD.mpr ⟨_,rfl,λ_=>qA (b8 rfl j1),λk=>.inl (m7.mpr ?_)⟩;have k:(([]:List Nat).length:Int)+t.length=T.length:=by rw[yC]at k;exact of_decide_eq_true k
 have lt:=congrArg zW er;rw[v4,za]at lt;have r0:r= []:=jn (by simp at k;lia);rw[r0,zX]at er;rw[er];exact D9<|.inl<| b8 (a:=v) (G':=G1) rfl<| o7 ⟨j1,ok⟩
end
theorem Kw{g:Fg}{fs:DSt->M (List D)}{U:DSt}{G G1:DH}{j:Int}{t:DSt->M Bool}{a:Fe}{caps:List (Option Nat)}{Q:DPP}(e:fs U G=some (.ok [.int j],G1))(h0:0<=j)(h1:j<=400000)(w:Wp (M9 g t a (λ_=>true) (v5 0 j.toNat) (Z2 caps U)) G1 λys G2=>Q (.ref G2.length) (G2++[.lst ys])):Wp (T5 (O7 fs) caps g t a U) G Q:=by refine wp_comp.mpr (rng1.mpr (b8 e ((rng1_int ⟨by lia,by lia⟩).mpr ⟨?_,w⟩)));show (v5 0 j.toNat).length<=ze;unfold v5;rw[zn,jE];exact zw (by lia) (show 400000<=ze by decide)
def AL(N:Nat)(d:D):Prop:=∀ {G:DH} {Q:DPP},(∀G',Ap G G'->Q (.bl true) G')->Wp (aF N [d,d]) G Q
theorem HS{N:Nat}{i:Int}:AL (N+1) (.int i):=λ{G Q} q=>t7<| w6 (X2:= [some (.int i),some (.int i)]) (G':=G) rfl<| d9.mpr<| J3<| b8 (a:=true) (G':=G) rfl ⟨λ_=>o6<| bin_w<| b8 (a:=.int i) (G':=G) rfl<| b8 (a:=.int i) (G':=G) rfl<| O8.mpr<| by rw[decide_eq_true rfl];exact o7 (q G Ap.refl),λz=>nomatch z⟩
theorem wf{N:Nat}{k:Bool}:AL (N+1) (.bl k):=λ{G Q} q=>by rcases k with _|_<;>exact gB (d:=.bl true) rfl (q G Ap.refl)
theorem CD{N:Nat}{z:Str}:AL (N+1) (.str z):=λ{G Q} q=>t7<| w6 (X2:= [some (.str z),some (.str z)]) (G':=G) rfl<| d9.mpr<| J3<| b8 (a:=true) (G':=G) rfl ⟨λ_=>o6<| bin_w<| b8 (a:=.str z) (G':=G) rfl<| b8 (a:=.str z) (G':=G) rfl<| HC.mpr ⟨z==z,rfl,by rw[beq_self_eq_true];exact o7 (q G Ap.refl)⟩,λz=>nomatch z⟩
theorem uF{N:Nat}{l:List D}(hl:l.length<=400000)(h:∀x∈l,AL N x):AL (N+1) (.tup l):=λ{G Q} q=>by
 have bg:=big;refine t7<| w6 (X2:= [some (.tup l),some (.tup l)]) (G':=G) rfl<| w6 (X2:= [some (.tup l),some (.tup l)]) (G':=G) rfl<| d9.mpr<| J3<| m5<| bin_w<| b8 (a:=.int l.length) (G':=G) rfl<| b8 (a:=.int l.length) (G':=G) rfl<| lD.mpr ?_;rw[decide_eq_true rfl];refine⟨_,rfl,λz=>(nomatch z),λ_=>m7.mpr ?_⟩;refine o6<| J5<| j9<| Kw (j:=(l.length:Int)) (G1:=G) rfl (by lia) (by lia) ?_;rw[jR];refine(VA (Ap G) (λU=>∃u,U= [u,some (.tup l),some (.tup l)]) (λ_=>.bl true) (λ_ _=>rfl) _ _ G ⟨_,rfl⟩ Ap.refl ?_).mono ?_
 · rintro d hd _ G1 ⟨u,rfl⟩ j;unfold v5 at hd;obtain⟨i,hi,rfl⟩:=zM.mp hd;have hi:=xw.mp hi;have ed:atI l (0+(i:Int))=some l[i]:=by rw[Xb];exact atI_nat (zH hi)
   exact aH ⟨_,rfl⟩ (J5<| j9<| bin_w<| b8 (a:=.tup l) (G':=G1) rfl<| b8 (a:=.int (0+(i:Int))) (G':=G1) rfl<| ix_tup.mpr ⟨_,ed,j9<| bin_w<| b8 (a:=.tup l) (G':=G1) rfl<| b8 (a:=.int (0+(i:Int))) (G':=G1) rfl<| ix_tup.mpr ⟨_,ed,m8.mpr<| Q9.mpr ⟨rfl,h _ (ZM hi) λG2 j2=>⟨j.trans j2,rfl⟩⟩⟩⟩)
 ·rintro _ G2 ⟨j,rfl⟩;refine m8.mpr ((nK (l:=v5 0 l.length) (f:=λ_=>true) j8).mpr ?_);rw[Zb.mpr λ_ _=>rfl];exact o7 (q _ (j.trans Ap.one))
theorem LG{N:Nat}{a b:D}(ha:AL N a)(hb:AL N b):AL (N+1) (.tup [a,b]):=uF (show [a,b].length<=400000 from jT rfl) λx hx=>by
 simp only[zl,zA,or_false]at hx;rcases hx with rfl|rfl
 ·exact ha
 ·exact hb
theorem wz:∀ {n N:Nat} {d:D},GV n d->3*n<=N->AL N d:=by
 intro n
 induction n with
 |zero=>intro N d h;cases h
 |succ n ih=>
   intro N d h hN;obtain⟨M,rfl⟩:∃M,N=M+3:=⟨N-3,by lia⟩
   cases h with
   |@i _ i hi=>exact HS
   |@b _ k=>exact wf
   |@s _ z hs=>exact CD
   |@l _ l hl hx=>exact LG CD<| uF hl λx hxl=>ih (hx x hxl) (by lia)
   |@r _ ps hl hp hn hx=>
     refine LG CD<| uF (by rw[zn];exact hl) λx hxl=>?_;obtain⟨p,Nx,rfl⟩:=zM.mp hxl;rcases M with _|M
     · rcases n with _|n
       ·exact absurd (hx p Nx) (by intro z;cases z)
       ·lia
     ·exact LG CD (ih (hx p Nx) (by lia))
theorem QZ{x:Str}{E:DH->Prop}{fs:DSt->M (List D)}{U:DSt}{G:DH}{K:DPP}(w:We x E (fs U) G λds G1=>ds.length<=ze/\K (.ref G1.length) (G1++[.lst ds])):We x E (lstE fs U) G K:=by unfold lstE;refine O3 (w.mono λds G1 q=>?_);rw[if_pos q.1];exact .inl (V0.mpr q.2)
theorem EZ{n:Nat}{d:D}{G:DH}{Q:DPP}(h:GV n d)(hn:n<=20)(hl:(shN n d).length<=900000)(q:∀G',Ap G G'->Q d G'):Wp (U8 [.str (ofL (shN n d))]) G Q:=by
 have bg:=big;have hz:(ofL (shN n d)).length<=ze:=by show (shN n d).length<=_;lia
 refine t7<| d9.mpr<| v7<| c6 (as:= [.str (ofL (shN n d)),.int (([]:List Nat).length:Int),.int 1]) rfl rfl<| rS (N:=21) hz h (by lia) (by lia) (pre:= []) (post:= []) (by simp) (λ_ _ e=>nomatch e) λG1 j1=>?_;refine d9.mpr<| J3<| m5<| bin_w<| b8 (a:=.int ((([]:List Nat).length:Int)+(shN n d).length)) (G':=G1) rfl<| O6 (as:= [.str (ofL (shN n d))]) rfl<| (K4 hz).mpr<| lD.mpr ?_;have e:((([]:List Nat).length:Int)+(shN n d).length)= ((ofL (shN n d)).length:Int):=by show ((0:Nat):Int)+_= ((shN n d).length:Int);simp
 rw[decide_eq_true e];exact⟨_,rfl,λz=>(nomatch z),λ_=>m7.mpr<| o6<| b8 (a:=d) (G':=G1) rfl<| o7 (q G1 j1)⟩
section
variable{n:Nat}{ns:List (D×D)}{w:Str}{ts:List Str}{tr:List Bool}{li re:D}
end
theorem sD{i j:Int}{G:DH}{Q:DPP}:Wp (gtD (.int i) (.int j)) G Q↔Q (.bl (decide (i>j))) G:=j7
section
variable{ps:List (Str×D)}{fs:List (Str×Bool×D)}{m:D}{G:DH}
end
section
variable{ps:List (Str×D)}{fs:List (Str×Bool×D)}{m s v:D}{G:DH}
end
theorem ixv{r:Nat}{l:List D}{j:Int}{a b:Fe}{U:DSt}{d:D}{G G1:DH}{Q:DPP}(ha:a U G=some (.ok (.ref r),G))(hb:b U G=some (.ok (.int j),G))(e:G[r]? =some (.lst l))(hd:atI l j=some d)(q:Q d G):Wp (binE ixD a b U) G Q:=D4 ha hb ((N6 e).mpr ⟨d,hd,q⟩)
theorem HG{r:Nat}{l:List D}{k:Int}{j:Nat}{a b:Fe}{U:DSt}{d:D}{G:DH}{S:DSt->DH->Prop}(ha:a U G=some (.ok (.ref r),G))(hb:b U G=some (.ok (.int k),G))(e:G[r]? =some (.lst l))(hj:ixN l.length k=some j)(q:S U (G.set r (.lst (l.set j d)))):Wp (P5 a b d U) G S:=MO.mpr (b8 ha (b8 hb ((BV e hj).mpr q)))
theorem uT{r:Nat}{n:Int}{G:DH}(h:M6 G r)(hn:0<n/\n<2 ^ 100):Wp (j6 [.ref r,.int n]) G λx G'=>∃k,x= .int k/\0<=k/\k<n/\∃o,G'=G.set r o/\M6 G' r:=by
 have Nw:=h.lt;obtain⟨a,b,c,e,hr,hb1,hb2⟩:=h;refine t7 (show Wp (CH [sRf r,some (.int n),none]) G _ from ?_);refine d9.mpr (J3 (m5 (bin_w (ixv (G1:=G) rfl rfl hr rfl (b8 (a:=.int 0) rfl (O8.mpr ⟨_,rfl,λ_=>?_,λ_=>?_⟩))))))
 ·refine d9.mpr (v7 (bin_w (ixv (G1:=G) rfl rfl hr rfl (b8 (a:=.int n) rfl ((P8 hn.1).mpr ?_)))));refine d9.mpr (MB.mpr (bin_w (ixv (G1:=G) rfl rfl hr rfl (b8 (a:=.int n) rfl ((MG hn).mpr (HG (k:=0) rfl rfl hr rfl ?_))))));refine b8 (a:=.rt (.int (a % n))) rfl (o7 ⟨_,rfl,xM _ (by lia),xi _ hn.1,_,rfl,a / n,b,c,e,?_,hb1,hb2⟩);exact zU Nw
 ·have b1:0<=b*b % 2147483629:=xM _ (by lia);have b2:b*b % 2147483629<2147483629:=xi _ (by lia);have hr2:(G.set r (.lst [.int a,.int (b*b % 2147483629+3),.int c,.int e]))[r]? =some (.lst [.int a,.int (b*b % 2147483629+3),.int c,.int e]):=zU Nw;refine m7.mpr (d9.mpr (MB.mpr (bin_w (bin_w (bin_w (ixv (G1:=G) rfl rfl hr rfl (ixv (G1:=G) rfl rfl hr rfl ((KB (Or.inl ⟨by lia,by lia⟩)).mpr (b8 (a:=.int 2147483629) rfl ((P8 (by decide)).mpr (b8 (a:=.int 3) rfl (J6.mpr (HG (k:=1) rfl rfl hr rfl ?_)))))))))))));refine o6 (bin_w (bin_w (bin_w (bin_w (ixv (G1:=G) rfl rfl hr2 rfl (b8 (a:=.int 69621) rfl ((KB (Or.inr ⟨by lia,by lia⟩)).mpr (b8 (a:=.int 2147483563) rfl ((P8 (by decide)).mpr (b8 (a:=.int 8) rfl ((MG (by decide)).mpr (b8 (a:=.int n) rfl ((P8 hn.1).mpr ?_)))))))))))));exact⟨_,rfl,xM _ (by lia),xi _ hn.1,_,rfl,a,b*b % 2147483629+3,c,e,hr2,by lia,by lia⟩
theorem CJ{r:Nat}{n:Int}{G:DH}(h:M6 G r)(hn:0<n/\n<2 ^ 100):Wp (j6 [.ref r,.int n]) G λx G'=>∃k,x= .int k/\0<=k/\k<n/\Fr r G G':=
 Wp.mono (uT h hn) λx G' ⟨k,e,h1,h2,o,e2,hh⟩=>⟨k,e,h1,h2,by subst e2;exact Fr.set hh⟩
theorem HK{r:Nat}{G:DH}{n:Int}{ds:List D}{Q:DPP}(h:M6 G r)(hn:(ds.length:Int)=n)(h0:0<n)(h1:n<2 ^ 100)(q:∀d∈ds,∀G',Fr r G G'->Fr r (G++[.lst ds]) G'->Q d G'):
 Wp (j6 [.ref r,.int n]) (G++[.lst ds]) λy G2=>Wp (ixD (.ref G.length) y) G2 Q:=by
 refine Wp.mono (CJ h.app ⟨h0,h1⟩) λx G2 ⟨k,e,h3,h4,f2⟩=>?_;subst e;have Ph:G.length≠r:=by have:=h.lt;lia
 have hg:=f2.at Ph (o:=.lst ds) WL;rw[N6 hg];obtain⟨d,hd,e⟩:=vL (l:=ds) h3 (by lia);exact⟨d,e,q d hd G2 ((Fr.app h).trans f2) f2⟩
theorem O4{r:Nat}{n:Int}{G:DH}{Q:DPP}(h:M6 G r)(hn:0<n/\n<2 ^ 100)(q:∀k:Int,0<=k->k<n->∀G',Fr r G G'->Q (.int k) G'):Wp (j6 [.ref r,.int n]) G Q:=
 Wp.mono (CJ h hn) λx G' ⟨k,e,h1,h2,f⟩=>by subst e;exact q k h1 h2 G' f
theorem r9{r:Nat}{n:Int}{fs:DSt->M (List D)}{U:DSt}{G:DH}{Q:DPP}(hσ:U[0]? =some (some (.ref r)))(h0:0<n)(h1:n<2 ^ 100)(w:Wp (fs U) G λds G1=>ds.length<=ze/\M6 G1 r/\(ds.length:Int)=n/\∀d∈ds,∀G',Fr r G1 G'->Q d G'):
 Wp (binE ixD (lstE fs) (D0 j6 g0 (cE (.int n))) U) G Q:=
 bin_w (O9.mpr (w.mono λds G1 q=>⟨q.1,J5 (j9 (Dv.mpr ⟨_,hσ,u0 rfl (m8.mpr (Q9.mpr ⟨rfl,HK q.2.1 q.2.2.1 h0 h1 λd hd G' f _=>q.2.2.2 d hd G' f⟩))⟩))⟩))
theorem mR{r:Nat}{G:DH}(h:M6 G r):Wp (T6 [.ref r]) G λx G'=>∃k,x= .int k/\ -1000000000000000000<=k/\k<=1000000000000000000/\Fr r G G':=by
 refine t7 (show Wp (WF [sRf r]) G _ from ?_);refine d9.mpr (J3 (m5 (bin_w (o4 (as:= [.ref r,.int 3]) rfl rfl (O4 h ⟨by decide,by decide⟩ λk h1 h2 G1 f1=>b8 (a:=.int 1) rfl (O8.mpr ⟨_,rfl,λ_=>?_,λ_=>?_⟩))))))
 ·refine o6 (bin_w (o4 (as:= [.ref r,.int (2*1000000000000000000+1)]) rfl rfl (O4 f1.2.2 ⟨by decide,by decide⟩ λk2 h3 h4 G2 f2=>b8 (a:=.int 1000000000000000000) rfl (FC.mpr ?_))));exact⟨_,rfl,by lia,by lia,f1.trans f2⟩
 ·refine m7.mpr (o6 (r9 rfl (by decide) (by decide) (b8 (a:= [.int 0,.int 1,.int (-1),.int 2,.int (-2),.int 3,.int 10,.int (-10),.int 1000000000000000000,.int (-1000000000000000000)]) (G':=G1) rfl ⟨sz,f1.2.2,rfl,λd hd G2 f2=>?_⟩)));simp only[zl,zA,or_false]at hd;have ff:=f1.trans f2;rcases hd with rfl|rfl|rfl|rfl|rfl|rfl|rfl|rfl|rfl|rfl<;>exact⟨_,rfl,by decide,by decide,ff⟩
theorem kh{r:Nat}{G:DH}{Q:DPP}(h:M6 G r)(q:∀k:Int, -1000000000000000000<=k->k<=1000000000000000000->∀G',Fr r G G'->Q (.int k) G'):Wp (T6 [.ref r]) G Q:=
 Wp.mono (mR h) λx G' ⟨k,e,h1,h2,f⟩=>by subst e;exact q k h1 h2 G' f
theorem dY{G:DH}{p:Nat}{ns:List Int}{c k:Int}(e:G[p]? =some (.rol (ns.map D.int)))(hk:0<=k/\k<64):Wp (F__law_hand [.ref p,.int c,.int k]) G λd G'=>∃r,d= .ref r/\G.length<=r/\M6 G' r/\Gr G G':=by
 have m1:E5 7919 k:=Or.inl ⟨by lia,by lia⟩;have b1:0<=c % 2147483629:=xM _ (by lia);have b2:c % 2147483629<2147483629:=xi _ (by lia);have m2:E5 (c % 2147483629+7919*k+1) 48271:=Or.inr ⟨by lia,by lia⟩;have ln:G.length<=(G++[DO.lst []]).length:=by simp
 refine t7 (show Wp (IG [sRf p,some (.int c),some (.int k),none]) G _ from ?_);refine w6 (X2:= [sRf p,some (.int c),some (.int k),some (.int 0)]) rfl ?_;refine d9.mpr (IS (A:=λfl G1=>∃w,fl= .nx [sRf p,some (.int c),some (.int k),some (.int w)]/\G1=G++[.lst []]) (m5 (bin_w (b8 (a:=.ref p) rfl (O9.mpr (m8.mpr ⟨sz,(Fq (o9 e) j8).mpr ⟨_,rfl,λ_=>?_,λ_=>?_⟩⟩))))) ?_)
 ·exact v7 (bin_w (O6 (as:= [.ref p]) rfl ((MT (o9 e)).mpr (b8 (a:=.int 2) rfl ((P8 (by decide)).mpr ⟨_,rfl,rfl⟩)))))
 ·exact m7.mpr ⟨_,rfl,rfl⟩
 ·rintro _ _ ⟨w,rfl,rfl⟩;refine o6<| O9.mpr<| u0 (x:=.int c) rfl<| j9<| bin_w<| bin_w<| bin_w<| bin_w<| D4 (x:=.int c) (y:=.int 2147483629) rfl rfl<| (P8 (by decide)).mpr<| D4 (x:=.int 7919) (y:=.int k) rfl rfl<| (KB m1).mpr<| J6.mpr<| b8 (a:=.int 1) rfl<| J6.mpr<| b8 (a:=.int 48271) rfl<| (KB m2).mpr<| b8 (a:=.int 2147483647) rfl<| (P8 (by decide)).mpr<| b8 (a:= [.int w,.int 0]) rfl ⟨sz,?_⟩;exact⟨_,rfl,ln,⟨_,_,_,_,j8,xM _ (by lia),JQ (xi _ (by lia)) (by decide)⟩,Gr.app.trans Gr.app⟩
section
variable{G:DH}{Q:DPP}
theorem ix_str{z:Str}{k:Int}(hz:z.length<=ze)(h0:0<=k)(h1:k<z.length)(q:∀c∈z.cps.toList,Q (.str ⟨#[c]⟩) G):Wp (ixD (.str z) (.int k)) G Q:=by
 have e:ixD (.str z) (.int k)=if z.length<=ze then (do
  let c <-S1 (atI z.cps.toList k)
  pure (.str ⟨#[c]⟩):M D)else M.stuck:=rfl
 rw[e,if_pos hz];simp only[m6,a8,j7];have hl:z.length=z.cps.toList.length:=rfl;obtain⟨n,rfl⟩:=xR h0;have hn:n<z.cps.toList.length:=by lia
 refine⟨z.cps.toList[n],?_,q _ (ZM _)⟩;unfold atI ixN;rw[if_pos (by omega),if_pos (by lia)];simp only[jR,ZI,zH hn]
theorem Hx{a b:Str}(h:i4 a=true)(k:i4 b=true):i4 (a++b)=true:=by
 have e:i4 (a++b)= (i4 a&&i4 b):=by unfold i4;rw[show (a++b).cps.toList=a.cps.toList++b.cps.toList from jy,List.all_append]
 rw[e,h,k];rfl
theorem Gh{c:Nat}(h:L4 c=true):i4 ⟨#[c]⟩=true:=by show [c].all L4=true;rw[jB,h];rfl
theorem FS:∀c∈("abcdefghijklmnopqrstuvwxyz" :Str).cps.toList,L4 c=true:=by decide +kernel
theorem BB(c:Nat):(⟨#[c]⟩:Str).length=1:=rfl
end
theorem GU:V7=seqS (J1 (cSt "") T0) (seqS (forS (O7 (O0 (binE addD i0 (D0 j6 g0 (binE addD (binE y3 B0 i0) A0))))) i3 LT) (retS C0)):=rfl
theorem Ld{r:Nat}{a b:Int}{z:Str}{u:Option D}{G:DH}(h:M6 G r)(hz:z.length<=1000):Wp (LT [sRf r,some (.int a),some (.int b),some (.str z),u]) G λfl G'=>Fr r G G'/\∃c,L4 c=true/\fl= .nx [sRf r,some (.int a),some (.int b),some (.str (z++⟨#[c]⟩)),u]:=by
 have bg:=big;have hA:("abcdefghijklmnopqrstuvwxyz" :Str).length=26:=by rfl
 refine v7<| bin_w<| b8 (a:=.str z) rfl<| bin_w<| b8 (a:=.str "abcdefghijklmnopqrstuvwxyz") rfl<| o4 (as:= [.ref r,.int 26]) rfl rfl<| O4 h ⟨by decide,by decide⟩ λk h0 h1 G1 f1=>ix_str (by lia) h0 (by lia) λc hc=>(R4 (by rw[BB];lia)).mpr ?_;exact⟨f1,c,FS c hc,rfl⟩
theorem gL{r:Nat}{a b:Int}:∀(items:List D) (z:Str) (u:Option D) (G:DH),M6 G r->i4 z=true->z.length+items.length<=100->
 Wp (C1 i3 LT (λ_=>true) items [sRf r,some (.int a),some (.int b),some (.str z),u]) G λfl G'=>Fr r G G'/\∃z' u',fl= .nx [sRf r,some (.int a),some (.int b),some (.str z'),u']/\z'.length=z.length+items.length/\i4 z'=true
 |[],z,u,G,h,ht,hl=>by rw[E8];exact⟨rfl,Fr.refl h,z,u,rfl,rfl,ht⟩
 |d::t,z,u,G,h,ht,hl=>by simp only[zp]at hl;rw[D8,R8];refine⟨rfl,(Ld h (by lia)).mono ?_⟩;rintro _ G1 ⟨f1,c,hc,rfl⟩;refine(gL t (z++⟨#[c]⟩) (some d) G1 f1.2.2 (Hx ht (Gh hc)) (by rw[YY,BB];lia)).mono λfl G2 q=>?_;obtain⟨q1,z',u',q2,q3,q4⟩:=q;exact⟨f1.trans q1,z',u',q2,by rw[q3,YY,BB,zp];lia,q4⟩
theorem uM{r:Nat}{a b:Int}{G:DH}(h:M6 G r)(h0:0<=a)(h1:a<=b)(h2:b<=20):Wp (R3 [.ref r,.int a,.int b]) G λx G'=>∃z,x= .str z/\z.length<=20/\Fr r G G'/\i4 z=true/\a<=z.length:=by
 refine t7 (show Wp (V7 [sRf r,some (.int a),some (.int b),none,none]) G _ from ?_);rw[GU];refine w6 (X2:= [sRf r,some (.int a),some (.int b),some (.str ""),none]) rfl<| d9.mpr<| D7.mpr<| rng1.mpr<| j9<| bin_w<| b8 (a:=.int a) rfl<| o4 (as:= [.ref r,.int (b-a+1)]) rfl rfl<| O4 h ⟨by lia,by lia⟩ λk hk0 hk1 G1 f1=>J6.mpr<| m8.mpr<| (rng1_int ⟨by lia,by lia⟩).mpr ?_;have Nm:(v5 0 (a+k).toNat).length= (a+k).toNat:=by unfold v5;rw[zn,jE]
 refine(gL (v5 0 (a+k).toNat) "" none G1 f1.2.2 rfl ?_).mono ?_
 ·rw[Nm,show (("" :Str).length)=0 from rfl];lia
 ·rintro _ G2 ⟨f2,z',u',rfl,hz,ht⟩;rw[Nm,show (("" :Str).length)=0 from rfl]at hz;exact b8 rfl (o7 ⟨z',rfl,by lia,f1.trans f2,ht,by lia⟩)
theorem aP:∃z:Str,(z.length<=20/\i4 z=true)/\∀ {G:DH} {Q:DPP},Wp (F2 (.str ("z" :Str)) (.int 20)) G Q↔Q (.str z) G:=by refine⟨yS ("z" :Str) 20,⟨by decide +kernel,by decide +kernel⟩,λ{G Q}=>?_⟩;have e:F2 (.str ("z" :Str)) (.int 20)=if yH ("z" :Str) 20 then pure (.str (yS ("z" :Str) 20))else M.stuck:=rfl;rw[e,if_pos (by decide +kernel)];exact j7
def TX(z:Str):Prop:=i4 z=true/\z.length<=20
def NM(z:Str):Prop:=TX z/\0<z.length
theorem wg{r:Nat}{G:DH}(h:M6 G r):Wp (iD [.ref r]) G λx G'=>∃z,x= .str z/\TX z/\Fr r G G':=by
 obtain⟨zz,hzz,emul⟩:=aP;refine t7 (show Wp (AF [sRf r]) G _ from ?_);refine d9.mpr<| J3<| m5<| bin_w<| o4 (as:= [.ref r,.int 3]) rfl rfl<| O4 h ⟨by decide,by decide⟩ λk hk0 hk1 G1 f1=>b8 (a:=.int 1) rfl<| O8.mpr ⟨_,rfl,λ_=>?_,λ_=>m7.mpr ?_⟩
 ·refine o6<| o4 (as:= [.ref r,.int 0,.int 20]) rfl rfl<| (uM f1.2.2 (by decide) (by decide) (by decide)).mono ?_;rintro _ G2 ⟨z,rfl,hz,f2,ht,_⟩;exact⟨z,rfl,⟨ht,by lia⟩,f1.trans f2⟩
 · refine o6<| r9 rfl (by decide) (by decide)<| u0 (x:=.str "") rfl<| u0 (x:=.str "a") rfl<| u0 (x:=.str "b") rfl<| u0 (x:=.str "aa") rfl<| u0 (x:=.str "ab") rfl<| u0 (x:=.str "ba") rfl<| u0 (x:=.str "abc") rfl<| u0 (x:=.str "z") rfl<| u0 (x:=.str "true") rfl<| j9<| D4 (x:=.str "z") (y:=.int 20) rfl rfl<| emul.mpr<| m8.mpr ⟨sz,f1.2.2,rfl,λd hd G2 f2=>?_⟩;simp only[zl,zA,or_false]at hd;have f02:=f1.trans f2;rcases hd with rfl|rfl|rfl|rfl|rfl|rfl|rfl|rfl|rfl|rfl
   all_goals first
    |exact⟨_,rfl,⟨rfl,by decide⟩,f02⟩
    |exact⟨_,rfl,⟨hzz.2,hzz.1⟩,f02⟩
theorem lO(z:Str)(d:D):∀l:List (Key×D),v8 (l.map λkv=>if kv.1= .inr z then (kv.1,d)else kv)=v8 l
 |[]=>rfl
 |(k,v)::r=>by
  have ih:=lO z d r;rw[zE];have e:(if ((k,v):Key×D).1= .inr z then (((k,v):Key×D).1,d)else (k,v)).1=k:=by split<;>rfl
  generalize (if ((k,v):Key×D).1= .inr z then (((k,v):Key×D).1,d)else (k,v))=p at e;obtain⟨k',v'⟩:=p
  cases e
  rcases k' with i|y
  ·rfl
  ·exact congrArg (JW (y :: ·)) ih
theorem BO(z:Str)(d:D):∀(l:List (Key×D)) (ss:List Str),v8 l=some ss->v8 (l++[(.inr z,d)])=some (ss++[z])
 |[],ss,h=>by cases h;rfl
 |(.inl i,v)::r,ss,h=>by exact u5 h
 |(.inr y,v)::r,ss,h=>by
  replace h:(v8 r).map (y :: ·)=some ss:=h;rcases hr:v8 r with _|t
  ·rw[hr]at h;exact u5 h
  ·
    rw[hr]at h
    cases h
    exact congrArg (JW (y :: ·)) (BO z d r t hr)
def NS(P:Str->Prop)(ss:List Str):Prop:=(∀z∈ss,P z)/\ss.Nodup
theorem IJ(z:Str):∀(l:List (Key×D)) (ss:List Str),v8 l=some ss->z∈ss->(l.any λkv=>decide (kv.1= .inr z))=true
 |[],ss,h,hz=>by cases h;cases hz
 |(.inl i,v)::r,ss,h,hz=>by exact u5 h
 |(.inr y,v)::r,ss,h,hz=>by
  replace h:(v8 r).map (y :: ·)=some ss:=h;rcases hr:v8 r with _|t
  ·rw[hr]at h;exact u5 h
  ·
    rw[hr]at h
    cases h
    rw[yN,Yg];rcases zl.mp hz with rfl|hz
    ·exact .inl (by simp)
    ·exact .inr (IJ z r t hr hz)
theorem iV{l:List (Key×D)}{ss:List Str}{z:Str}{d:D}{P:Str->Prop}(h:v8 l=some ss)(hn:NS P ss)(hz:P z):∃Pc,v8 (L8 l (.inr z) d)=some Pc/\Pc.length<=ss.length+1/\NS P Pc:=by
 unfold L8;split
 ·exact⟨ss,by rw[lO];exact h,by lia,hn⟩
 · rename_i c;refine⟨ss++[z],BO z d l ss h,by simp,λx hx=>?_,?_⟩
   · rcases jw.mp hx with hx|hx
     ·exact hn.1 x hx
     ·rw[zR.mp hx];exact hz
   ·refine List.nodup_append.mpr ⟨hn.2,by simp,λa ha b hb=>?_⟩;rw[zR]at hb;subst hb;intro e;subst e;exact c (IJ _ l ss h ha)
theorem RP{r:Nat}{l:List (Key×D)}{z:Str}{d:D}{G:DH}{R:Unit->DH->Prop}(h:G[r]? =some (.dct l))(hl:l.length<ze):Wp (F9 (.ref r) (.str z) d) G R↔R () (G.set r (.dct (L8 l (.inr z) d))):=by unfold F9;simp only[m6,S8,h,P0,SA,if_pos hl,EG]
theorem bY{l:List (Key×D)}{ss:List Str}(h:v8 l=some ss):l.length=ss.length:=(bG h).symm
theorem eX{ss:List Str}(h:ss.Nodup):(A3 ss).Pairwise LtS:=by have h1:(A3 ss).Pairwise λa b=>leS a b=true:=Jx tF GO ss;have h2:(A3 ss).Nodup:=(xG ss leS).nodup_iff.mpr h;refine(List.Pairwise.and h1 h2).imp λ{a b} q=>?_;refine xt λn=>q.2 (AI q.1 ?_);show (!decide (a.cps.toList<b.cps.toList))=true;rw[decide_eq_false (show ¬a.cps.toList<b.cps.toList from n)];rfl
theorem FX:dE=seqS (J1 (UF) P1) (seqS (forS (O7 (O0 (D0 j6 g0 (ixE (lstE (M0 c9 nF)) (D0 j6 g0 K2))))) D1 NB) (retS (I0 b9 i0))):=rfl
theorem oP{r p:Nat}{u v:Option D}{l:List (Key×D)}{ss:List Str}{G:DH}(hp:p≠r)(h:M6 G r)(e:G[p]? =some (.dct l))(hk:v8 l=some ss)(hl:ss.length<=60)(hz:NS NM ss):
 Wp (NB [sRf r,sRf p,u,v]) G λfl G'=>Fr2 r p G G'/\∃v' l' Pc,fl= .nx [sRf r,sRf p,u,v']/\G'[p]? =some (.dct l')/\v8 l'=some Pc/\Pc.length<=ss.length+1/\NS NM Pc:=by
 have bg:=big;have next:∀(z:Str) (G3:DH),NM z->Fr r G G3->Wp (J1 cBt (P5 i0 C0) [sRf r,sRf p,u,some (.str z)]) G3 λfl G'=>Fr2 r p G G'/\∃v' l' Pc,fl= .nx [sRf r,sRf p,u,v']/\G'[p]? =some (.dct l')/\v8 l'=some Pc/\Pc.length<=ss.length+1/\NS NM Pc:=by intro z G3 hzl f3;have e3:=f3.at hp e;obtain⟨Pc,k1,k2,k3⟩:=iV (z:=z) (d:=.bl true) hk hz hzl;have f4:Fr2 r p G3 (G3.set p (.dct (L8 l (.inr z) (.bl true)))):=Fr2.set hp f3.2.2;exact MB.mpr<| b8 (a:=.bl true) rfl<| MO.mpr<| b8 (a:=.ref p) rfl<| b8 (a:=.str z) rfl<| (RP e3 (by rw[bY hk];lia)).mpr ⟨f3.two.trans f4,_,_,Pc,rfl,zU (lt_of_get e3),k1,k2,k3⟩
 refine d9.mpr<| v7<| r9 rfl (by decide) (by decide)<| b8 (a:= [.str "a",.str "b",.str "ab",.str "ba",.str "abc",.str "z",.str "zz",.str "zzzzzzzz"]) (G':=G) rfl ⟨sz,h,rfl,λx hx G1 f1=>?_⟩;have hx':∃z:Str,x= .str z/\NM z:=by simp only[zl,zA,or_false]at hx;rcases hx with rfl|rfl|rfl|rfl|rfl|rfl|rfl|rfl<;>exact⟨_,rfl,⟨rfl,by decide⟩,by decide⟩
 obtain⟨z0,rfl,hz0⟩:=hx';refine d9.mpr<| J3<| m5<| bin_w<| o4 (as:= [.ref r,.int 3]) rfl rfl<| O4 f1.2.2 ⟨by decide,by decide⟩ λk hk0 hk1 G2 f2=>b8 (a:=.int 1) rfl<| O8.mpr ⟨_,rfl,λ_=>?_,λ_=>m7.mpr (next z0 G2 hz0 (f1.trans f2))⟩;refine v7<| o4 (as:= [.ref r,.int 1,.int 8]) rfl rfl<| (uM f2.2.2 (by decide) (by decide) (by decide)).mono ?_;rintro _ G3 ⟨z,rfl,hz3,f3,ht3,hl3⟩;exact next z G3 ⟨⟨ht3,by lia⟩,by lia⟩ (f1.trans (f2.trans f3))
theorem FM{r p:Nat}(hp:p≠r):∀(items:List D) (u v:Option D) (l:List (Key×D)) (ss:List Str) (G:DH),M6 G r->G[p]? =some (.dct l)->v8 l=some ss->ss.length+items.length<=60->NS NM ss->
 Wp (C1 D1 NB (λ_=>true) items [sRf r,sRf p,u,v]) G λfl G'=>Fr2 r p G G'/\∃u' v' l' Pc,fl= .nx [sRf r,sRf p,u',v']/\G'[p]? =some (.dct l')/\v8 l'=some Pc/\Pc.length<=ss.length+items.length/\NS NM Pc
 |[],u,v,l,ss,G,h,e,hk,hl,hz=>by rw[E8];exact⟨rfl,(Fr.refl h).two,u,v,l,ss,rfl,e,hk,by simp,hz⟩
 |d::t,u,v,l,ss,G,h,e,hk,hl,hz=>by simp only[zp]at hl;rw[D8,R8];refine⟨rfl,(oP (u:=some d) (v:=v) hp h e hk (by lia) hz).mono ?_⟩;rintro _ G1 ⟨f1,v1,l1,ss1,rfl,q2,q3,q4,q5⟩;refine(FM hp t (some d) v1 l1 ss1 G1 f1.2.2 q2 q3 (by lia) q5).mono ?_;rintro _ G2 ⟨f2,u',v',l',Pc,p1,p2,p3,p4,p5⟩;exact⟨f1.trans f2,u',v',l',Pc,p1,p2,p3,by simp only[zp];lia,p5⟩
theorem oW{r:Nat}{G:DH}(h:M6 G r):Wp (HD [.ref r]) G λx G'=>∃(q:Nat) (ss:List Str),x= .ref q/\q≠r/\G'[q]? =some (.lst (ss.map D.str))/\ss.length<=8/\NS NM ss/\ss.Pairwise LtS/\Fr r G G':=by
 have fd:Fr r G (G++[DO.dct []]):=Fr.app h;have hp:G.length≠r:=by have:=h.lt;lia
 refine t7 (show Wp (dE [sRf r,none,none,none]) G _ from ?_);rw[FX];refine w6 (X2:= [sRf r,some (.ref G.length),none,none]) (G':=G++[.dct []]) rfl<| d9.mpr<| D7.mpr<| rng1.mpr<| j9<| J5<| u0 (x:=.ref r) rfl<| j9<| r9 rfl (by decide) (by decide)<| b8 (a:= [.int 4,.int 9]) (G':=G++[.dct []]) rfl ⟨sz,fd.2.2,rfl,λd hd G1 f1=>?_⟩;have Qd:∃i:Int,d= .int i/\0<i/\i<=9:=by
  simp only[zl,zA,or_false]at hd;rcases hd with rfl|rfl
  ·exact⟨4,rfl,by decide,by decide⟩
  ·exact⟨9,rfl,by decide,by decide⟩
 obtain⟨i,rfl,hi1,hi2⟩:=Qd;refine m8.mpr<| Q9.mpr ⟨rfl,O4 f1.2.2 ⟨hi1,by lia⟩ λk hk0 hk1 G2 f2=>m8.mpr<| (rng1_int ⟨by lia,by lia⟩).mpr ?_⟩;have f12:=f1.trans f2;have e2:G2[G.length]? =some (.dct []):=f12.at hp j8;have Nm:(v5 0 k.toNat).length=k.toNat:=by unfold v5;rw[zn,jE]
 refine(FM hp (v5 0 k.toNat) none none [] [] G2 f2.2.2 e2 rfl (by rw[Nm];simp;lia) ⟨(λz hz=>by cases hz),List.nodup_nil⟩).mono ?_;rintro _ G3 ⟨f3,u',v',l',Pc,rfl,q2,q3,q4,q5⟩;rw[Nm]at q4;simp only[ye]at q4;refine o6<| O6 (as:= [.ref G.length]) rfl<| (AR q2 q3 (by lia)).mpr ?_;have hperm:(A3 Pc).Perm Pc:=xG Pc leS;have hr3:=f3.2.2.lt;refine o7 ⟨G3.length,A3 Pc,rfl,by lia,j8,by rw[hperm.length_eq];lia,⟨λz hz=>q5.1 z (hperm.mem_iff.mp hz),hperm.nodup_iff.mpr q5.2⟩,eX q5.2,?_⟩;have f02:=fd.trans f12;refine Fr.trans ⟨zw f02.1 f3.1,λj hj hl=>?_,f3.2.2⟩ (Fr.app f3.2.2);have h02:=f02.1;have hfd:=fd.1;rw[f3.2.1 j hj (by lia) (by lia),f02.2.1 j hj hl]
theorem GB.up{b n:Nat}{d:D}(h:GB b n d):∀m,n<=m->GB b m d/\shN m d=shN n d:=by
 induction h with
 |@i n i hi=>intro m hm;obtain⟨k,rfl⟩:∃k,m=k+1:=⟨m-1,by lia⟩;exact⟨.i hi,rfl⟩
 |@b n k=>intro m hm;obtain⟨k,rfl⟩:∃k,m=k+1:=⟨m-1,by lia⟩;exact⟨.b,rfl⟩
 |@s n z hs=>intro m hm;obtain⟨k,rfl⟩:∃k,m=k+1:=⟨m-1,by lia⟩;exact⟨.s hs,rfl⟩
 |@l n l hl hx ih=>
   intro m hm;obtain⟨k,rfl⟩:∃k,m=k+1:=⟨m-1,by lia⟩;refine⟨.l hl λx hxl=>(ih x hxl k (by lia)).1,?_⟩;rw[F3,F3,Zn λx hxl=>(ih x hxl k (by lia)).2]
 |@r n ps hl hp hn hx ih=>
   intro m hm;obtain⟨k,rfl⟩:∃k,m=k+1:=⟨m-1,by lia⟩;refine⟨.r hl hp hn λp Nx=>(ih p Nx k (by lia)).1,?_⟩;rw[A4,A4,Zn (f:=shQ (shN k)) (g:=shQ (shN n)) λx hxl=>?_];obtain⟨p,Nx,rfl⟩:=zM.mp hxl;show tl p.1++[58,32]++shN k p.2=tl p.1++[58,32]++shN n p.2;rw[(ih p Nx k (by lia)).2]
mutual
def lnD:D->Nat
 | .tup l=>2+lnL l
 | .str z=>z.length+2
 | .int i=>(nmL i).length
 | .bl _=>5
 | .ref _=>1
 | .fn _=>1
 | .ty _=>1
 | .non=>1
def lnL:List D->Nat
 |[]=>0
 |d::r=>lnD d+2+lnL r
end
theorem rE{l:List D}:lnD (.tup [.str M3,.tup l])=lnL l+14:=by simp only[lnD,lnL,show M3.length=4 from rfl];lia
theorem bD{l:List D}:lnD (.tup [.str Z4,.tup l])=lnL l+16:=by simp only[lnD,lnL,show Z4.length=6 from rfl];lia
theorem NI{p:Str×D}:lnD (prD p)=p.1.length+lnD p.2+8:=by unfold prD;simp only[lnD,lnL];lia
theorem sH{C:Nat}:∀ {l:List D},(∀x∈l,lnD x<=C)->lnL l<=l.length*(C+2)
 |[],_=>by simp[lnL]
 |a::r,h=>by have:=sH λx hx=>h x (zo _ hx);have:=h a (zh ..);rw[zp,Nat.succ_mul,lnL];lia
theorem pH{f:D->List Nat}:∀ {l:List D},(∀x∈l,(f x).length<=lnD x)->(glL [44,32] (l.map f)).length<=lnL l
 |[],_=>by simp[glL,lnL]
 |a::r,h=>by have:=pH λx hx=>h x (zo _ hx);have:=h a (zh ..);rw[zE,glL,lnL,za,za];simp;lia
theorem qK(L:List (List Nat)):(K7 [44,32] L).length<=(glL [44,32] L).length:=by
 rcases L with _|⟨a,r⟩
 ·exact zk _
 ·rw[K7,glL];simp;lia
theorem GB.ln{b n:Nat}{d:D}(h:GB b n d):(shN n d).length<=lnD d:=by
 induction h with
 |i h=>rw[KA,lnD];exact zk _
 |@b _ k=>rcases k with _|_<;>(rw[lnD];exact jT rfl)
 |s h=>rw[OA,lnD,zp,za,v4];exact zk _
 |@l n l hl _ ih=>
   rw[F3,rE];have h1:=qK (l.map (shN n));have h2:=pH ih;simp only[zp,za,ye];lia
 |@r n ps hl hp hn _ ih=>
   rw[A4,bD];have h1:=qK ((ps.map prD).map (shQ (shN n)));have h2:=pH (f:=shQ (shN n)) (l:=ps.map prD) λx hx=>by obtain⟨p,Nx,rfl⟩:=zM.mp hx;have:=ih p Nx;rw[NI];show (tl p.1++[58,32]++shN n p.2).length<=_;rw[za,za,v4];simp;lia
   simp only[zp,za,ye];lia
structure Dr(b n B:Nat)(d:D):Prop where
 gv:GB b n d
 ln:lnD d<=B
abbrev B18:Nat:=1000000000000000000
theorem GB.le{b c n:Nat}{d:D}(h:GB b n d)(hb:b<=c):GB c n d:=by
 induction h with
 |i h=>exact .i (zw h hb)
 |b=>exact .b
 |s h=>exact .s h
 |l hl _ ih=>exact .l hl ih
 |r hl hp hn _ ih=>exact .r hl hp hn ih
theorem Dr.up{b n m B C:Nat}{d:D}(h:Dr b n B d)(hn:n<=m)(hb:B<=C):Dr b m C d:=⟨(h.gv.up m hn).1,zw h.ln hb⟩
theorem Dr.l{b n B k:Nat}{l:List D}(hk:k<=100)(hl:l.length<=k)(h:∀x∈l,Dr b n B x):Dr b (n+1) (16+k*(B+30)) (.tup [.str M3,.tup l]):=by refine⟨.l (by lia) λx hx=>(h x hx).gv,?_⟩;have h1:=sH λx hx=>(h x hx).ln;have h2:=Nat.mul_le_mul hl (show B+2<=B+30 by lia);rw[rE];lia
theorem Dr.r{b n B k:Nat}{ps:List (Str×D)}(hk:k<=100)(hl:ps.length<=k)(hp:(ps.map (·.1)).Pairwise LtS)(hn:∀p∈ps,(TxL p.1/\tl p.1≠ [])/\p.1.length<=20)(h:∀p∈ps,Dr b n B p.2):Dr b (n+1) (16+k*(B+30)) (.tup [.str Z4,.tup (ps.map prD)]):=by
 refine⟨.r (by lia) hp (λp Nx=>(hn p Nx).1) λp Nx=>(h p Nx).gv,?_⟩;have h1:=sH (l:=ps.map prD) (C:=B+28) λx hx=>by obtain⟨p,Nx,rfl⟩:=zM.mp hx;have:=(h p Nx).ln;have:=(hn p Nx).2;rw[NI];lia
 rw[zn]at h1;have h2:=Nat.mul_le_mul_right (B+30) hl;rw[bD];lia
theorem Dr.i{b n:Nat}{i:Int}(h:i.natAbs<=b)(hb:b<=d5):Dr b (n+1) 50 (.int i):=⟨.i h,by rw[lnD];have:=x9 (zw h hb);lia⟩
theorem Dr.b{b n:Nat}{k:Bool}:Dr b (n+1) 50 (.bl k):=⟨.b,by rw[lnD];decide⟩
theorem Dr.s{b n:Nat}{z:Str}(h:TxL z)(hz:z.length<=20):Dr b (n+1) 50 (.str z):=⟨.s h,by rw[lnD];lia⟩
theorem SJ{z:Str}(h:TX z):TxL z:=⟨λc hc=>by have:=Zb.mp h.1 c hc;unfold L4 at this;rw[Zh,decide_eq_true_iff,decide_eq_true_iff]at this;exact this,zw h.2 (by decide)⟩
theorem wv{z:Str}(h:NM z):(TxL z/\tl z≠ [])/\z.length<=20:=⟨⟨SJ h.1,λk=>by have:=h.2;rw[<-v4,k]at this;exact absurd this (by decide)⟩,h.1.2⟩
theorem rO{k:Int}{l:List D}{G:DH}(h:l.all B5=true):∃b,DL.inB (.int k) (.tup l) G=some b:=by unfold DL.inB;exact⟨_,if_pos (by rw[h];rfl)⟩
theorem kA{g:Fg}{e:Fe}{ck:DH->Bool}(J:DH->Prop)(S:DSt->Prop)(rel:D->D->Prop)(Pw:∀G,J G->ck G=true):∀(items:List D) (U:DSt) (G:DH),S U->J G->
 (∀d∈items,∀ U G,S U->J G->Wp (g d U) G λWY G1=>G1=G/\S WY/\Wp (e WY) G λy G3=>J G3/\rel d y)->
 Wp (M9 g Z6 e ck items U) G λys G'=>J G'/\∃zs:List (D×D),zs.map (·.1)=items/\ys=zs.map (·.2)/\∀z∈zs,rel z.1 z.2
 |[],U,G,s,j,_=>cN.mpr ⟨Pw G j,j, [],rfl,rfl,λ_ h=>nomatch h⟩
 |d::r,U,G,s,j,step=>by
   refine bN.mpr ⟨Pw G j,(step d (zh ..) U G s j).mono λWY G1 ⟨e1,s1,w1⟩=>?_⟩;subst e1;refine b8 (a:=true) rfl ?_;rw[if_pos rfl];refine w1.mono λy G3 ⟨j3,py⟩=>?_;refine(kA J S rel Pw r WY G3 s1 j3 λd hd=>step d (zo _ hd)).mono λys G4 ⟨j4,zs,h1,h2,h3⟩=>⟨j4,(d,y)::zs,by rw[zE,h1],by rw[zE,h2],λz hz=>?_⟩;rcases zl.mp hz with rfl|hz
   ·exact py
   ·exact h3 z hz
theorem eJ(R:List D->M D):S7 R=seqS (J1 (D0 j6 g0 uA) D1) (asQ (binE addD (ixE g0 U2) A0) (P5 g0 U2) (seqS (ifS VT (VAb R) nextS) VC)):=rfl
def Bd:Nat->Nat
 |0=>0
 |1=>50
 |k+2=>16+8*(Bd (k+1)+30)
theorem IQ:∀k,1<=k->50<=Bd k
 |0,h=>by lia
 |1,_=>zk _
 |k+2,_=>by show 50<=16+8*(Bd (k+1)+30);lia
section
variable{r:Nat}{G:DH}
theorem pJ{deep kind:Int}{u:Option D}{n:Nat}(h:M6 G r):Wp (VC [sRf r,some (.int deep),some (.int kind),u]) G λfl G'=>∃d,fl= .rt d/\Dr B18 (n+1) 50 d/\Fr r G G':=by
 obtain⟨b1,h1⟩:=rO (k:=kind) (l:= [.int 0,.int 3,.int 6]) (G:=G) rfl;obtain⟨b2,h2⟩:=rO (k:=kind) (l:= [.int 1,.int 4,.int 7]) (G:=G) rfl;refine d9.mpr<| J3<| m5<| bin_w<| b8 (a:=.int kind) (G':=G) rfl<| b8 (a:=.tup [.int 0,.int 3,.int 6]) (G':=G) rfl<| dM.mpr ⟨b1,h1,_,rfl,λ_=>o6<| o4 (as:= [.ref r]) rfl rfl<| kh h λk hk0 hk1 G1 f1=>⟨_,rfl,.i (by lia) (by decide),f1⟩,λ_=>m7.mpr ?_⟩;refine d9.mpr<| J3<| m5<| bin_w<| b8 (a:=.int kind) (G':=G) rfl<| b8 (a:=.tup [.int 1,.int 4,.int 7]) (G':=G) rfl<| dM.mpr ⟨b2,h2,_,rfl,λ_=>o6<| o4 (as:= [.ref r]) rfl rfl<| (wg h).mono ?_,λ_=>m7.mpr ?_⟩
 ·rintro _ G1 ⟨z,rfl,tz,f1⟩;exact⟨_,rfl,.s (SJ tz) tz.2,f1⟩
 ·refine o6<| r9 rfl (by decide) (by decide)<| b8 (a:= [.bl false,.bl true]) (G':=G) rfl ⟨sz,h,rfl,λd hd G1 f1=>?_⟩;simp only[zl,zA,or_false]at hd;rcases hd with rfl|rfl<;>exact⟨_,rfl,.b,f1⟩
theorem VS{R:List D->M D}{deep kind:Int}{u:Option D}{n:Nat}(h:M6 G r)(hR:∀G1,M6 G1 r->Wp (R [.ref r,.int (deep-1)]) G1 λx G2=>Dr B18 (n+1) (Bd (n+1)) x/\Fr r G1 G2):
 Wp (VAb R [sRf r,some (.int deep),some (.int kind),u]) G λfl G'=>∃d,fl= .rt d/\Dr B18 (n+2) (Bd (n+2)) d/\Fr r G G':=by
 have bg:=big;refine d9.mpr<| J3<| m5<| bin_w<| b8 (a:=.int kind) (G':=G) rfl<| b8 (a:=.int 6) (G':=G) rfl<| O8.mpr ⟨_,rfl,λ_=>?_,λ_=>m7.mpr ?_⟩
 · refine d9.mpr<| v7<| J5<| u0 (x:=.ref r) rfl<| j9<| r9 rfl (by decide) (by decide)<| b8 (a:= [.int 4,.int 9]) (G':=G) rfl ⟨sz,h,rfl,λd hd G1 f1=>?_⟩;have Qd:∃i:Int,d= .int i/\0<i/\i<=9:=by
    simp only[zl,zA,or_false]at hd;rcases hd with rfl|rfl
    ·exact⟨4,rfl,by decide,by decide⟩
    ·exact⟨9,rfl,by decide,by decide⟩
   obtain⟨i,rfl,hi1,hi2⟩:=Qd;refine m8.mpr<| Q9.mpr ⟨rfl,?_⟩;refine O4 f1.2.2 ⟨hi1,by lia⟩ λm hm0 hm1 G2 f2=>?_;have f12:=f1.trans f2;refine o6<| T3.mpr<| u0 (x:=.str M3) rfl<| j9<| J5<| j9<| nV (j:=m) (G1:=G2) rfl hm0 (by lia)<| (kA (Fr r G) (λU=>∃u,U= [u,some (.int deep),sRf r]) (λ_ y=>Dr B18 (n+1) (Bd (n+1)) y) (λ_ _=>rfl) _ _ G2 ⟨_,rfl⟩ f12 ?_).mono ?_
   ·rintro d hd _ G3 ⟨v,rfl⟩ j;exact R8.mpr ⟨rfl,⟨_,rfl⟩,o4 (as:= [.ref r,.int (deep-1)]) rfl rfl<| (hR G3 j.2.2).mono λx G4 ⟨dx,f4⟩=>⟨j.trans f4,dx⟩⟩
   · rintro _ G3 ⟨f3,zs,e1,rfl,hz⟩;have ln:zs.length<=8:=by
      have:=congrArg zW e1;unfold v5 at this;rw[zn,zn,jE]at this;lia
     refine m8.mpr<| (W9 j8).mpr<| m8.mpr ⟨sz,_,rfl,?_,f3.trans (Fr.app f3.2.2)⟩;refine(Dr.l (k:=8) (B:=Bd (n+1)) (by decide) (by rw[zn];exact ln) λx hx=>?_).up (zk _) (by show _<=16+8*(Bd (n+1)+30);lia);obtain⟨z,hzm,rfl⟩:=zM.mp hx;exact hz z hzm
 · refine o6<| T3.mpr<| u0 (x:=.str Z4) rfl<| j9<| J5<| j9<| wp_comp.mpr<| HA.mpr<| o4 (as:= [.ref r]) rfl rfl<| (oW h).mono ?_;rintro _ G1 ⟨q,ss,rfl,hq,e1,hl,hs,Nw,f1⟩;refine(gC e1).mpr ⟨by show (ss.map D.str).length<=_;rw[zn];lia,(kA (Fr r G1) (λU=>∃u,U= [u,some (.int deep),sRf r]) (λx y=>∃nm v,x= .str nm/\y=prD (nm,v)/\Dr B18 (n+1) (Bd (n+1)) v) (λG' j=>?_) _ _ G1 ⟨_,rfl⟩ (Fr.refl f1.2.2) ?_).mono ?_⟩
   ·have:=j.at hq e1;show ckO q (.lst (ss.map D.str)) G'=true;unfold ckO;rw[this];simp
   ·rintro d hd _ G3 ⟨v,rfl⟩ j;obtain⟨nm,_,rfl⟩:=zM.mp hd;exact R8.mpr ⟨rfl,⟨_,rfl⟩,T3.mpr<| u0 (x:=.str nm) rfl<| j9<| o4 (as:= [.ref r,.int (deep-1)]) rfl rfl<| (hR G3 j.2.2).mono λx G4 ⟨dx,f4⟩=>m8.mpr ⟨sz,j.trans f4,nm,x,rfl,rfl,dx⟩⟩
   · rintro _ G3 ⟨f3,zs,e2,rfl,hz⟩;obtain⟨ps,ep,en,hd⟩:∃ps:List (Str×D),zs.map (·.2)=ps.map prD/\ps.map (·.1)=ss/\∀p∈ps,Dr B18 (n+1) (Bd (n+1)) p.2:=by
      clear Nw hs hl e1
      induction zs generalizing ss with
      |nil=>
        rcases ss with _|⟨_,_⟩
        ·exact⟨[],rfl,rfl,λ_ h=>nomatch h⟩
        ·cases e2
      |cons z t ih=>
        rcases ss with _|⟨a,b⟩
        ·cases e2
        · obtain⟨nm,v,k1,k2,k3⟩:=hz z (zh ..);have e3:=zi e2;obtain⟨ps,h1,h2,h3⟩:=ih b e3.2 λz Pg=>hz z (zo _ Pg);have ea:nm=a:=by have:=k1.symm.trans e3.1;cases this;rfl
          subst ea;refine⟨(nm,v)::ps,by rw[zE,zE,h1,k2],by rw[zE,h2],λp hp=>?_⟩;rcases zl.mp hp with rfl|hp
          ·exact k3
          ·exact h3 p hp
     refine m8.mpr<| (W9 j8).mpr<| m8.mpr ⟨sz,_,rfl,?_,(f1.trans f3).trans (Fr.app f3.2.2)⟩;rw[ep];refine(Dr.r (k:=8) (B:=Bd (n+1)) (by decide) (by rw[<-en,zn]at hl;exact hl) (by rw[en];exact Nw) (λp hp=>wv (hs.1 p.1 (by rw[<-en];exact Zm hp))) hd).up (zk _) (by show _<=16+8*(Bd (n+1)+30);lia)
end
theorem TJ{r:Nat}{G:DH}{kind:Int}{s1 s3:Option D}{Q:Fl->DH->Prop}(h:M6 G r)(q:∀G',Fr r G G'->Q (.nx [sRf r,s1,some (.int kind),s3]) G'):Wp (J1 (binE addD (ixE g0 U2) A0) (P5 g0 U2) [sRf r,s1,some (.int kind),s3]) G Q:=by have Nw:=h.lt;obtain⟨a,b,c,e,hr,hb1,hb2⟩:=h;refine MB.mpr (bin_w (ixv (G1:=G) rfl rfl hr rfl (b8 (a:=.int 1) rfl (J6.mpr (HG (k:=3) rfl rfl hr rfl ?_)))));exact q _ (Fr.set ⟨a,b,c,e+1,zU Nw,hb1,hb2⟩)
theorem pN{r:Nat}{G:DH}{deep kind:Int}{s3:Option D}{Q:Bool->DH->Prop}(h:M6 G r)(q:∀b,(b=true->1<deep)->Q b G):Wp (VT [sRf r,some (.int deep),some (.int kind),s3]) G Q:=by obtain⟨a,b,c,e,hr,hb1,hb2⟩:=h;refine D6<| m5<| bin_w<| b8 (a:=.int kind) (G':=G) rfl<| b8 (a:=.int 5) (G':=G) rfl<| sD.mpr ⟨_,rfl,λ_=>?_,λ_=>q _ λz=>nomatch z⟩;refine D6<| m5<| bin_w<| b8 (a:=.int deep) (G':=G) rfl<| b8 (a:=.int 1) (G':=G) rfl<| sD.mpr ⟨_,rfl,λhd=>?_,λ_=>q _ λz=>nomatch z⟩;refine m5<| bin_w<| ixv (G1:=G) rfl rfl hr rfl<| b8 (a:=.int 20) (G':=G) rfl<| t9.mpr ⟨_,rfl,q _ λ_=>?_⟩;exact of_decide_eq_true hd
theorem fT{r:Nat}:∀(n N:Nat) (deep:Int) (G:DH),deep<=n+1->n+1<=N->M6 G r->Wp (S6 N [.ref r,.int deep]) G λx G'=>Dr B18 (n+1) (Bd (n+1)) x/\Fr r G G':=by
 intro n
 induction n with
 |zero=>
   intro N deep G hd hN h;obtain⟨M,rfl⟩:∃M,N=M+1:=⟨N-1,by lia⟩;refine t7 (show Wp (S7 (S6 M) [sRf r,some (.int deep),none,none]) G _ from ?_);rw[eJ];refine d9.mpr<| v7<| o4 (as:= [.ref r,.int 8]) rfl rfl<| O4 h ⟨by decide,by decide⟩ λk hk0 hk1 G1 f1=>d9.mpr<| TJ f1.2.2 λG2 f2=>d9.mpr<| J3<| pN f2.2.2 λb hb=>⟨λz=>absurd (hb z) (by lia),λ_=>m7.mpr<| (pJ (n:=0) f2.2.2).mono ?_⟩;rintro _ G3 ⟨d,rfl,hd,f3⟩;exact o7 ⟨hd,(f1.trans f2).trans f3⟩
 |succ n ih=>
   intro N deep G hd hN h;obtain⟨M,rfl⟩:∃M,N=M+1:=⟨N-1,by lia⟩;refine t7 (show Wp (S7 (S6 M) [sRf r,some (.int deep),none,none]) G _ from ?_);rw[eJ];refine d9.mpr<| v7<| o4 (as:= [.ref r,.int 8]) rfl rfl<| O4 h ⟨by decide,by decide⟩ λk hk0 hk1 G1 f1=>d9.mpr<| TJ f1.2.2 λG2 f2=>d9.mpr<| J3<| pN f2.2.2 λb hb=>⟨λ_=>?_,λ_=>m7.mpr<| (pJ (n:=0) f2.2.2).mono ?_⟩
   ·refine(VS (n:=n) f2.2.2 λG3 h3=>ih M (deep-1) G3 (by lia) (by lia) h3).mono ?_;rintro _ G3 ⟨d,rfl,hd,f3⟩;exact o7 ⟨hd,(f1.trans f2).trans f3⟩
   ·rintro _ G3 ⟨d,rfl,hd,f3⟩;exact o7 ⟨hd.up (by lia) (IQ _ (by lia)),(f1.trans f2).trans f3⟩
theorem bd5:Bd 5<=360000:=by decide +kernel
theorem iI:∀z:Str,z= "a"\/z= ""->TxL z:=by
 rintro z (rfl|rfl)
 ·exact⟨by decide +kernel,by decide +kernel⟩
 ·exact⟨by decide +kernel,by decide +kernel⟩
theorem KM{r:Nat}{G:DH}(h:M6 G r):Wp (R6 [.ref r]) G λx G'=>Dr B18 1 50 x/\Fr r G G':=by
 refine t7 (show Wp (KH [sRf r]) G _ from ?_);refine o6<| r9 rfl (by decide) (by decide)<| b8 (a:= [.int 0,.int 1,.int (-1),.str "a",.str "",.bl true,.bl false,.int 7]) (G':=G) rfl ⟨sz,h,rfl,λd hd G1 f1=>o7 ⟨?_,f1⟩⟩;have si:∀i:Int, -10<=i->i<=10->Dr B18 1 50 (.int i):=λi h1 h2=>.i (by lia) (by decide);simp only[zl,zA,or_false]at hd;rcases hd with rfl|rfl|rfl|rfl|rfl|rfl|rfl|rfl
 ·exact si _ (by decide) (by decide)
 ·exact si _ (by decide) (by decide)
 ·exact si _ (by decide) (by decide)
 ·exact .s (iI _ (.inl rfl)) (by decide +kernel)
 ·exact .s (iI _ (.inr rfl)) (by decide +kernel)
 ·exact .b
 ·exact .b
 ·exact si _ (by decide) (by decide)
theorem IL{G:DH}{p:Nat}{l:List D}{Q:DPP}(e:G[p]? =some (.lst l)):Wp (lenF [.ref p]) G Q↔Q (.int l.length) G:=by unfold lenF;simp only[m6,S8,e,P0,j7]
theorem cH{z:Str}{k c:Nat}{G:DH}{Q:DPP}(hz:z.length<=ze)(h:z.cps.toList[k]? =some c)(q:Q (.str ⟨#[c]⟩) G):Wp (ixD (.str z) (.int (k:Int))) G Q:=by
 have e:ixD (.str z) (.int (k:Int))=if z.length<=ze then (do
  let c <-S1 (atI z.cps.toList (k:Int))
  pure (.str ⟨#[c]⟩):M D)else M.stuck:=rfl
 rw[e,if_pos hz];simp only[m6,a8,j7];refine⟨c,?_,q⟩;have hn:k<z.cps.toList.length:=(jG.mp h).1;unfold atI ixN;rw[if_pos (by omega),if_pos (by lia)];simp only[jR,ZI,h]
def nmK(k:Nat):Str:=ofL [97+k / 3,97+k % 3]
theorem mW{a b:Nat}(h:a<b):LtS (nmK a) (nmK b):=by
 show [97+a / 3,97+a % 3] < [97+b / 3,97+b % 3];rcases Yd (a / 3) (b / 3)with z|z
 ·exact xl.mpr (.inl (by lia))
 · have:a / 3=b / 3:=by lia
   refine xl.mpr (.inr ⟨by lia,xl.mpr (.inl (by lia))⟩)
theorem VQ{k:Nat}(h:k<=70):TxL (nmK k)/\tl (nmK k)≠ []:=by
 refine⟨⟨λc hc=>?_,?_⟩,?_⟩
 ·have:c∈ [97+k / 3,97+k % 3]:=hc;simp only[zl,zA,or_false]at this;rcases this with rfl|rfl<;>constructor<;>lia
 ·show (2:Nat)<=900000;decide
 ·exact xB _ _
theorem vT:∀k,k<26->("abcdefghijklmnopqrstuvwxyz" :Str).cps.toList[k]? =some (97+k):=by decide +kernel
theorem Mb:∀k,k<3->("abc" :Str).cps.toList[k]? =some (97+k):=by decide +kernel
def gK:D->Str
 | .int i=>nmK i.toNat
 |_=> ""
theorem sJ(g:D->Str)(P:D->Prop):∀zs:List (D×D),(∀z∈zs,∃v,z.2=prD (g z.1,v)/\P v)->∃ps:List (Str×D),zs.map (·.2)=ps.map prD/\ps.map (·.1)= (zs.map (·.1)).map g/\∀p∈ps,P p.2
 |[],_=>⟨[],rfl,rfl,λ_ h=>nomatch h⟩
 |z::t,h=>by
   obtain⟨v,e,hv⟩:=h z (zh ..);obtain⟨ps,h1,h2,h3⟩:=sJ g P t λz hz=>h z (zo _ hz);refine⟨(g z.1,v)::ps,by rw[zE,zE,h1,e],by rw[zE,h2,zE,zE],λp hp=>?_⟩;rcases zl.mp hp with rfl|hp
   ·exact hv
   ·exact h3 p hp
theorem wR:lE=seqS (J1 (D0 j6 g0 K2) P1) (seqS WA (gdQ (tBn eqD i0 K0) (N0 (cSt "list") (I0 P4 B0)) (asQ (cSt "abcdefghijklmnopqrstuvwxyz") T0 WB))):=rfl
section
variable{r:Nat}{G:DH}
theorem mV{kind:Int}{s2 s3:Option D}(h:M6 G r):Wp (WA [sRf r,some (.int kind),s2,s3]) G λfl G'=>Fr r G G'/\∃q l,fl= .nx [sRf r,some (.int kind),sRf q,s3]/\G'[q]? =some (.lst l)/\q≠r/\l.length<=58/\∀x∈l,Dr B18 1 50 x:=by
 have bg:=big;refine v7<| wp_comp.mpr<| rng1.mpr<| j9<| bin_w<| b8 (a:=.int 9) (G':=G) rfl<| o4 (as:= [.ref r,.int 50]) rfl rfl<| O4 h ⟨by decide,by decide⟩ λk hk0 hk1 G1 f1=>J6.mpr<| m8.mpr<| (rng1_int ⟨by lia,by lia⟩).mpr ?_;have ln:(v5 0 (9+k).toNat).length= (9+k).toNat:=by unfold v5;rw[zn,jE]
 refine⟨by show (v5 0 (9+k).toNat).length<=_;rw[ln];lia,(kA (Fr r G) (λU=>∃u,U= [u,sRf r]) (λ_ y=>Dr B18 1 50 y) (λ_ _=>rfl) _ _ G1 ⟨_,rfl⟩ f1 ?_).mono ?_⟩
 ·rintro d hd _ G3 ⟨v,rfl⟩ j;exact R8.mpr ⟨rfl,⟨_,rfl⟩,o4 (as:= [.ref r]) rfl rfl<| (KM j.2.2).mono λx G4 ⟨dx,f4⟩=>⟨j.trans f4,dx⟩⟩
 · rintro _ G3 ⟨f3,zs,e1,rfl,hz⟩;have hr3:=f3.2.2.lt;refine⟨f3.trans (Fr.app f3.2.2),_,_,rfl,j8,by lia,?_,λx hx=>?_⟩
   ·have:=congrArg zW e1;rw[zn,ln]at this;rw[zn];lia
   ·obtain⟨z,hzm,rfl⟩:=zM.mp hx;exact hz z hzm
theorem sT{s0 s1:Option D}{q:Nat}{l:List D}(h:M6 G r)(e:G[q]? =some (.lst l))(hl:l.length<=58)(hx:∀x∈l,Dr B18 1 50 x):Wp (WB [s0,s1,sRf q,some (.str "abcdefghijklmnopqrstuvwxyz")]) G λfl G'=>∃d,fl= .rt d/\Dr B18 2 5000 d/\Fr r G G':=by
 have bg:=big;have z26:("abcdefghijklmnopqrstuvwxyz" :Str).length=26:=rfl;have z3:("abc" :Str).length=3:=rfl;refine o6<| T3.mpr<| u0 (x:=.str Z4) rfl<| j9<| J5<| j9<| wp_comp.mpr<| rng1.mpr<| j9<| O6 (as:= [.ref q]) rfl<| (IL e).mpr<| m8.mpr<| (rng1_int ⟨by lia,by lia⟩).mpr ?_;rw[jR];have ln:(v5 0 l.length).length=l.length:=by unfold v5;rw[zn,jE]
 refine⟨by show (v5 0 l.length).length<=_;rw[ln];lia,(kA (λG'=>G'=G) (λU=>∃u,U= [u,some (.str "abcdefghijklmnopqrstuvwxyz"),sRf q]) (λx y=>∃v,y=prD (gK x,v)/\Dr B18 1 50 v) (λ_ _=>rfl) _ _ G ⟨_,rfl⟩ rfl ?_).mono ?_⟩
 · rintro d hd _ G3 ⟨v,rfl⟩ j;subst j;unfold v5 at hd;obtain⟨i,hi,rfl⟩:=zM.mp hd;have hi:=xw.mp hi;have e3:((0:Int)+(i:Int)) / 3= ((i / 3:Nat):Int):=by lia
   have e4:((0:Int)+(i:Int)) % 3= ((i % 3:Nat):Int):=by lia
   have eg:gK (.int (0+(i:Int)))=nmK i:=by show nmK (0+(i:Int)).toNat=_;rw[Xb,jR]
   have ed:atI l (0+(i:Int))=some l[i]:=by rw[Xb];exact atI_nat (zH hi)
   refine R8.mpr ⟨rfl,⟨_,rfl⟩,T3.mpr<| j9<| bin_w<| bin_w<| b8 (a:=.str "abcdefghijklmnopqrstuvwxyz") (G':=G3) rfl<| D4 (x:=.int (0+(i:Int))) (y:=.int 3) rfl rfl<| (MG ⟨by decide,by decide⟩).mpr ?_⟩;rw[e3];refine cH (c:=97+i / 3) (by lia) (vT _ (by lia))<| bin_w<| b8 (a:=.str "abc") (G':=G3) rfl<| D4 (x:=.int (0+(i:Int))) (y:=.int 3) rfl rfl<| (P8 (by decide)).mpr ?_;rw[e4];refine cH (c:=97+i % 3) (by lia) (Mb _ (by lia))<| (R4 (by rw[BB,BB];lia)).mpr<| j9<| ixv (G1:=G3) rfl rfl e ed<| m8.mpr ⟨sz,rfl,l[i],?_,hx _ (ZM hi)⟩;rw[eg];rfl
 · rintro _ G3 ⟨rfl,zs,e1,rfl,hz⟩;obtain⟨ps,ep,en,hd⟩:=sJ gK (Dr B18 1 50) zs λz Pg=>hz z Pg;rw[e1]at en;have en2:ps.map (·.1)= (jJ l.length).map nmK:=by
    rw[en];unfold v5;rw[Zq];refine Zn λi _=>?_;show nmK (0+(i:Int)).toNat=_;rw[Xb,jR]
   have lp:ps.length=l.length:=by have:=congrArg zW en2;rw[zn,zn,jE]at this;exact this
   refine m8.mpr<| (W9 j8).mpr<| m8.mpr ⟨sz,_,rfl,?_,Fr.app h⟩;rw[ep];refine(Dr.r (n:=1) (k:=58) (B:=50) (by decide) (by lia) ?_ (λp hp=>?_) hd).up (zk _) (by decide)
   ·rw[en2];exact List.pairwise_map.mpr (List.pairwise_lt_range.imp λh=>mW h)
   ·have:p.1∈ps.map (·.1):=Zm hp;rw[en2]at this;obtain⟨i,hi,ei⟩:=zM.mp this;rw[<-ei];exact⟨VQ (by have:=xw.mp hi;lia),show (2:Nat)<=20 by decide⟩
theorem BQ(h:M6 G r):Wp (qE [.ref r]) G λx G'=>Dr B18 2 5000 x/\Fr r G G':=by
 refine t7 (show Wp (lE [sRf r,none,none,none]) G _ from ?_);rw[wR];refine d9.mpr<| v7<| o4 (as:= [.ref r,.int 2]) rfl rfl<| O4 h ⟨by decide,by decide⟩ λk hk0 hk1 G1 f1=>d9.mpr<| (mV f1.2.2).mono ?_;rintro _ G2 ⟨f2,q,l,rfl,e,hq,hl,hx⟩;refine d9.mpr<| J3<| m5<| bin_w<| b8 (a:=.int k) (G':=G2) rfl<| b8 (a:=.int 0) (G':=G2) rfl<| O8.mpr ⟨_,rfl,λ_=>?_,λ_=>m7.mpr ?_⟩
 ·refine o6<| T3.mpr<| u0 (x:=.str M3) rfl<| j9<| O6 (as:= [.ref q]) rfl<| (W9 e).mpr<| m8.mpr ⟨sz,o7 ⟨(Dr.l (n:=1) (B:=50) (k:=58) (by decide) hl hx).up (zk _) (by decide),f1.trans f2⟩⟩
 ·refine w6 (X2:= [sRf r,some (.int k),sRf q,some (.str "abcdefghijklmnopqrstuvwxyz")]) (G':=G2) rfl<| (sT f2.2.2 e hl hx).mono ?_;rintro _ G3 ⟨d,rfl,hd,f3⟩;exact o7 ⟨hd,(f1.trans f2).trans f3⟩
end
abbrev c1(v:D):D:=.tup [.str M3,.tup [v]]
abbrev c2(v:D):D:=.tup [.str M3,.tup [.int 0,v]]
abbrev c3(v:D):D:=.tup [.str Z4,.tup [.tup [.str "a",v]]]
abbrev c4(v:D):D:=.tup [.str Z4,.tup [.tup [.str "a",.int 1],.tup [.str "b",v]]]
theorem aN:TxL "a"/\tl ("a" :Str)≠ []:=⟨iI _ (.inl rfl),by decide +kernel⟩
theorem Bb:TxL "b"/\tl ("b" :Str)≠ []:=⟨⟨by decide +kernel,by decide +kernel⟩,by decide +kernel⟩
theorem dP{b n B:Nat}{v:D}(h:Dr b (n+1) B v):Dr b (n+2) (B+100) (c1 v):=by refine⟨.l (l:= [v]) (jT rfl) λx hx=>zR.mp hx▸h.gv,?_⟩;have:=h.ln;rw[rE,lnL,lnL];lia
theorem pT{n B:Nat}{v:D}(h:Dr B18 (n+1) B v):Dr B18 (n+2) (B+100) (c2 v):=by
 refine⟨.l (l:= [.int 0,v]) (jT rfl) λx hx=>?_,?_⟩
 · simp only[zl,zA,or_false]at hx;rcases hx with rfl|rfl
   ·exact .i (by decide)
   ·exact h.gv
 ·have:=h.ln;have:=x9 (show smI 0 by unfold smI d5;decide);rw[rE,lnL,lnL,lnL,lnD];lia
theorem cX{n B:Nat}{v:D}(h:Dr B18 (n+1) B v):Dr B18 (n+2) (B+100) (c3 v):=by refine⟨.r (ps:= [("a",v)]) (jT rfl) (ZL ..) (λp hp=>zR.mp hp▸aN) λp hp=>zR.mp hp▸h.gv,?_⟩;have:=h.ln;rw[bD];simp only[lnL,lnD,show ("a" :Str).length=1 from rfl];lia
theorem VP{n B:Nat}{v:D}(h:Dr B18 (n+1) B v):Dr B18 (n+2) (B+100) (c4 v):=by
 refine⟨.r (ps:= [("a",.int 1),("b",v)]) (jT rfl) ?_ (λp hp=>?_) λp hp=>?_,?_⟩
 ·refine yB.mpr ⟨λx hx=>zR.mp hx▸ ?_,ZL ..⟩;show ("a" :Str).cps.toList<("b" :Str).cps.toList;decide +kernel
 · simp only[zl,zA,or_false]at hp;rcases hp with rfl|rfl
   ·exact aN
   ·exact Bb
 · simp only[zl,zA,or_false]at hp;rcases hp with rfl|rfl
   ·exact .i (by decide)
   ·exact h.gv
 ·have:=h.ln;have:=x9 (show smI 1 by unfold smI d5;decide);rw[bD];simp only[lnL,lnD,show ("a" :Str).length=1 from rfl,show ("b" :Str).length=1 from rfl];lia
theorem wV:mF=seqS (J1 (D2 R6 g0) D1) (seqS (forS (O7 (O0 (D0 j6 g0 i0))) T0 CB) (retS B0)):=rfl
theorem gR{r n B:Nat}{G:DH}{v:D}{s1 s3 s4:Option D}(h:M6 G r)(hv:Dr B18 (n+1) B v):Wp (CB [sRf r,s1,some v,s3,s4]) G λfl G'=>Fr r G G'/\∃w s4',fl= .nx [sRf r,s1,some w,s3,s4']/\Dr B18 (n+2) (B+100) w:=by
 have bg:=big;refine d9.mpr<| v7<| O9.mpr<| b8 (a:= [c1 v,c2 v,c3 v]) (G':=G) rfl ⟨sz,?_⟩;refine v7<| bin_w<| bin_w<| b8 (a:=.ref G.length) (G':=G++[.lst [c1 v,c2 v,c3 v]]) rfl<| O9.mpr<| b8 (a:= [c4 v]) (G':=G++[.lst [c1 v,c2 v,c3 v]]) rfl ⟨sz,?_⟩;refine(GD (a:= [c1 v,c2 v,c3 v]) (b:= [c4 v]) (o9 j8) j8 (show 3+1<=ze by lia)).mpr<| o4 (as:= [.ref r,.int 4]) rfl rfl<| HK h.app.app (ds:= [c1 v,c2 v,c3 v,c4 v]) rfl (by decide) (by decide) λd hd G' f _=>?_;refine⟨(Fr.app h).trans ((Fr.app h.app).trans f),d,_,rfl,?_⟩;simp only[zl,zA,or_false]at hd;rcases hd with rfl|rfl|rfl|rfl
 ·exact dP hv
 ·exact pT hv
 ·exact cX hv
 ·exact VP hv
theorem sM{r:Nat}{s1:Option D}:∀(items:List D) (n B:Nat) (v:D) (s3 s4:Option D) (G:DH),M6 G r->Dr B18 (n+1) B v->
 Wp (C1 T0 CB (λ_=>true) items [sRf r,s1,some v,s3,s4]) G λfl G'=>Fr r G G'/\∃w s3' s4',fl= .nx [sRf r,s1,some w,s3',s4']/\Dr B18 (n+1+items.length) (B+100*items.length) w
 |[],n,B,v,s3,s4,G,h,hv=>E8.mpr ⟨rfl,Fr.refl h,v,s3,s4,rfl,hv⟩
 |d::t,n,B,v,s3,s4,G,h,hv=>by refine D8.mpr ⟨rfl,R8.mpr<| (gR h hv).mono ?_⟩;rintro _ G1 ⟨f1,w,s4',rfl,hw⟩;refine(sM t (n+1) (B+100) w _ _ G1 f1.2.2 hw).mono ?_;rintro _ G2 ⟨f2,w',s3',s4',rfl,hw'⟩;exact⟨f1.trans f2,w',s3',s4',rfl,hw'.up (by rw[zp];lia) (by rw[zp];lia)⟩
section
variable{r:Nat}{G:DH}
theorem OS(h:M6 G r):Wp (kD [.ref r,.int 18]) G λx G'=>Dr B18 18 10000 x/\Fr r G G':=by
 refine t7 (show Wp (mF [sRf r,some (.int 18),none,none,none]) G _ from ?_);rw[wV];refine d9.mpr<| v7<| o4 (as:= [.ref r]) rfl rfl<| (KM h).mono ?_;rintro v G1 ⟨hv,f1⟩;refine d9.mpr<| D7.mpr<| rng1.mpr<| j9<| o4 (as:= [.ref r,.int 18]) rfl rfl<| O4 f1.2.2 ⟨by decide,by decide⟩ λk hk0 hk1 G2 f2=>m8.mpr<| (rng1_int ⟨by lia,by lia⟩).mpr ?_;have Nm:(v5 0 k.toNat).length=k.toNat:=by unfold v5;rw[zn,jE]
 refine(sM (v5 0 k.toNat) 0 50 v _ _ G2 f2.2.2 hv).mono ?_;rintro _ G3 ⟨f3,w,s3,s4,rfl,hw⟩;rw[Nm]at hw;exact b8 rfl (o7 ⟨hw.up (by lia) (by lia),(f1.trans f2).trans f3⟩)
theorem Gb(h:M6 G r):Wp (F__law_drawn [.ref r,.int 18]) G λx G'=>Dr B18 18 360000 x/\Fr r G G':=by
 refine t7 (show Wp (QF [sRf r,some (.int 18),none]) G _ from ?_);refine d9.mpr<| v7<| o4 (as:= [.ref r,.int 6]) rfl rfl<| O4 h ⟨by decide,by decide⟩ λk hk0 hk1 G1 f1=>d9.mpr<| J3<| m5<| bin_w<| b8 (a:=.int k) (G':=G1) rfl<| b8 (a:=.int 1) (G':=G1) rfl<| O8.mpr ⟨_,rfl,λ_=>?_,λ_=>m7.mpr ?_⟩
 ·refine o6<| o4 (as:= [.ref r]) rfl rfl<| (BQ f1.2.2).mono ?_;rintro x G2 ⟨hx,f2⟩;exact o7 ⟨hx.up (by decide) (by decide),f1.trans f2⟩
 · refine d9.mpr<| J3<| m5<| bin_w<| b8 (a:=.int k) (G':=G1) rfl<| b8 (a:=.int 2) (G':=G1) rfl<| O8.mpr ⟨_,rfl,λ_=>?_,λ_=>m7.mpr ?_⟩
   ·refine o6<| o4 (as:= [.ref r,.int 18]) rfl rfl<| (OS f1.2.2).mono ?_;rintro x G2 ⟨hx,f2⟩;exact o7 ⟨hx.up (by decide) (by decide),f1.trans f2⟩
   ·refine o6<| o4 (as:= [.ref r,.int 5]) rfl rfl<| (fT 4 6 5 G1 (by decide) (by decide) f1.2.2).mono ?_;rintro x G2 ⟨hx,f2⟩;exact o7 ⟨hx.up (by decide) bd5,f1.trans f2⟩
end
theorem u8{q:Nat}{o:DO}{G:DH}(e:G[q]? =some o):ckO q o G=true:=by unfold ckO;rw[e];simp
theorem aQ{G:DH}{p:Nat}{l:List D}{lo hi:Option Int}{Q:DPP}(e:G[p]? =some (.rol l)):Wp (slT (.ref p) lo hi) G Q↔Q (.ref G.length) (G++[.lst (DL.cutD l lo hi)]):=uP e
theorem Bv(ns:List Int):∃cs:List Int,DL.cutD (ns.map D.int) none (some 63)=cs.map D.int/\cs.length<=63:=by refine⟨ns.take 63,?_,by rw[zN];lia⟩;have:=DY (ns.map D.int) 63;rw[<-List.map_take]at this;exact this
theorem Q5{lo hi:Nat}:∀ {a c b d:List Nat},a++b=c++d->(∀x∈a,lo<=x/\x<=hi)->(∀x∈c,lo<=x/\x<=hi)->C3 lo hi b->C3 lo hi d->a=c/\b=d
 |[], [],b,d,e,_,_,_,_=>⟨rfl,e⟩
 |[],x::c,b,d,e,_,hc,hb,_=>absurd (hc x (zh ..)) (hb x (c++d) e)
 |x::a, [],b,d,e,ha,_,_,hd=>absurd (ha x (zh ..)) (hd x (a++b) e.symm)
 |x::a,y::c,b,d,e,ha,hc,hb,hd=>by have e:=zi e;obtain⟨rfl,rfl⟩:=Q5 e.2 (λz h=>ha z (zo _ h)) (λz h=>hc z (zo _ h)) hb hd;exact⟨by rw[e.1],rfl⟩
def isO(c:Nat):Bool:=c==91||c==123
def isC(c:Nat):Bool:=c==93||c==125
abbrev opn(l:List Nat):Nat:=l.countP isO
abbrev cls(l:List Nat):Nat:=l.countP isC
def Nst(n:Nat)(l:List Nat):Prop:=∀a b,l=a++b->opn a<=cls a+n
def Bal(l:List Nat):Prop:=opn l=cls l
theorem Nst.mono{n m:Nat}{l:List Nat}(h:Nst n l)(k:n<=m):Nst m l:=λa b e=>zw (h a b e) (by lia)
theorem Nst.skip{n:Nat}{a b:List Nat}(h:Nst n (a++b))(k:Bal a):Nst n b:=λc d e=>by have:=h (a++c) d (by rw[e];simp);unfold Bal at k;simp only[opn,cls,jU]at this k ⊢;lia
theorem Nst.op{n c:Nat}{l:List Nat}(h:Nst n (c::l))(k:isO c=true):∃m,n=m+1/\Nst m l:=by
 have kc:isC c=false:=by unfold isO at k;unfold isC;rw[Yg,beq_iff_eq,beq_iff_eq]at k;rcases k with rfl|rfl<;>rfl
 have h1:=h [c] l rfl;simp only[opn,cls,ZQ,List.countP_nil,k,kc]at h1;refine⟨n-1,by simp at h1;lia,λa b e=>?_⟩;have h2:=h (c::a) b (by rw[e];rfl);simp only[opn,cls,ZQ,k,kc]at h2 ⊢;simp at h1 h2;lia
theorem Bal.app{a b:List Nat}(h:Bal a)(k:Bal b):Bal (a++b):=by unfold Bal at *;simp only[opn,cls,jU]at *;lia
theorem K5{l:List Nat}(h:∀c∈l,c<91\/(97<=c/\c<=122)):Bal l:=by
 unfold Bal;have z:∀c∈l,isO c=false/\isC c=false:=λc hc=>by have:=h c hc;unfold isO isC;simp only[xz,beq_eq_false_iff_ne];lia
 rw[show opn l=0 from Zo.mpr λc hc=>by simp[(z c hc).1],show cls l=0 from Zo.mpr λc hc=>by simp[(z c hc).2]]
theorem PJ{f:D->List Nat}:∀ {l:List D},(∀x∈l,Bal (f x))->Bal (glL [44,32] (l.map f))
 |[],_=>rfl
 |x::r,h=>by show Bal ([44,32]++f x++glL [44,32] (r.map f));exact(Bal.app (K5 (by decide)) (h x (zh ..))).app (PJ λy hy=>h y (zo _ hy))
theorem nO{f:D->List Nat}{l:List D}(h:∀x∈l,Bal (f x)):Bal (K7 [44,32] (l.map f)):=by
 rcases l with _|⟨x,r⟩
 ·rfl
 ·exact(h x (zh ..)).app (PJ λy hy=>h y (zo _ hy))
theorem VG{z:Str}(h:TxL z):Bal (tl z):=K5 λc hc=>.inr (h.1 c hc)
theorem QL{a b:Nat}{l:List Nat}(h:Bal l)(ha:isO a=true/\isC a=false)(hb:isO b=false/\isC b=true):Bal (a::(l++[b])):=by unfold Bal at *;simp only[opn,cls,jU,ZQ,List.countP_nil,ha.1,ha.2,hb.1,hb.2]at *;simp;lia
theorem nW(i:Int):Bal (nmL i):=by
 rcases V4 i with⟨m,rfl⟩|⟨m,hm,rfl⟩
 ·rw[S9];exact K5 λc hc=>by have:=Q7 m c hc;lia
 · rw[F4 m hm];exact K5 λc hc=>by
    rcases zl.mp hc with rfl|hc
    ·exact .inl (by decide)
    ·have:=Q7 m c hc;lia
theorem GB.bal{b n:Nat}{d:D}(h:GB b n d):Bal (shN n d):=by
 induction h with
 |@i n i _=>exact nW i
 |@b n k=>rcases k with _|_<;>rfl
 |@s n z h=>
   rw[OA];exact Bal.app (a:= [34]) (K5 (by decide)) ((VG h).app (K5 (by decide)))
 |@l n l _ _ ih=>rw[F3];exact QL (nO ih) ⟨rfl,rfl⟩ ⟨rfl,rfl⟩
 |@r n ps _ _ hn _ ih=>
   rw[A4];refine QL (nO λx hx=>?_) ⟨rfl,rfl⟩ ⟨rfl,rfl⟩;obtain⟨p,hp,rfl⟩:=zM.mp hx;exact((VG (hn p hp).1).app (K5 (by decide))).app (ih p hp)
theorem Nst.app{n:Nat}{a b:List Nat}(h:Nst n a)(hb:Bal a)(k:Nst n b):Nst n (a++b):=λc d e=>by
 rcases xF.mp e with⟨x,rfl,e2⟩|⟨x,e1,e2⟩
 ·have:=k x d e2;unfold Bal at hb;simp only[opn,cls,jU]at *;lia
 ·exact h c x e1
theorem X7{n:Nat}{l:List Nat}(h:∀c∈l,isO c=false):Nst n l:=λa b e=>by rw[show opn a=0 from Zo.mpr λc hc=>by rw[h c (by rw[e];exact jN _ hc)];decide];exact xa _
theorem aM{n:Nat}{f:D->List Nat}:∀ {l:List D},(∀x∈l,Bal (f x)/\Nst n (f x))->Nst n (glL [44,32] (l.map f))
 |[],_=>X7 (λc hc=>nomatch hc)
 |x::r,h=>by have hx:=h x (zh ..);show Nst n ([44,32]++f x++glL [44,32] (r.map f));exact Nst.app (Nst.app (X7 (by decide)) (K5 (by decide)) hx.2) (Bal.app (K5 (by decide)) hx.1) (aM λy hy=>h y (zo _ hy))
theorem NO{n:Nat}{f:D->List Nat}{l:List D}(h:∀x∈l,Bal (f x)/\Nst n (f x)):Nst n (K7 [44,32] (l.map f)):=by
 rcases l with _|⟨x,r⟩
 ·exact X7 (λc hc=>nomatch hc)
 ·have hx:=h x (zh ..);exact Nst.app hx.2 hx.1 (aM λy hy=>h y (zo _ hy))
theorem fJ{n a b:Nat}{l:List Nat}(h:Nst n l)(ha:isO a=true)(hb:isO b=false):Nst (n+1) (a::(l++[b])):=λc d e=>by
 rcases c with _|⟨x,c⟩
 ·exact xa _
 · have e:=zi e;have:opn c<=cls c+n:=by
    rcases xF.mp e.2 with⟨y,rfl,e2⟩|⟨y,e1,e2⟩
    · have h1:=h l [] (by simp);have h2:opn y=0:=Zo.mpr λz hz=>by
       have:z∈ [b]:=by rw[e2];exact jN _ hz
       rw[zR.mp this,hb];decide
      simp only[opn,cls,jU]at *;lia
    ·exact h c y e1
   simp only[opn,cls,ZQ]at *;split<;>split<;>lia
theorem GB.nb{b n:Nat}{d:D}(h:GB b n d):Nst n (shN n d):=by
 induction h with
 |@i n i _=>
   refine X7 λc hc=>?_;have hc:c∈nmL i:=hc;have:c=45\/(48<=c/\c<=57):=by
    rcases V4 i with⟨m,rfl⟩|⟨m,hm,rfl⟩
    ·rw[S9]at hc;exact .inr (Q7 m c hc)
    · rw[F4 m hm]at hc;rcases zl.mp hc with rfl|hc
      ·exact .inl rfl
      ·exact .inr (Q7 m c hc)
   unfold isO;simp only[xz,beq_eq_false_iff_ne];lia
 |@b n k=>
   rcases k with _|_
   ·exact X7 (show ∀c∈cF,isO c=false by decide)
   ·exact X7 (show ∀c∈cT,isO c=false by decide)
 |@s n z h=>
   rw[OA];refine X7 λc hc=>?_;have:c=34\/(97<=c/\c<=122):=by
    rcases zl.mp hc with rfl|hc
    ·exact .inl rfl
    · rcases jw.mp hc with hc|hc
      ·exact .inr (h.1 c hc)
      ·exact .inl (zR.mp hc)
   unfold isO;simp only[xz,beq_eq_false_iff_ne];lia
 |@l n l _ hx ih=>rw[F3];exact fJ (NO λx h=>⟨(hx x h).bal,ih x h⟩) rfl rfl
 |@r n ps _ _ hn hx ih=>
   rw[A4];refine fJ (NO λx hxx=>?_) rfl rfl;obtain⟨p,hp,rfl⟩:=zM.mp hxx;have ht:=VG (hn p hp).1;refine⟨(ht.app (K5 (by decide))).app (hx p hp).bal,Nst.app (Nst.app (X7 λc hc=>?_) ht (X7 (by decide))) (ht.app (K5 (by decide))) (ih p hp)⟩;have:=(hn p hp).1.1 c hc;unfold isO;simp only[xz,beq_eq_false_iff_ne];lia
theorem Nst.put{n k:Nat}{a b s c:List Nat}(h:Nst n (a++b++c))(hb:cls b+opn s<=k):Nst (n+k) (a++s++c):=λx y e=>by
 rcases xF.mp e with⟨z,rfl,e2⟩|⟨z,e1,e2⟩
 ·have h1:=h (a++b++z) y (by rw[e2];simp);simp only[opn,cls,jU]at *;lia
 · rcases xF.mp e1 with⟨w,rfl,e3⟩|⟨w,e3,e4⟩
   · have h1:=h a (b++c) (by simp);have h2:opn w<=opn s:=by rw[e3];simp only[opn,jU];lia
     simp only[opn,cls,jU]at *;lia
   ·have h1:=h x (w++b++c) (by rw[e3];simp);lia
theorem iO{n:Nat}{l:List Nat}(h:opn l<=n):Nst n l:=λa b e=>by
 have:opn a<=opn l:=by rw[e];simp only[opn,jU];lia
 lia
def Sg(S:Str)(lo hi:Nat):Prop:=∀c,(ju S ⟨#[c]⟩ 0 S.length 1).isEmpty= !decide (lo<=c/\c<=hi)
theorem NG:Sg "abcdefghijklmnopqrstuvwxyz" 97 122:=λc=>by rw[show decide (97<=c/\c<=122)=L4 c by unfold L4;exact Bool.decide_and ..];exact eZ c
theorem Gm:∀c<58,(ju ("0123456789" :Str) ⟨#[c]⟩ 0 ("0123456789" :Str).length 1).isEmpty= !decide (48<=c/\c<=57):=by decide +kernel
theorem QX:∀x∈("0123456789" :Str).cps.toList,x<58:=by decide +kernel
theorem rY:Sg "0123456789" 48 57:=λc=>by
 by_cases h:c<58
 ·exact Gm c h
 · rw[decide_eq_false (by lia),MK λi=>?_]
   ·rfl
   · unfold yZ;rw[beq_eq_false_iff_ne];intro e;have e2:=congrArg YO e;have hm:c∈("0123456789" :Str).cps.toList:=by
      have:c∈(("0123456789" :Str).cps.extract i (i+(⟨#[c]⟩:Str).length)).toList:=by rw[e2];simp
      rw[Ym]at this;exact Yp (JY this)
     exact h (QX c hm)
theorem pL{S:Str}{lo hi c:Nat}{G:DH}{Q:DPP}(h:Sg S lo hi)(q:Q (.bl (decide (lo<=c/\c<=hi))) G):Wp (inD (.str ⟨#[c]⟩) (.str S)) G Q:=by refine⟨_,G,?_,q⟩;have e:inD (.str ⟨#[c]⟩) (.str S) G=some (Except.ok (.bl (!(ju S ⟨#[c]⟩ 0 S.length 1).isEmpty)),G):=rfl;rw[e,h c,Bool.not_not]
theorem KY:RE=seqS (J1 i0 T0) (seqS (V1 UT UB) (retS (sliceT g0 (partO i0) (partO C0)))):=rfl
section
variable{T S:Str}{G:DH}{lo hi:Nat}
theorem qN{a1:Option D}(hz:T.length<=ze)(sg:Sg S lo hi):∀(rn pre d7:List Nat) (n:Nat),rn.length<=n->tl T=pre++rn++d7->(∀c∈rn,lo<=c/\c<=hi)->C3 lo hi d7->
 Wp (J0 (n+1) UT UB [some (.str T),a1,some (.str S),some (.int (pre.length:Int))]) G λfl G'=>G'=G/\fl= .nx [some (.str T),a1,some (.str S),some (.int ((pre.length:Int)+rn.length))]
 |[],pre,d7,n,hn,h,hr,ho=>by
   rw[zX]at h;have hl:T.length=pre.length+d7.length:=by rw[<-v4,h,za]
   refine X5.mpr ?_;refine(show Wp (UT _) G λk G1=>k=false/\G1=G from ?_).mono ?_
   · refine D6<| m5<| bin_w<| b8 (a:=.int (pre.length:Int)) (G':=G) rfl<| O6 (as:= [.str T]) rfl<| (K4 hz).mpr<| t9.mpr ⟨_,rfl,λk=>?_,λk=>⟨rfl,rfl⟩⟩;have k:=of_decide_eq_true k;rcases d7 with _|⟨c,r⟩
     ·simp at hl;lia
     ·refine m5<| bin_w<| bin_w<| b8 (a:=.str T) (G':=G) rfl<| b8 (a:=.int (pre.length:Int)) (G':=G) rfl<| rD h hz<| b8 (a:=.str S) (G':=G) rfl<| pL sg ⟨_,rfl,decide_eq_false (ho c r rfl),rfl⟩
   ·rintro _ _ ⟨rfl,rfl⟩;rw[if_neg zG];exact⟨rfl,by simp⟩
 |c::r,pre,d7,n,hn,h,hr,ho=>by
   obtain⟨m,rfl⟩:∃m,n=m+1:=⟨n-1,by simp at hn;lia⟩;have hc:=hr c (zh ..);have h':tl T=pre++c::(r++d7):=by rw[h,zu];rfl
   have hl:T.length=pre.length+(c::(r++d7)).length:=by rw[<-v4,h',za]
   refine X5.mpr ?_;refine(show Wp (UT _) G λk G1=>k=true/\G1=G from ?_).mono ?_
   · refine D6<| m5<| bin_w<| b8 (a:=.int (pre.length:Int)) (G':=G) rfl<| O6 (as:= [.str T]) rfl<| (K4 hz).mpr<| t9.mpr ⟨_,rfl,λ_=>?_,λk=>?_⟩
     ·exact m5<| bin_w<| bin_w<| b8 (a:=.str T) (G':=G) rfl<| b8 (a:=.int (pre.length:Int)) (G':=G) rfl<| rD h' hz<| b8 (a:=.str S) (G':=G) rfl<| pL sg ⟨_,rfl,decide_eq_true hc,rfl⟩
     ·have k:=of_decide_eq_false k;simp at hl;lia
   · rintro _ G1 ⟨rfl,eG⟩;rw[if_pos rfl,eG];clear eG;refine b8 (a:=.nx [some (.str T),a1,some (.str S),some (.int ((pre.length:Int)+1))]) rfl ?_;have ih:=qN (a1:=a1) hz sg r (pre++[c]) d7 m (by simp at hn;lia) (by rw[h];simp) (λc hc=>hr c (zo _ hc)) ho;rw[za]at ih;refine(show Wp (J0 (m+1) UT UB [some (.str T),a1,some (.str S),some (.int ((pre.length:Int)+1))]) G _ from ih).mono ?_;rintro _ _ ⟨rfl,rfl⟩;refine⟨rfl,?_⟩;have e4:(((pre.length + [c].length:Nat):Int)+r.length)= (pre.length:Int)+(c::r).length:=by simp;lia
     rw[e4]
theorem eE{pre rn d7:List Nat}{at':Int}{Q:DPP}(sg:Sg S lo hi)(hz:T.length<=ze)(ha:at'=pre.length)(h:tl T=pre++rn++d7)(hr:∀c∈rn,lo<=c/\c<=hi)(ho:C3 lo hi d7)(q:Q (.str (ofL rn)) G):
 Wp (X3 [.str T,.int at',.str S]) G Q:=by
 subst ha;refine t7 (show Wp (RE [some (.str T),some (.int pre.length),some (.str S),none]) G _ from ?_);rw[KY];refine w6 (X2:= [some (.str T),some (.int pre.length),some (.str S),some (.int pre.length)]) (G':=G) rfl<| d9.mpr<| dC (n:=rn.length+1)<| (qN hz sg rn pre d7 rn.length (zk _) h hr ho).mono ?_;rintro _ _ ⟨rfl,rfl⟩;refine o6<| N7.mpr<| b8 (a:=.str T) rfl<| b8 (a:=some (pre.length:Int)) rfl<| b8 (a:=some ((pre.length:Int)+rn.length)) rfl<| (d8 hz).mpr ?_;rw[U6 h];exact o7 q
end
theorem Bw(a k n:Nat)(h:a<=n)(hk:n<=a+k):zL (some (a:Int)) (some ((a:Int)+k)) 1 n= (jJ (n-a)).map λj=>a+j:=by
 have e:=DF a (n-a) n (by lia);rw[<-e];unfold zL Xm;have e1:max 0 (min ((a:Int)+k) n)=n:=by lia
 have e2:max 0 (min ((a:Int)+(n-a:Nat)) n)=n:=by lia
 have e3:¬(a:Int)+k<0:=by lia
 have e4:¬(a:Int)+(n-a:Nat)<0:=by lia
 simp only[show (1:Int)>0 by decide,if_true,e3,e4,if_false,e1,e2]
theorem oI{z:Str}{pre d7:List Nat}(k:Nat)(h:tl z=pre++d7):yA z (some (pre.length:Int)) (some ((pre.length:Int)+k))=ofL (d7.take k):=by
 have hl:z.length=pre.length+d7.length:=by rw[<-v4,h,za]
 by_cases hk:k<=d7.length
 · have h1:tl z=pre++d7.take k++d7.drop k:=by rw[h,zu,jS]
   have:=U6 h1;rw[zN,Nat.min_eq_left hk]at this;exact this
 · have e:d7.take k=d7:=xb (by lia);have h1:tl z=pre++d7++[]:=by rw[h];simp
   have:=U6 h1;rw[e,<-this];unfold yA;rw[Bw _ _ _ (by lia) (by lia),DF _ _ _ (by lia),hl,xQ]
theorem eqS(a b:List Nat):(ofL a==ofL b)=decide (a=b):=by rw[Xs,beq_iff_eq,decide_eq_true_iff];exact⟨λh=>congrArg tl h,λh=>by rw[h]⟩
theorem g9{T:Str}{pre d7:List Nat}{k:Nat}{a b c:Fe}{U:DSt}{G:DH}{Q:DPP}(hz:T.length<=ze)(h:tl T=pre++d7)(ha:a U G=some (.ok (.str T),G))(hb:b U G=some (.ok (.int pre.length),G))(hc:c U G=some (.ok (.int ((pre.length:Int)+k)),G))(q:Q (.str (ofL (d7.take k))) G):
 Wp (sliceT a (partO b) (partO c) U) G Q:=by
 refine N7.mpr<| b8 ha<| FB.mpr<| b8 hb ⟨_,rfl,FB.mpr<| b8 hc ⟨_,rfl,(d8 hz).mpr ?_⟩⟩;rw[oI k h];exact q
theorem iL(R:List D->M D):GC R=seqS (J1 (sliceT g0 (partO i0) (partO (binE addD i0 A0))) D1) (seqS (ifS ZO (ZB R) nextS) ZC):=rfl
def LR(b:Nat)(G:DH)(d:D)(p:Nat)(o:Option (D×List Nat)):Prop:=∃q,b<=q/\d= .ref q/\G[q]? =some (.lst (match o with|none=> []|some (v,t)=> [v,.int ((p:Int)+t.length)]))
def stp(r:List Nat):Prop:=C3 97 122 r/\C3 48 57 r
def Sp(m:Nat)(d7:List Nat)(o:Option (D×List Nat)):Prop:=(∀v t,o=some (v,t)->okV m v t/\∃r,d7=t++r)/\∀v t r,d7=t++r->okV m v t->stp r->o=some (v,t)
theorem pE{n:Nat}{v:D}{t:List Nat}(h:okV (n+1) v t):(∃i,smI i/\v= .int i/\t=nmL i)\/(v= .bl true/\t=cT)\/(v= .bl false/\t=cF)\/(∃z,TxL z/\v= .str z/\t=34::(tl z++[34]))\/(∃u,t=91::u)\/∃u,t=123::u:=by
 obtain⟨g,rfl⟩:=h
 cases g with
 |@i _ i hi=>exact .inl ⟨i,hi,rfl,rfl⟩
 |@b _ k=>
   rcases k with _|_
   ·exact .inr (.inr (.inl ⟨rfl,rfl⟩))
   ·exact .inr (.inl ⟨rfl,rfl⟩)
 |@s _ z hs=>exact .inr (.inr (.inr (.inl ⟨z,hs,rfl,rfl⟩)))
 |@l _ l hl hx=>exact .inr (.inr (.inr (.inr (.inl ⟨_,F3⟩))))
 |@r _ ps hl hp hn hx=>exact .inr (.inr (.inr (.inr (.inr ⟨_,A4⟩))))
theorem wC(i:Int):∃c y,nmL i=c::y/\(c=45\/(48<=c/\c<=57)):=by
 rcases V4 i with⟨m,rfl⟩|⟨m,hm,rfl⟩
 · rw[S9];rcases k:dg m with _|⟨c,y⟩
   ·exact absurd k (E6 m)
   ·exact⟨c,y,rfl,.inr (Q7 m c (by rw[k];exact zh ..))⟩
 ·exact⟨45,dg m,F4 m hm,.inl rfl⟩
section
variable{T:Str}{G:DH}{U:DSt}{i:Nat}{sg:List Nat}{s:Str}{c:Nat}
theorem P7(h:U[i]? =some (some (.str (ofL sg))))(hs:s=ofL [c]):binE eqD (R5 i) (cE (.str s)) U G=some (.ok (.bl (decide (sg= [c]))),G):=HL<| by
 have v:R5 i U G=some (.ok (.str (ofL sg)),G):=by unfold R5;rw[h]
 refine bin_w<| b8 v<| b8 (a:=.str s) (G':=G) rfl<| F8.mpr ⟨?_,rfl⟩;rw[hs,eqS]
theorem fB(h:U[i]? =some (some (.str (ofL sg))))(hs:s=ofL [c]):L0 P2 (O0 (binE eqD (R5 i) (cE (.str s)))) U G=some (.ok (.int (if decide (sg= [c])then 1 else 0)),G):=HL<|
 J5<| j9<| b8 (P7 h hs)<| m8.mpr<| j7.mpr ⟨rfl,rfl⟩
theorem IC:("\"" :Str)=ofL [34]:=by rfl
theorem WE:("-" :Str)=ofL [45]:=by rfl
theorem uK:("0" :Str)=ofL [48]:=by rfl
theorem wM:("[" :Str)=ofL [91]:=by rfl
theorem kE:("{" :Str)=ofL [123]:=by rfl
abbrev zS(T:Str)(p:Nat)(sg:List Nat)(s3 s4 s5 s6:Option D):DSt:= [some (.str T),some (.int p),some (.str (ofL sg)),s3,s4,s5,s6]
theorem Cc{pre rn post:List Nat}{n:Nat}{s3 s5 s6:Option D}(hz:T.length<=900000)(h:tl T=pre++34::(rn++post))(hr:∀c∈rn,97<=c/\c<=122)(ho:C3 97 122 post):
 Wp (ZD (zS T pre.length [34] s3 (some (.str (ofL rn))) s5 s6)) G λfl G'=>∃d,fl= .rt d/\Ap G G'/\∃o,LR G.length G' d pre.length o/\Sp (n+1) (34::(rn++post)) o:=by
 have Pg:T.length<=ze:=zw hz (by decide);have hl:=congrArg zW h;rw[v4]at hl;simp at hl;have h1:tl T= (pre++34::rn)++post:=by rw[h];simp
 have e1:(pre.length:Int)+1+(rn.length:Nat)= ((pre++34::rn).length:Int):=by simp;lia
 have hrl:(ofL rn).length<=ze:=by show rn.length<=_;lia
 refine d9.mpr<| v7<| bin_w<| b8 (a:=.int ((pre.length:Int)+1)) (G':=G) rfl<| O6 (as:= [.str (ofL rn)]) rfl<| (K4 hrl).mpr<| J6.mpr ?_;rw[show ((ofL rn).length:Int)= (rn.length:Nat)from rfl,e1];refine o6<| MC.mpr<| m5<| bin_w<| g9 (k:=1) Pg h1 rfl rfl rfl<| b8 (a:=.str ("\"" :Str)) (G':=G) rfl<| F8.mpr ?_;rw[IC,eqS];refine⟨_,rfl,?_⟩;by_cases k:post.take 1= [34]
 · rw[decide_eq_true k,if_pos rfl];obtain⟨p2,rfl⟩:∃p2,post=34::p2:=by
    rcases post with _|⟨a,p2⟩
    ·cases k
    ·exact⟨p2,by rw[(zi k).1]⟩
   refine b8 (a:=.ref G.length) (G':=G++[.lst [.str (ofL rn),.int (((pre++34::rn).length:Int)+1)]]) rfl ⟨_,rfl,Ap.one,some (.str (ofL rn),34::(rn++[34])),⟨_,zk _,rfl,?_⟩,?_,?_⟩
   · rw[j8];have e2:((pre++34::rn).length:Int)+1= (pre.length:Int)+(34::(rn++[34])).length:=by simp;lia
     rw[e2]
   · intro v t e
     cases e
     exact⟨⟨.s ⟨hr,by show rn.length<=900000;lia⟩,rfl⟩,p2,by simp⟩
   · intro v t r e ok st;rcases pE ok with⟨i,hi,rfl,rfl⟩|⟨rfl,rfl⟩|⟨rfl,rfl⟩|⟨z,hz,rfl,rfl⟩|⟨u,rfl⟩|⟨u,rfl⟩
     ·obtain⟨c,y,e',hc⟩:=wC i;rw[e']at e;have:=(zi e).1;lia
     ·exact absurd (zi e).1 (by decide)
     ·exact absurd (zi e).1 (by decide)
     ·have e:rn++34::p2= (tl z++[34])++r:=(zi e).2;rw[zu]at e;obtain⟨e1,e2⟩:=Q5 e hr hz.1 ho (λc r z=>by cases z;decide);rw[show ofL rn=z from T8 e1,e1]
     ·exact absurd (zi e).1 (by decide)
     ·exact absurd (zi e).1 (by decide)
 · rw[decide_eq_false k,if_neg zG];refine b8 (a:=.ref G.length) (G':=G++[.lst []]) rfl ⟨_,rfl,Ap.one,none,⟨_,zk _,rfl,j8⟩,λv t e=>(nomatch e),?_⟩;intro v t r e ok st;rcases pE ok with⟨i,hi,rfl,rfl⟩|⟨rfl,rfl⟩|⟨rfl,rfl⟩|⟨z,hz,rfl,rfl⟩|⟨u,rfl⟩|⟨u,rfl⟩
   ·obtain⟨c,y,e',hc⟩:=wC i;rw[e']at e;have:=(zi e).1;lia
   ·exact absurd (zi e).1 (by decide)
   ·exact absurd (zi e).1 (by decide)
   ·have e:rn++post= (tl z++[34])++r:=(zi e).2;rw[zu]at e;obtain⟨e1,e2⟩:=Q5 e hr hz.1 ho (λc r z=>by cases z;decide);exact absurd (by rw[e2];rfl) k
   ·exact absurd (zi e).1 (by decide)
   ·exact absurd (zi e).1 (by decide)
end
def okF(sg:List Nat)(ds:List Nat):Prop:=ds≠ []/\ds.length<=40/\∀r,ds=48::r->r= []/\sg≠ [45]
theorem QG{m:Nat}(h:(dg m).length<=40):YK (ofL (dg m))=some (m:Int)/\smI (m:Int):=by
 have lt:=pG 40 (dg m) h (Q7 m);obtain⟨n,hn⟩:∃n,(dg m).length=n+1:=⟨(dg m).length-1,by have:=jI.mpr (E6 m);lia⟩;have h0:∀r,dg m=48::r->r= []:=λr e=>by
  rcases jV m with rfl|hm
  ·rw[U3 (by decide)]at e;exact((zi e).2).symm
  ·obtain⟨c,r',e',hc⟩:=QB m hm;rw[e']at e;have:=(zi e).1;lia
 have e1:=UE n (dg m) hn (Q7 m) h0;have s1:smI ((zr (dg m):Nat):Int):=by unfold smI d5;have:zr (dg m)<=9999999999999999999999999999999999999999:=Nat.le_of_lt_succ lt;lia
 have b1:=BH s1;rw[S9,e1]at b1;by_cases hm:smI (m:Int)
 ·have b2:=BH hm;rw[S9]at b2;exact⟨b2,hm⟩
 · have:zr (dg m)=m:=by
    have:=congrArg zr e1;have z:∀a:Nat,zr (dg a)=a:=λa=>by
     induction a using Nat.strongRecOn with
     |_ a ih=>
       by_cases ha:a<10
       ·rw[U3 ha];have:=sB [] (48+a);rw[List.nil_append]at this;rw[this];show 0*10+_=_;lia
       ·rw[AE ha,U3 (show a % 10<10 by lia),sB,ih (a / 10) (by lia)];lia
    exact z m
   rw[this]at s1;exact absurd s1 hm
theorem wp{sg ds:List Nat}(hs:sg= [45]\/sg≠ [45])(k:∀c∈ds,48<=c/\c<=57)(h:okF sg ds):∃m:Nat,dg m=ds/\YK (ofL ds)=some (m:Int)/\smI (m:Int)/\(sg= [45]->0<m):=by
 obtain⟨h1,h2,h3⟩:=h;obtain⟨n,hn⟩:∃n,ds.length=n+1:=⟨ds.length-1,by have:=jI.mpr h1;lia⟩;have e:=UE n ds hn k λr e=>(h3 r e).1;refine⟨zr ds,e,?_⟩;have b:=QG (m:=zr ds) (by rw[e];exact h2);rw[e]at b;refine⟨b.1,b.2,λz=>?_⟩;rcases jV (zr ds)with y|y
 ·rw[y,U3 (by decide)]at e;exact absurd z (h3 [] e.symm).2
 ·exact y
theorem Kc{sg:List Nat}{m:Nat}(h:smI (m:Int))(hs:sg= [45]->0<m):okF sg (dg m):=by
 refine⟨E6 m,HF h,λr e=>?_⟩;rcases jV m with rfl|hm
 ·rw[U3 (by decide)]at e;exact⟨((zi e).2).symm,λz=>absurd (hs z) (by decide)⟩
 ·obtain⟨c,r',e',hc⟩:=QB m hm;rw[e']at e;have:=(zi e).1;lia
theorem gQ{a b:Nat}(ha:(dg a).length<=40)(h:dg a=dg b):a=b:=by have x:=(QG ha).1;have y:=(QG (m:=b) (by rw[<-h];exact ha)).1;rw[h,y]at x;have:=js x;lia
section
variable{T:Str}{G:DH}
theorem Df{c:Nat}{r:List Nat}{Q:DPP}(hz:(ofL (c::r)).length<=ze)(q:Q (.str ⟨#[c]⟩) G):Wp (ixD (.str (ofL (c::r))) (.int 0)) G Q:=cH (k:=0) hz rfl q
theorem pW{sg ds:List Nat}{p:Nat}{s3 s4 s5:Option D}(hz:ds.length<=900000):Wp (NC (zS T p sg s3 s4 s5 (some (.str (ofL ds))))) G λb G'=>G'=G/\(b=true->¬okF sg ds)/\(b=false->okF sg ds):=by
 have bg:=big;have hl:(ofL ds).length<=ze:=by show ds.length<=_;lia
 refine S4<| m5<| bin_w<| b8 (a:=.str (ofL ds)) (G':=G) rfl<| b8 (a:=.str ("" :Str)) (G':=G) rfl<| F8.mpr ?_;rw[show ("" :Str)=ofL []from rfl,eqS];refine⟨_,rfl,λk=>⟨rfl,?_⟩,λk=>?_⟩
 ·exact⟨λ_ h=>h.1 (of_decide_eq_true k),λz=>nomatch z⟩
 · have k0:=of_decide_eq_false k;refine S4<| m5<| bin_w<| O6 (as:= [.str (ofL ds)]) rfl<| (K4 hl).mpr<| b8 (a:=.int 40) (G':=G) rfl<| sD.mpr ⟨_,rfl,λk=>⟨rfl,?_⟩,λk=>?_⟩
   ·have k:=of_decide_eq_true k;have k:((ds.length:Nat):Int)>40:=k;exact⟨λ_ h=>by have:=h.2.1;lia,λz=>nomatch z⟩
   · have k1:=of_decide_eq_false k;have k1:¬((ds.length:Nat):Int)>40:=k1;rcases ds with _|⟨c,r⟩
     ·exact absurd rfl k0
     · refine D6<| m5<| bin_w<| bin_w<| b8 (a:=.str (ofL (c::r))) (G':=G) rfl<| b8 (a:=.int 0) (G':=G) rfl<| Df hl<| b8 (a:=.str ("0" :Str)) (G':=G) rfl<| F8.mpr ?_;rw[uK,show (⟨#[c]⟩:Str)=ofL [c]from rfl,eqS];refine⟨_,rfl,λk=>?_,λk=>⟨rfl,?_⟩⟩
       · have k:=(zi (of_decide_eq_true k)).1;subst k;refine S4<| m5<| bin_w<| b8 (a:=.str (ofL (48::r))) (G':=G) rfl<| b8 (a:=.str ("0" :Str)) (G':=G) rfl<| dI.mpr ?_;rw[uK,eqS];refine⟨_,rfl,λk=>⟨rfl,?_⟩,λk=>?_⟩
         ·rw[yK]at k;have k:=of_decide_eq_false k;exact⟨λ_ h=>k (by rw[(h.2.2 r rfl).1]),λz=>nomatch z⟩
         · rw[yC]at k;have k:=of_decide_eq_true k;have k:r= []:=(zi k).2;subst k;refine m5<| b8 (P7 rfl WE) ⟨_,rfl,rfl,?_⟩;by_cases hs:sg= [45]
           ·rw[decide_eq_true hs];exact⟨λ_ h=>(h.2.2 [] rfl).2 hs,λz=>nomatch z⟩
           ·rw[decide_eq_false hs];exact⟨λz=>(nomatch z),λ_=>⟨k0,by simp,λr e=>⟨((zi e).2).symm,hs⟩⟩⟩
       ·have k:=of_decide_eq_false k;refine⟨λz=>(nomatch z),λ_=>⟨k0,by lia,λr' e=>?_⟩⟩;exact absurd (by rw[(zi e).1]) k
end
abbrev LE(G:DH)(p n:Nat)(d7:List Nat)(fl:Fl)(G':DH):Prop:=∃d,fl= .rt d/\Ap G G'/\∃o,LR G.length G' d p o/\Sp (n+1) d7 o
section
variable{T:Str}{G:DH}
theorem kY{p n:Nat}{d7:List Nat}{U:DSt}(h:∀v t r,d7=t++r->okV (n+1) v t->stp r->False):Wp (retS (lstE F0) U) G (LE G p n d7):=
 o6<| b8 (a:=.ref G.length) (G':=G++[.lst []]) rfl ⟨_,rfl,Ap.one,none,⟨_,zk _,rfl,j8⟩,λv t e=>(nomatch e),λv t r e ok st=>(h v t r e ok st).elim⟩
theorem eP{pre d7:List Nat}{n:Nat}{s3 s4 s5 s6:Option D}(hz:T.length<=900000)(h:tl T=pre++d7)(hno:∀c r,d7=c::r->c≠34/\c≠91/\c≠123)(hT:∀r,d7=cT++r->stp r->False)(hF:∀r,d7=cF++r->stp r->False):
 Wp (ZN (zS T pre.length (d7.take 1) s3 s4 s5 s6)) G (LE G pre.length n d7):=by
 have Pg:T.length<=ze:=zw hz (by decide);obtain⟨sgn,r1,e,hs⟩:∃sgn r1,d7=sgn++r1/\((sgn= [45]/\d7.take 1= [45])\/(sgn= []/\d7.take 1≠ [45])):=by
  by_cases k:d7.take 1= [45]
  · rcases d7 with _|⟨c,r1⟩
    ·cases k
    ·have:c=45:=(zi k).1;exact⟨[45],r1,by rw[this];rfl,.inl ⟨rfl,k⟩⟩
  ·exact⟨[],d7,rfl,.inr ⟨rfl,k⟩⟩
 obtain⟨ds,post,e1,k,o⟩:=E7 48 57 r1;have h1:tl T= (pre++sgn)++ds++post:=by rw[h,e,e1];simp
 have hl:=congrArg zW h1;rw[v4]at hl;simp at hl;have ea:(pre.length:Int)+(if decide (d7.take 1= [45])=true then 1 else 0)= ((pre++sgn).length:Int):=by
  rcases hs with⟨rfl,q⟩|⟨rfl,q⟩
  ·rw[if_pos (decide_eq_true q)];simp
  ·rw[if_neg (by simp[q])];simp
 have hsg:d7.take 1= [45]↔sgn= [45]:=by
  rcases hs with⟨rfl,q⟩|⟨rfl,q⟩
  ·exact⟨λ_=>rfl,λ_=>q⟩
  ·exact⟨λz=>absurd z q,λz=>nomatch z⟩
 have com:∀v t r,d7=t++r->okV (n+1) v t->stp r->∃m:Nat,smI (m:Int)/\ds=dg m/\post=r/\(sgn= [45]->0<m)/\t=sgn++ds/\v= .int ((m:Int)*(if sgn= [45]then -1 else 1)):=by
  intro v t r er ok st;rcases pE ok with⟨i,hi,rfl,rfl⟩|⟨rfl,rfl⟩|⟨rfl,rfl⟩|⟨z,hz,rfl,rfl⟩|⟨u,rfl⟩|⟨u,rfl⟩
  · rcases V4 i with⟨m,rfl⟩|⟨m,hm,rfl⟩
    · rw[S9]at er;have nd:∀c y,dg m=c::y->c≠45:=λc y ec=>by have:=Q7 m c (by rw[ec];exact zh ..);lia
      have sn:sgn= []:=by
       rcases hs with⟨rfl,q⟩|⟨rfl,q⟩
       · rcases kd:dg m with _|⟨c,y⟩
         ·exact absurd kd (E6 m)
         ·rw[er,kd]at q;exact absurd (zi q).1 (nd c y kd)
       ·rfl
      subst sn;have e2:ds++post=dg m++r:=by rw[<-e1,<-er,e];rfl
      obtain⟨rfl,rfl⟩:=Q5 e2 k (Q7 m) o st.2;exact⟨m,hi,rfl,rfl,λz=>(nomatch z),by rw[S9];rfl,by rw[if_neg (λz=>nomatch z),Yw]⟩
    · rw[F4 m hm]at er;have sn:sgn= [45]:=hsg.mp (by rw[er];rfl);subst sn;have e3:45::r1=45::(dg m++r):=by rw[<-show d7=45::r1 from e];exact er
      have e2:ds++post=dg m++r:=by rw[<-e1];exact(zi e3).2
      obtain⟨rfl,rfl⟩:=Q5 e2 k (Q7 m) o st.2;refine⟨m,?_,rfl,rfl,λ_=>hm,F4 m hm,by rw[if_pos rfl,Int.mul_neg,Yw]⟩;unfold smI at hi ⊢;lia
  ·exact(hT r er st).elim
  ·exact(hF r er st).elim
  ·exact absurd rfl (hno _ _ er).1
  ·exact absurd rfl (hno _ _ er).2.1
  ·exact absurd rfl (hno _ _ er).2.2
 refine d9.mpr<| v7<| J5<| u0 (x:=.str T) rfl<| j9<| bin_w<| b8 (a:=.int pre.length) (G':=G) rfl<| b8 (fB (sg:=d7.take 1) rfl WE)<| J6.mpr<| b8 (a:= [.str ("0123456789" :Str)]) (G':=G) rfl<| Q9.mpr ⟨rfl,eE rY Pg ea h1 k o ?_⟩;refine d9.mpr<| J3<| (pW (sg:=d7.take 1) (ds:=ds) (by lia)).mono λb G1 q=>?_;obtain⟨rfl,qt,qf⟩:=q;refine⟨λz=>(kY (p:=pre.length) (n:=n) (d7:=d7) λv t r er ok st=>?_).mono λfl G2 q=>?_,λz=>m7.mpr ?_⟩
 rotate_left
 ·obtain⟨d,rfl,q⟩:=q;exact⟨d,rfl,q⟩
 rotate_left
 ·obtain⟨m,hm,rfl,_,h0,_⟩:=com v t r er ok st;exact qt z (Kc hm λy=>h0 (hsg.mp y))
 · obtain⟨m,rfl,hb,sm,h0⟩:=wp (sg:=d7.take 1) (Classical.em _) k (qf z);have bs:E5 (m:Int) (if sgn= [45]then -1 else 1):=.inr (by split<;>decide);have esg:(if decide (d7.take 1= [45])=true then (1:Int)else 0)=if sgn= [45]then 1 else 0:=by
    by_cases y:sgn= [45]
    ·rw[if_pos (decide_eq_true (hsg.mpr y)),if_pos y]
    ·rw[if_neg (by simp;exact λz=>y (hsg.mp z)),if_neg y]
   refine o6<| O9.mpr<| j9<| bin_w<| J5<| u0 (x:=.str (ofL (dg m))) rfl<| m8.mpr<|?_;rw[<-S9 m];refine OJ sm<| bin_w<| O9.mpr<| b8 (a:= [.int 1,.int (-1)]) rfl ⟨sz,b8 (fB (sg:=d7.take 1) rfl WE) ?_⟩;rw[esg];refine(N6 j8).mpr ⟨.int (if sgn= [45]then -1 else 1),by split<;>rfl,(KB bs).mpr<| j9<| bin_w<| bin_w<| b8 (a:=.int pre.length) rfl<| b8 (fB (sg:=d7.take 1) rfl WE)<| J6.mpr<| O6 (as:= [.str (ofL (nmL m))]) rfl<| (K4 (by show (nmL m).length<=_;have:=x9 sm;have:=big;lia)).mpr<| J6.mpr<| m8.mpr ⟨sz,?_⟩⟩;refine⟨_,rfl,Ap.one.trans Ap.one,some (.int ((m:Int)*(if sgn= [45]then -1 else 1)),sgn++dg m),⟨_,by simp,rfl,?_⟩,?_,?_⟩
   · rw[j8,ea];have e5:((pre++sgn).length:Int)+((ofL (nmL m)).length:Nat)= (pre.length:Int)+(sgn++dg m).length:=by
      show ((pre++sgn).length:Int)+((nmL m).length:Nat)=_;rw[S9];simp;lia
     rw[e5]
   · intro v t ev
     cases ev
     refine⟨?_,post,by rw[e,e1];simp⟩;rcases hs with⟨rfl,q⟩|⟨rfl,q⟩
     ·have hm:=h0 q;rw[if_pos rfl,Int.mul_neg,Yw];exact⟨.i (by unfold smI at sm;show (-(m:Int)).natAbs<=_;lia),(F4 m hm).symm⟩
     ·rw[if_neg (λz=>nomatch z),Yw];exact⟨.i sm,(S9 m).symm⟩
   ·intro v t r er ok st;obtain⟨m2,hm2,ed,_,_,rfl,rfl⟩:=com v t r er ok st;have:m=m2:=gQ (HF sm) ed;rw[this]
end
theorem i9{c:Nat}{l:List Nat}(z:l.take 1= [c]):∃r,l=c::r:=by
 rcases l with _|⟨d,y⟩
 ·cases z
 ·exact⟨y,by rw[(zi z).1]⟩
section
variable{T:Str}{G:DH}
theorem QS{rn:List Nat}:inD (.str (ofL rn)) (.tup [.str ("true" :Str),.str ("false" :Str)]) G=some (.ok (.bl (decide (cT=rn)||decide (cF=rn))),G):=by have e:inD (.str (ofL rn)) (.tup [.str ("true" :Str),.str ("false" :Str)]) G=some (.ok (.bl (eqV (.str ("true" :Str)) (.str (ofL rn))||(eqV (.str ("false" :Str)) (.str (ofL rn))||false))),G):=rfl;have e2:∀a b:Str,eqV (.str a) (.str b)= (a==b):=λa b=>rfl;rw[e,e2,e2,cG,OI,eqS,eqS,Bool.or_false]
theorem Mp{pre rn post:List Nat}{n:Nat}{s3 s5 s6:Option D}(hz:T.length<=900000)(h:tl T=pre++(rn++post))(hr:∀c∈rn,97<=c/\c<=122)(ho:C3 97 122 post)(hno:∀c r,rn++post=c::r->c≠34/\c≠91/\c≠123):
 Wp (ZW (zS T pre.length ((rn++post).take 1) s3 (some (.str (ofL rn))) s5 s6)) G (LE G pre.length n (rn++post)):=by
 have bg:=big;have hl:=congrArg zW h;rw[v4]at hl;simp at hl;have hrl:(ofL rn).length<=ze:=by show rn.length<=_;lia
 refine d9.mpr<| J3<| m5<| bin_w<| b8 (a:=.str (ofL rn)) (G':=G) rfl<| b8 (a:=.tup [.str ("true" :Str),.str ("false" :Str)]) (G':=G) rfl<| b8 QS ⟨_,rfl,λk=>?_,λk=>?_⟩
 · rw[Yg,decide_eq_true_iff,decide_eq_true_iff]at k;refine o6<| O9.mpr<| j9<| bin_w<| b8 (a:=.str (ofL rn)) (G':=G) rfl<| b8 (a:=.str ("true" :Str)) (G':=G) rfl<| F8.mpr<| j9<| bin_w<| b8 (a:=.int pre.length) (G':=G) rfl<| O6 (as:= [.str (ofL rn)]) rfl<| (K4 hrl).mpr<| J6.mpr<| m8.mpr ⟨sz,?_⟩;rw[cG,eqS];refine⟨_,rfl,Ap.one,some (.bl (decide (rn=cT)),rn),⟨_,zk _,rfl,j8⟩,?_,?_⟩
   · intro v t ev
     cases ev
     refine⟨?_,post,rfl⟩;rcases k with rfl|rfl
     ·exact⟨.b,rfl⟩
     ·exact⟨.b,rfl⟩
   · intro v t r er ok st;rcases pE ok with⟨i,hi,rfl,rfl⟩|⟨rfl,rfl⟩|⟨rfl,rfl⟩|⟨z,hz,rfl,rfl⟩|⟨u,rfl⟩|⟨u,rfl⟩
     · obtain⟨c,y,e',hc⟩:=wC i;rw[e']at er;rcases k with rfl|rfl
       ·have:=(zi er).1;lia
       ·have:=(zi er).1;lia
     ·obtain⟨rfl,rfl⟩:=Q5 er hr (by decide) ho st.1;rfl
     ·obtain⟨rfl,rfl⟩:=Q5 er hr (by decide) ho st.1;rfl
     ·exact absurd rfl (hno _ _ er).1
     ·exact absurd rfl (hno _ _ er).2.1
     ·exact absurd rfl (hno _ _ er).2.2
 · rw[xz,decide_eq_false_iff_not,decide_eq_false_iff_not]at k;refine m7.mpr<| eP hz h hno (λr er st=>?_) λr er st=>?_
   ·exact k.1 (Q5 er hr (by decide) ho st.1).1.symm
   ·exact k.2 (Q5 er hr (by decide) ho st.1).1.symm
theorem nJ{pre d7:List Nat}{n:Nat}{s3 s4 s5 s6:Option D}(hz:T.length<=900000)(h:tl T=pre++d7)(hno:∀c r,d7=c::r->c≠91/\c≠123):
 Wp (ZC (zS T pre.length (d7.take 1) s3 s4 s5 s6)) G (LE G pre.length n d7):=by
 have Pg:T.length<=ze:=zw hz (by decide);by_cases q:∃r,d7=34::r
 · obtain⟨r,rfl⟩:=q;obtain⟨rn,post,rfl,hr,ho⟩:=E7 97 122 r;have h1:tl T= (pre++[34])++rn++post:=by rw[h];simp
   refine d9.mpr<| v7<| J5<| u0 (x:=.str T) rfl<| j9<| bin_w<| b8 (a:=.int pre.length) (G':=G) rfl<| b8 (fB (sg:= [34]) rfl IC)<| J6.mpr<| b8 (a:= [.str ("abcdefghijklmnopqrstuvwxyz" :Str)]) (G':=G) rfl<| Q9.mpr ⟨rfl,eE NG Pg (by simp) h1 hr ho ?_⟩;refine d9.mpr<| J3<| m5<| b8 (P7 (sg:= [34]) rfl IC) ⟨_,rfl,λ_=>(Cc (n:=n) hz h hr ho).mono λfl G2 q=>?_,λz=>nomatch z⟩;obtain⟨d,rfl,q⟩:=q;exact⟨d,rfl,q⟩
 · obtain⟨rn,post,rfl,hr,ho⟩:=E7 97 122 d7;have hn:¬(rn++post).take 1= [34]:=λz=>q (i9 z);have h1:tl T=pre++rn++post:=by rw[h];simp
   refine d9.mpr<| v7<| J5<| u0 (x:=.str T) rfl<| j9<| bin_w<| b8 (a:=.int pre.length) (G':=G) rfl<| b8 (fB (sg:=(rn++post).take 1) rfl IC)<| J6.mpr<| b8 (a:= [.str ("abcdefghijklmnopqrstuvwxyz" :Str)]) (G':=G) rfl<| Q9.mpr ⟨rfl,eE NG Pg (by simp[hn]) h1 hr ho ?_⟩;refine d9.mpr<| J3<| m5<| b8 (P7 (sg:=(rn++post).take 1) rfl IC) ⟨_,rfl,λz=>absurd (of_decide_eq_true z) hn,λ_=>m7.mpr ?_⟩;exact Mp hz h hr ho λc r e=>⟨λz=>q ⟨r,by rw[e,z]⟩,hno c r e⟩
end
theorem FU(R:List D->M D):K8 R=seqS (J1 (lstE F0) i3) (gdQ (tBn eqD (sliceT g0 (partO i0) (partO (binE addD i0 A0))) B0) (lstE (M0 (S3 F0) (binE addD i0 A0))) (seqS (V1 YT (YB R)) (retS (lstE F0)))):=rfl
def LAt(T:Str)(F:List D->M D)(n:Nat):Prop:=∀ {pre d7:List Nat} {G:DH},tl T=pre++d7->Nst n d7->Wp (F [.str T,.int pre.length]) G λd G'=>Ap G G'/\∃o,LR G.length G' d pre.length o/\Sp (n+1) d7 o
abbrev uS(T:Str)(a:Int)(cl:Nat)(b:Bool)(c:Nat)(s5 s6:Option D):DSt:= [some (.str T),some (.int a),some (.str ⟨#[cl]⟩),some (.bl b),sRf c,s5,s6]
def el(b:Bool)(nm:Str)(v:D):D:=if b then .tup [.str nm,v]else v
def R0(fl:Fl)(G:DH):Prop:=∃q,fl= .rt (.ref q)/\G[q]? =some (.lst [])
def R1(vs:List D)(a:Int)(fl:Fl)(G:DH):Prop:=∃q,fl= .rt (.ref q)/\G[q]? =some (.lst [.tup vs,.int a])
section
variable{T:Str}{R:List D->M D}{n cl c:Nat}{b:Bool}{nm:Str}{G0 G:DH}{s6:Option D}{pre:List Nat}{dn:List D}
theorem vH{U:DSt}(g:Gr G0 G):Wp (retS (lstE F0) U) G λfl G'=>Gr G0 G'/\R0 fl G':=o6<| b8 (a:=.ref G.length) (G':=G++[.lst []]) rfl ⟨g.trans Gr.app,_,rfl,j8⟩
theorem cS{t r:List Nat}{v:D}{q:Nat}{s5:Option D}(hz:T.length<=ze)(h:tl T= (pre++t)++r)(g:Gr G0 G)(hc:G[c]? =some (.lst dn))(hd:dn.length<=900000)(hq:G[q]? =some (.lst [v,.int ((pre.length:Int)+t.length)])){a0:Int}:
 Wp (YC (uS T a0 cl b c s5 (some (.ref q)))) G λfl G'=>Gr G0 G'/\((∃r1,r=cl::r1/\R1 dn ((pre.length:Int)+t.length+1) fl G')\/
  (cl≠44/\∃r2,r=44::32::r2/\fl= .nx (uS T ((pre.length:Int)+t.length+2) cl b c s5 (some (.ref q)))/\G'[c]? =some (.lst dn))\/
  ((∀r1,r≠cl::r1)/\(∀r2,r≠44::32::r2)/\R0 fl G')):=by
 have bg:=big;have el:((pre++t).length:Int)= (pre.length:Int)+t.length:=by simp
 refine d9.mpr<| v7<| bin_w<| b8 (a:=.ref q) (G':=G) rfl<| b8 (a:=.int 1) (G':=G) rfl<| (N6 hq).mpr ⟨_,rfl,?_⟩;rw[<-el];refine d9.mpr<| J3<| m5<| bin_w<| g9 (k:=1) hz h rfl rfl rfl<| b8 (a:=.str ⟨#[cl]⟩) (G':=G) rfl<| F8.mpr ?_;rw[show (⟨#[cl]⟩:Str)=ofL [cl]from rfl,eqS];refine⟨_,rfl,λk=>?_,λk=>m7.mpr ?_⟩
 ·obtain⟨r1,rfl⟩:=i9 (of_decide_eq_true k);refine o6<| O9.mpr<| j9<| O6 (as:= [.ref c]) rfl<| (W9 hc).mpr<| b8 (a:= [.int (((pre++t).length:Int)+1)]) (G':=G) rfl ⟨sz,g.trans Gr.app,.inl ⟨r1,rfl,_,rfl,j8⟩⟩
 · have k:=of_decide_eq_false k;have nk:∀r1,r≠cl::r1:=λr1 z=>k (by rw[z];rfl);refine d9.mpr<| J3<| m5<| bin_w<| g9 (k:=2) hz h rfl rfl rfl<| b8 (a:=.str (", " :Str)) (G':=G) rfl<| dI.mpr ?_;rw[show (", " :Str)=ofL [44,32]from rfl,eqS];refine⟨_,rfl,λk2=>?_,λk2=>m7.mpr ?_⟩
   ·rw[yK]at k2;have k2:=of_decide_eq_false k2;refine(vH g).mono λfl G2 q=>?_;obtain⟨g2,q2,rfl,e2⟩:=q;exact⟨g2,.inr (.inr ⟨nk,λr2 z=>k2 (by rw[z];rfl),q2,rfl,e2⟩)⟩
   · rw[yC]at k2;have k2:=of_decide_eq_true k2;obtain⟨r2,rfl⟩:∃r2,r=44::32::r2:=by
      rcases r with _|⟨a,_|⟨d,y⟩⟩
      ·cases k2
      ·cases k2
      ·have k3:=zi k2;exact⟨y,by rw[k3.1,(zi k3.2).1]⟩
     exact b8 (a:=.nx (uS T (((pre++t).length:Int)+2) cl b c s5 (some (.ref q)))) (G':=G) rfl ⟨g,.inr (.inl ⟨λz=>nk (32::r2) (by rw[z]),r2,rfl,rfl,hc⟩)⟩
theorem lL{d7:List Nat}(hz:T.length<=900000)(hA:LAt T (R7 R) n)(h:tl T=pre++d7)(hN:Nst n d7)(g:Gr G0 G)(hle:G0.length<=c)(e:G[c]? =some (.lst dn))(hd:dn.length<900000):
 Wp (YL R (uS T pre.length cl b c (some (.str nm)) s6)) G λfl G'=>Gr G0 G'/\∃o,Sp (n+1) d7 o/\((o=none/\R0 fl G')\/
  (∃v t r1,o=some (v,t)/\d7=t++cl::r1/\R1 (dn++[el b nm v]) ((pre.length:Int)+t.length+1) fl G')\/
  (∃v t r2 s6',o=some (v,t)/\cl≠44/\d7=t++44::32::r2/\fl= .nx (uS T ((pre.length:Int)+t.length+2) cl b c (some (.str nm)) s6')/\G'[c]? =some (.lst (dn++[el b nm v])))\/
  (∃v t r,o=some (v,t)/\d7=t++r/\(∀r1,r≠cl::r1)/\(∀r2,r≠44::32::r2)/\R0 fl G')):=by
 have bg:=big;have Pg:T.length<=ze:=zw hz (by decide);refine d9.mpr<| v7<| o4 (as:= [.str T,.int pre.length]) rfl rfl<| (hA h hN).mono λd G1 q=>?_;obtain⟨j1,o,⟨q,lq,rfl,eq⟩,sp⟩:=q;have e1:=j1.at e;have g1:=g.trans j1.gr;rcases o with _|⟨v,t⟩
 ·refine d9.mpr<| J3<| m5<| bin_w<| b8 (a:=.ref q) (G':=G1) rfl<| b8 (a:=.ref G1.length) (G':=G1++[.lst []]) rfl<| (c8 (o9 eq) j8).mpr ⟨_,rfl,λ_=>(vH (g1.trans Gr.app)).mono λfl G2 z=>?_,λz=>nomatch z⟩;obtain⟨g2,q2,rfl,e2⟩:=z;exact⟨g2,none,sp,.inl ⟨rfl,q2,rfl,e2⟩⟩
 · refine d9.mpr<| J3<| m5<| bin_w<| b8 (a:=.ref q) (G':=G1) rfl<| b8 (a:=.ref G1.length) (G':=G1++[.lst []]) rfl<| (c8 (o9 eq) j8).mpr ⟨_,rfl,λz=>(nomatch z),λ_=>m7.mpr ?_⟩;have eq2:(G1++[DO.lst []])[q]? =some (.lst [v,.int ((pre.length:Int)+t.length)]):=o9 eq;have e2:(G1++[DO.lst []])[c]? =some (.lst dn):=o9 e1;have g2:Gr G0 (G1++[DO.lst []]):=g1.trans Gr.app;generalize G1++[DO.lst []]=G2 at eq2 e2 g2;have el0:(if b=true then (1:Int)else 0)=if b then 1 else 0:=rfl;refine d9.mpr<| vG.mpr<| UA.mpr<| b8 (a:=.ref c) (G':=G2) rfl<| (rF e2).mpr<| j9<| bin_w<| O9.mpr<| j9<| bin_w<| b8 (a:=.ref q) (G':=G2) rfl<| b8 (a:=.int 0) (G':=G2) rfl<| (N6 eq2).mpr ⟨v,rfl,j9<| T3.mpr<| u0 (x:=.str nm) rfl<| j9<| bin_w<| b8 (a:=.ref q) (G':=G2) rfl<| b8 (a:=.int 0) (G':=G2) rfl<| (N6 eq2).mpr ⟨v,rfl,m8.mpr ⟨sz,m8.mpr ⟨sz,b8 (a:=.int (if b then 1 else 0)) rfl<| (N6 j8).mpr ⟨el b nm v,by rcases b with _|_<;>rfl,m8.mpr<| (oG (o9 e2) (by lia)).mpr ?_⟩⟩⟩⟩⟩;have lc:=lt_of_get e2;have e3:((G2++[DO.lst [v,.tup [.str nm,v]]]).set c (.lst (dn++[el b nm v])))[c]? =some (.lst (dn++[el b nm v])):=zU (by simp;lia);have g3:Gr G0 ((G2++[DO.lst [v,.tup [.str nm,v]]]).set c (.lst (dn++[el b nm v]))):=(g2.trans Gr.app).set hle;obtain⟨G3,hG3⟩:∃G3,G3= (G2++[DO.lst [v,.tup [.str nm,v]]]).set c (.lst (dn++[el b nm v])):=⟨_,rfl⟩;rw[<-hG3]at e3 g3 ⊢;have nq:q≠c:=by have:=lt_of_get e;lia
   have eq3:G3[q]? =some (.lst [v,.int ((pre.length:Int)+t.length)]):=by rw[hG3,jm (Ne.symm nq)];exact o9 eq2
   obtain⟨⟨ok,r,er⟩,_⟩:(okV (n+1) v t/\∃r,d7=t++r)/\True:=⟨sp.1 v t rfl,trivial⟩;have h1:tl T= (pre++t)++r:=by rw[h,er];simp
   refine(cS (pre:=pre) (a0:=pre.length) Pg h1 g3 e3 (by simp;lia) eq3).mono λfl G4 z=>?_;obtain⟨g4,z⟩:=z;refine⟨g4,some (v,t),sp,?_⟩;rcases z with⟨r1,rfl,z⟩|⟨n44,r2,rfl,rfl,z⟩|⟨z1,z2,z⟩
   ·exact .inr (.inl ⟨v,t,r1,rfl,er,z⟩)
   ·exact .inr (.inr (.inl ⟨v,t,r2,_,rfl,n44,er,rfl,z⟩))
   ·exact .inr (.inr (.inr ⟨v,t,r,rfl,er,z1,z2,z⟩))
end
section
variable{ok:D->List Nat->Prop}{C:List D->Prop}{cl:Nat}{dn:List D}{d7:List Nat}
def ESp(ok:D->List Nat->Prop)(C:List D->Prop)(dn:List D)(d7:List Nat)(o:Option (D×List Nat)):Prop:=(∀v t,o=some (v,t)->ok v t/\C (dn++[v])/\∃r,d7=t++r)/\∀v t r,d7=t++r->ok v t->C (dn++[v])->stp r->o=some (v,t)
def PSp(ok:D->List Nat->Prop)(C:List D->Prop)(cl:Nat)(dn:List D)(d7:List Nat)(o:Option (List D×List Nat)):Prop:=(∀vs t,o=some (vs,t)->PO ok vs t/\C (dn++vs)/\∃r,d7=t++cl::r)/\∀vs t r,d7=t++cl::r->PO ok vs t->C (dn++vs)->o=some (vs,t)
theorem aJ{c:Nat}{r:List Nat}(h:¬(97<=c/\c<=122)/\¬(48<=c/\c<=57)):stp (c::r):=⟨λa b e=>by rw[<-(zi e).1];exact h.1,λa b e=>by rw[<-(zi e).1];exact h.2⟩
variable(hcl:¬(97<=cl/\cl<=122)/\¬(48<=cl/\cl<=57))(hC:∀a b,C (a++b)->C a)
include hcl hC
theorem gI{o:Option (D×List Nat)}(h:ESp ok C dn d7 o){vs:List D}{t r:List Nat}(e:d7=t++cl::r)(p:PO ok vs t)(c:C (dn++vs)):
 (∃v,vs= [v]/\o=some (v,t))\/∃v Pd t1 u,vs=v::Pd/\t=t1++([44,32]++u)/\o=some (v,t1)/\PO ok Pd u:=by
 cases p with
 |@one v t k=>exact .inl ⟨v,rfl,h.2 v t _ e k c (aJ hcl)⟩
 |@more v vs t u k q=>
   refine .inr ⟨v,vs,t,u,rfl,rfl,h.2 v t (44::32::(u++cl::r)) (by rw[e];simp) k (hC (dn++[v]) vs (by simpa using c)) (aJ (by decide)),q⟩
theorem rB{o:Option (D×List Nat)}(h:ESp ok C dn d7 o)(k:∀v t r,o=some (v,t)->d7=t++r->(∀r1,r≠cl::r1)/\∀r2,r≠44::32::r2):PSp ok C cl dn d7 none:=by
 refine⟨λvs t z=>(nomatch z),λvs t r e p c=>?_⟩;rcases gI hcl hC h e p c with⟨v,rfl,eo⟩|⟨v,Pd,t1,u,rfl,rfl,eo,_⟩
 ·exact absurd rfl ((k v t (cl::r) eo e).1 r)
 ·exact absurd rfl ((k v t1 (44::32::(u++cl::r)) eo (by rw[e];simp)).2 _)
theorem QI{v:D}{t r1:List Nat}(h:ESp ok C dn d7 (some (v,t)))(e1:d7=t++cl::r1)(h44:cl≠44):PSp ok C cl dn d7 (some ([v],t)):=by
 refine⟨λvs t' z=>?_,λvs t' r e p c=>?_⟩
 · cases z
   obtain⟨a,b,_⟩:=h.1 v t rfl;exact⟨.one a,b,r1,e1⟩
 · rcases gI hcl hC h e p c with⟨v,rfl,eo⟩|⟨v,Pd,t1,u,rfl,rfl,eo,_⟩
   ·cases eo;rfl
   · cases eo
     have e:t++cl::r1=t++(44::32::(u++cl::r)):=by rw[<-e1,e];simp
     exact absurd (zi (yU e)).1 h44
theorem tQ{v:D}{t r2:List Nat}{o:Option (List D×List Nat)}(h:ESp ok C dn d7 (some (v,t)))(e1:d7=t++44::32::r2)(h44:cl≠44)(ih:PSp ok C cl (dn++[v]) r2 o):
 PSp ok C cl dn d7 (o.map λx=>(v::x.1,t++([44,32]++x.2))):=by
 refine⟨λvs t' z=>?_,λvs t' r e p c=>?_⟩
 · rcases o with _|⟨ws,u⟩
   ·cases z
   · cases z
     obtain⟨a,_,_⟩:=h.1 v t rfl;obtain⟨b,c,r,er⟩:=ih.1 ws u rfl;exact⟨.more a b,by simpa using c,r,by rw[e1,er];simp⟩
 · rcases gI hcl hC h e p c with⟨v,rfl,eo⟩|⟨v,Pd,t1,u,rfl,rfl,eo,q⟩
   · cases eo
     have e:t++cl::r=t++(44::32::r2):=by rw[<-e1,e]
     exact absurd (zi (yU e)).1 h44
   · cases eo
     have e:t++(44::32::(u++cl::r))=t++(44::32::r2):=by rw[<-e1,e];simp
     have e:=(zi (zi (yU e)).2).2;rw[ih.2 Pd u r e.symm q (by simpa using c)];rfl
end
def C6(ok:D->List Nat->Prop)(C:List D->Prop)(cl:Nat)(dn:List D)(d7:List Nat)(p:Int)(fl:Fl)(G:DH):Prop:=∃o,PSp ok C cl dn d7 o/\((o=none/\(R0 fl G\/∃ U,fl= .nx U))\/∃vs t,o=some (vs,t)/\R1 (dn++vs) (p+t.length+1) fl G)
theorem C6.nil{ok:D->List Nat->Prop}{C:List D->Prop}{cl:Nat}{dn:List D}{p:Int}{U:DSt}{G:DH}:C6 ok C cl dn [] p (.nx U) G:=
 ⟨none,⟨λ_ _ z=>(nomatch z),λvs t r e=>by have:=congrArg zW e;simp at this⟩,.inl ⟨rfl,.inr ⟨U,rfl⟩⟩⟩
theorem C6.more{ok:D->List Nat->Prop}{C:List D->Prop}{cl:Nat}{dn:List D}{d7 t r2:List Nat}{v:D}{p p2:Int}{fl:Fl}{G:DH}(hcl:¬(97<=cl/\cl<=122)/\¬(48<=cl/\cl<=57))(hC:∀a b,C (a++b)->C a)(h:ESp ok C dn d7 (some (v,t)))(e1:d7=t++44::32::r2)(h44:cl≠44)
 (ep:p2=p+t.length+2) (ih:C6 ok C cl (dn++[v]) r2 p2 fl G):C6 ok C cl dn d7 p fl G:=by
 obtain⟨o,sp,q⟩:=ih;refine⟨_,tQ hcl hC h e1 h44 sp,?_⟩;rcases q with⟨rfl,q⟩|⟨vs,u,rfl,q,rfl,eq⟩
 ·exact .inl ⟨rfl,q⟩
 · refine .inr ⟨_,_,rfl,q,rfl,?_⟩;rw[eq];have e5:p2+(u.length:Nat)+1=p+((t++([44,32]++u)).length:Nat)+1:=by rw[ep];simp;lia
   rw[e5,zu];rfl
theorem kP{n:Nat}{dn:List D}{d7:List Nat}{o:Option (D×List Nat)}(h:Sp n d7 o):ESp (okV n) (λ_=>True) dn d7 o:=⟨λv t e=>⟨(h.1 v t e).1,trivial,(h.1 v t e).2⟩,λv t r e k _ s=>h.2 v t r e k s⟩
section
variable{T:Str}{R:List D->M D}{n c:Nat}{G0:DH}
theorem lK(hz:T.length<=900000)(hA:LAt T (R7 R) n)(hle:G0.length<=c):∀(k:Nat) (dn:List D) (pre d7:List Nat) (s5 s6:Option D) (G:DH),d7.length<k->tl T=pre++d7->Nst n d7->Gr G0 G->G[c]? =some (.lst dn)->dn.length+d7.length<=900000->
 Wp (J0 k YT (YB R) (uS T pre.length 93 false c s5 s6)) G λfl G'=>Gr G0 G'/\C6 (okV (n+1)) (λ_=>True) 93 dn d7 pre.length fl G'
 |0,dn,pre,d7,s5,s6,G,hk,h,hN,g,e,hl=>absurd hk (XE _)
 |k+1,dn,pre,d7,s5,s6,G,hk,h,hN,g,e,hl=>by
   have bg:=big;have Pg:T.length<=ze:=zw hz (by decide);have lT:=congrArg zW h;rw[v4,za]at lT;refine X5.mpr<| m5<| bin_w<| b8 (a:=.int pre.length) (G':=G) rfl<| O6 (as:= [.str T]) rfl<| (K4 Pg).mpr<| t9.mpr ⟨_,rfl,?_⟩;rcases d7 with _|⟨x,y⟩
   · have:¬((pre.length:Int)<(T.length:Int)):=by simp at lT;lia
     rw[decide_eq_false this,if_neg zG];exact⟨g,.nil⟩
   · have:(pre.length:Int)<(T.length:Int):=by simp at lT;lia
     rw[decide_eq_true this,if_pos rfl];refine w6 (X2:=uS T pre.length 93 false c (some (.str ("" :Str))) s6) (G':=G) rfl<| w6 (X2:=uS T pre.length 93 false c (some (.str ("" :Str))) s6) (G':=G) rfl<| (lL (cl:=93) (b:=false) hz hA h hN g hle e (by simp at hl;lia)).mono λfl G1 q=>?_;obtain⟨g1,o,sp,q⟩:=q;have es:=kP (dn:=dn) sp;rcases q with⟨rfl,q⟩|⟨v,t,r1,rfl,er,q⟩|⟨v,t,r2,s6',rfl,h44,er,rfl,e1⟩|⟨v,t,r,rfl,er,n1,n2,q⟩
     ·obtain⟨q,rfl,eq⟩:=q;exact⟨g1,none,rB (by decide) (λ_ _ _=>trivial) es (λv t r z=>nomatch z),.inl ⟨rfl,.inl ⟨q,rfl,eq⟩⟩⟩
     ·obtain⟨q,rfl,eq⟩:=q;exact⟨g1,_,QI (by decide) (λ_ _ _=>trivial) es er (by decide),.inr ⟨_,_,rfl,q,rfl,eq⟩⟩
     · have ok:=(sp.1 v t rfl).1;have lr:=congrArg zW er;rw[za]at lr;have tp:0<t.length:=jI.mpr (ME v t ok);simp only[zp]at lr hk hl;have h2:tl T= (pre++t++[44,32])++r2:=by rw[h,er];simp
       have e5:(pre.length:Int)+t.length+2= ((pre++t++[44,32]).length:Int):=by simp;lia
       have bal:Bal (t++[44,32]):=by rw[ok.2];exact ok.1.bal.app (K5 (by decide))
       have hN2:Nst n r2:=Nst.skip (a:=t++[44,32]) (by rw[er]at hN;simpa using hN) bal;dsimp only;rw[e5];refine(lK hz hA hle k (dn++[v]) (pre++t++[44,32]) r2 _ _ G1 (by lia) h2 hN2 g1 e1 (by rw[za];simp;lia)).mono λfl G2 q=>?_;exact⟨q.1,C6.more (by decide) (λ_ _ _=>trivial) es er (by decide) e5.symm q.2⟩
     · obtain⟨q,rfl,eq⟩:=q;refine⟨g1,none,rB (by decide) (λ_ _ _=>trivial) es (λv' t' r' z er'=>?_),.inl ⟨rfl,.inl ⟨q,rfl,eq⟩⟩⟩
       cases z
       have:r'=r:=yU (by rw[<-er',er]);rw[this];exact⟨n1,n2⟩
end
def nmD:D->Str
 | .tup [.str nm,_]=>nm
 |_=>⟨#[]⟩
def CR(l:List D):Prop:=(l.map nmD).Pairwise LtS
theorem LB(a b:List D)(h:CR (a++b)):CR a:=by unfold CR at *;rw[yd]at h;exact(jW.mp h).1
theorem qD(ps:List (Str×D)):(ps.map prD).map nmD=ps.map (·.1):=by rw[Zq];rfl
theorem tV{a b c:Str}(h:LtS a b)(k:LtS b c):LtS a c:=List.lt_trans h k
theorem SK{ps:List (Str×D)}{nm:Str}{v:D}(h:CR (ps.map prD))(k:∀p,ps.getLast? =some p->LtS p.1 nm):CR (ps.map prD++[.tup [.str nm,v]]):=by
 unfold CR at *;rw[yd,qD]at *;refine jW.mpr ⟨h,ZL _ _,λa ha b hb=>?_⟩;rw[zR.mp hb];show LtS a nm;rcases JN ps with rfl|⟨qs,q,rfl⟩
 ·cases ha
 · have kq:=k q (by simp);rw[List.concat_eq_append,yd]at h ha;rcases jw.mp ha with ha|ha
   ·exact tV ((jW.mp h).2.2 a ha q.1 (by simp)) kq
   · have:a=q.1:=by simpa using ha
     rw[this];exact kq
theorem GT{ps:List (Str×D)}{nm:Str}{v:D}(h:CR (ps.map prD++[.tup [.str nm,v]])){p:Str×D}(e:ps.getLast? =some p):LtS p.1 nm:=by unfold CR at h;rw[yd,qD]at h;refine(jW.mp h).2.2 p.1 (zM.mpr ⟨p,List.mem_of_getLast? e,rfl⟩) nm ?_;exact zR.mpr rfl
def okN(ps:List (Str×D))(rn post:List Nat):Prop:=rn≠ []/\(∃r,post=58::32::r)/\∀p,ps.getLast? =some p->LtS p.1 (ofL rn)
section
variable{T:Str}{c:Nat}{G:DH}{pre rn post:List Nat}{ps:List (Str×D)}{s6:Option D}
theorem tX(hz:T.length<=900000)(h:tl T= (pre++rn)++post)(e:G[c]? =some (.lst (ps.map prD))):
 Wp (YP (uS T (((pre++rn).length:Int)+2) 125 true c (some (.str (ofL rn))) s6)) G λb G'=>Ap G G'/\(b=true->¬okN ps rn post)/\(b=false->okN ps rn post):=by
 have Pg:T.length<=ze:=zw hz (by decide);refine S4<| m5<| bin_w<| b8 (a:=.str (ofL rn)) (G':=G) rfl<| b8 (a:=.str ("" :Str)) (G':=G) rfl<| F8.mpr ?_;rw[show ("" :Str)=ofL []from rfl,eqS];refine⟨_,rfl,λk=>⟨Ap.refl,λ_ z=>z.1 (of_decide_eq_true k),λz=>nomatch z⟩,λk=>?_⟩;have k0:=of_decide_eq_false k;refine S4<| m5<| bin_w<| g9 (k:=2) Pg h rfl (by show some (Except.ok (D.int (((pre++rn).length:Int)+2-2)),G)=_;rw[Int.add_sub_cancel]) rfl<| b8 (a:=.str (": " :Str)) (G':=G) rfl<| dI.mpr ?_;rw[show (": " :Str)=ofL [58,32]from rfl,eqS];refine⟨_,rfl,λk=>⟨Ap.refl,λ_ z=>?_,λz=>nomatch z⟩,λk=>?_⟩
 ·rw[yK]at k;obtain⟨r,er⟩:=z.2.1;exact of_decide_eq_false k (by rw[er];rfl)
 · rw[yC]at k;have k1:=of_decide_eq_true k;have k2:∃r,post=58::32::r:=by
    rcases post with _|⟨a,_|⟨d,y⟩⟩
    ·cases k1
    ·cases k1
    ·have k3:=zi k1;exact⟨y,by rw[k3.1,(zi k3.2).1]⟩
   refine D6<| m5<| bin_w<| b8 (a:=.ref c) (G':=G) rfl<| b8 (a:=.ref G.length) (G':=G++[.lst []]) rfl<| (PU (o9 e) j8).mpr ⟨_,rfl,λk=>?_,λk=>⟨Ap.one,λz=>(nomatch z),λ_=>⟨k0,k2,λp ep=>?_⟩⟩⟩
   · rcases JN ps with rfl|⟨qs,p,rfl⟩
     ·cases k
     · have ep:(qs.concat p).getLast? =some p:=by simp
       have ai:atI ((qs.concat p).map prD) (-1)=some (prD p):=by
        have e1:(qs.concat p).map prD=qs.map prD++[prD p]:=by simp
        rw[e1];exact Kp _ _
       refine m5<| bin_w<| bin_w<| bin_w<| b8 (a:=.ref c) rfl<| b8 (a:=.int (-1)) rfl<| (N6 (o9 e)).mpr ⟨prD p,ai,b8 (a:=.int 0) rfl<| ix_tup.mpr ⟨.str p.1,rfl,b8 (a:=.str (ofL rn)) rfl<| VV.mpr ⟨_,rfl,Ap.one,λz y=>?_,λz=>⟨k0,k2,λp' ep'=>?_⟩⟩⟩⟩
       ·rw[yK]at z;exact of_decide_eq_false z (y.2.2 p ep)
       · rw[yC]at z;rw[ep]at ep'
         cases ep'
         exact of_decide_eq_true (p:=p.1.cps.toList<(ofL rn).cps.toList) z
   · rw[yC,List.isEmpty_iff,Yx]at k;rw[k]at ep
     cases ep
end
theorem RV{n:Nat}{ps:List (Str×D)}{rn r0:List Nat}{o:Option (D×List Nat)}(hl:rn.length<=900000)(hr:∀c∈rn,97<=c/\c<=122)(hC:CR (ps.map prD))(hn:okN ps rn (58::32::r0))(h:Sp n r0 o):
 ESp (okP (okV n)) CR (ps.map prD) (rn++58::32::r0) (o.map λx=>(.tup [.str (ofL rn),x.1],rn++[58,32]++x.2)):=by
 refine⟨λv t e=>?_,λv t r e k c st=>?_⟩
 · rcases o with _|⟨w,u⟩
   ·cases e
   · cases e
     obtain⟨ok,r,er⟩:=h.1 w u rfl;exact⟨⟨ofL rn,w,u,⟨hr,hl⟩,hn.1,rfl,rfl,ok⟩,SK hC hn.2.2,r,by rw[er];simp⟩
 · obtain⟨nm,w,u,h1,h2,rfl,rfl,ok⟩:=k;have e:rn++(58::32::r0)=tl nm++(58::32::(u++r)):=by rw[e];simp
   obtain⟨e1,e2⟩:=Q5 e hr h1.1 (λc r z=>by cases z;decide) (λc r z=>by cases z;decide);have e2:=(zi (zi e2).2).2;rw[h.2 w u r e2 ok st];show some (D.tup [.str (ofL rn),w],rn++[58,32]++u)=_;rw[show ofL rn=nm from T8 e1,e1]
theorem TR{n:Nat}{ps:List (Str×D)}{rn post:List Nat}(hr:∀c∈rn,97<=c/\c<=122)(ho:C3 97 122 post)(hn:¬okN ps rn post):ESp (okP (okV n)) CR (ps.map prD) (rn++post) none:=by
 refine⟨λv t e=>(nomatch e),λv t r e k c st=>?_⟩;obtain⟨nm,w,u,h1,h2,rfl,rfl,ok⟩:=k;have e:rn++post=tl nm++(58::32::(u++r)):=by rw[e];simp
 obtain⟨e1,e2⟩:=Q5 e hr h1.1 ho (λc r z=>by cases z;decide);exact absurd ⟨by rw[e1];exact h2,⟨_,e2⟩,λp ep=>by rw[show ofL rn=nm from T8 e1];exact GT c ep⟩ hn
theorem mC:¬(97<=125/\125<=122)/\¬(48<=125/\125<=57):=by decide
section
variable{T:Str}{R:List D->M D}{n c:Nat}{G0:DH}
theorem BI(hz:T.length<=900000)(hA:LAt T (R7 R) n)(hle:G0.length<=c):∀(k:Nat) (ps:List (Str×D)) (pre d7:List Nat) (s5 s6:Option D) (G:DH),d7.length<k->tl T=pre++d7->Nst n d7->CR (ps.map prD)->Gr G0 G->G[c]? =some (.lst (ps.map prD))->ps.length+d7.length<=900000->
 Wp (J0 k YT (YB R) (uS T pre.length 125 true c s5 s6)) G λfl G'=>Gr G0 G'/\C6 (okP (okV (n+1))) CR 125 (ps.map prD) d7 pre.length fl G'
 |0,ps,pre,d7,s5,s6,G,hk,h,hN,hC,g,e,hl=>absurd hk (XE _)
 |k+1,ps,pre,d7,s5,s6,G,hk,h,hN,hC,g,e,hl=>by
   have bg:=big;have Pg:T.length<=ze:=zw hz (by decide);have lT:=congrArg zW h;rw[v4,za]at lT;refine X5.mpr<| m5<| bin_w<| b8 (a:=.int pre.length) (G':=G) rfl<| O6 (as:= [.str T]) rfl<| (K4 Pg).mpr<| t9.mpr ⟨_,rfl,?_⟩;by_cases h0:d7= []
   · subst h0;have:¬((pre.length:Int)<(T.length:Int)):=by simp at lT;lia
     rw[decide_eq_false this,if_neg zG];exact⟨g,.nil⟩
   · have lp:0<d7.length:=jI.mpr h0;have:(pre.length:Int)<(T.length:Int):=by lia
     rw[decide_eq_true this,if_pos rfl];obtain⟨rn,post,rfl,hr,ho⟩:=E7 97 122 d7;have h1:tl T= (pre++rn)++post:=by rw[h];simp
     rw[za]at lT hk hl;have hrl:(ofL rn).length<=ze:=by show rn.length<=_;lia
     have e1:(pre.length:Int)+(rn.length:Nat)+2= ((pre++rn).length:Int)+2:=by simp
     refine w6 (X2:=uS T pre.length 125 true c (some (.str ("" :Str))) s6) (G':=G) rfl<| d9.mpr<| J3<| b8 (a:=true) (G':=G) rfl ⟨λ_=>d9.mpr<| v7<| o4 (as:= [.str T,.int pre.length,.str ("abcdefghijklmnopqrstuvwxyz" :Str)]) rfl rfl<| eE NG Pg rfl h1 hr ho ?_,λz=>nomatch z⟩;refine d9.mpr<| v7<| bin_w<| bin_w<| b8 (a:=.int pre.length) (G':=G) rfl<| O6 (as:= [.str (ofL rn)]) rfl<| (K4 hrl).mpr<| J6.mpr<| b8 (a:=.int 2) (G':=G) rfl<| J6.mpr ?_;rw[show ((ofL rn).length:Int)= (rn.length:Nat)from rfl,e1];refine J3<| (tX (s6:=s6) hz h1 e).mono λb G1 q=>?_;obtain⟨j1,qt,qf⟩:=q;have g1:=g.trans j1.gr;refine⟨λhb=>(vH g1).mono λfl G2 q=>?_,λhb=>m7.mpr ?_⟩
     ·obtain⟨g2,q,rfl,eq⟩:=q;exact⟨g2,none,rB mC LB (TR hr ho (qt hb)) (λv t r z=>nomatch z),.inl ⟨rfl,.inl ⟨q,rfl,eq⟩⟩⟩
     · have hn:=qf hb;obtain⟨r0,rfl⟩:=hn.2.1;have h2:tl T= (pre++rn++[58,32])++r0:=by rw[h1];simp
       have e2:((pre++rn).length:Int)+2= ((pre++rn++[58,32]).length:Int):=by simp;lia
       have bal:Bal (rn++[58,32]):=(K5 λc hc=>.inr (hr c hc)).app (K5 (by decide));have hN2:Nst n r0:=Nst.skip (a:=rn++[58,32]) (by simpa using hN) bal;simp only[zp]at lT hk hl;rw[e2];refine(lL (cl:=125) (b:=true) (nm:=ofL rn) hz hA h2 hN2 g1 hle (j1.at e) (by rw[zn];lia)).mono λfl G2 q=>?_;obtain⟨g2,o,sp,q⟩:=q;have es:=RV (by lia) hr hC hn sp;rcases q with⟨rfl,q⟩|⟨v,t,r1,rfl,er,q⟩|⟨v,t,r2,s6',rfl,h44,er,rfl,e3⟩|⟨v,t,r,rfl,er,n1,n2,q⟩
       ·obtain⟨q,rfl,eq⟩:=q;exact⟨g2,none,rB mC LB es (λv t r z=>nomatch z),.inl ⟨rfl,.inl ⟨q,rfl,eq⟩⟩⟩
       · obtain⟨q,rfl,eq⟩:=q;refine⟨g2,_,QI mC LB es (r1:=r1) (by rw[er];simp) (by decide),.inr ⟨_,_,rfl,q,rfl,?_⟩⟩;rw[eq];have e5:((pre++rn++[58,32]).length:Int)+(t.length:Nat)+1= (pre.length:Int)+((rn++[58,32]++t).length:Nat)+1:=by simp;lia
         rw[e5];rfl
       · have ok:=(sp.1 v t rfl).1;have lr:=congrArg zW er;simp only[za,zp]at lr;have h3:tl T= (pre++rn++[58,32]++t++[44,32])++r2:=by rw[h2,er];simp
         have e5:((pre++rn++[58,32]).length:Int)+t.length+2= ((pre++rn++[58,32]++t++[44,32]).length:Int):=by simp;lia
         have bal2:Bal (t++[44,32]):=by rw[ok.2];exact ok.1.bal.app (K5 (by decide))
         have hN3:Nst n r2:=Nst.skip (a:=t++[44,32]) (by rw[er]at hN2;simpa using hN2) bal2;have ed:ps.map prD++[el true (ofL rn) v]= (ps++[(ofL rn,v)]).map prD:=by rw[yd];rfl
         rw[ed]at e3;dsimp only;rw[e5];have hC2:CR ((ps++[(ofL rn,v)]).map prD):=by rw[<-ed];exact SK hC hn.2.2
         refine(BI hz hA hle k (ps++[(ofL rn,v)]) (pre++rn++[58,32]++t++[44,32]) r2 _ _ G2 (by lia) h3 hN3 hC2 g2 e3 (by rw[za];simp;lia)).mono λfl G3 q=>?_;refine⟨q.1,C6.more mC LB es (r2:=r2) (by rw[er];simp) (by decide) (p2:=((pre++rn++[58,32]++t++[44,32]).length:Int)) (by simp;lia) ?_⟩;have:=q.2;rw[<-ed]at this;exact this
       · obtain⟨q,rfl,eq⟩:=q;refine⟨g2,none,rB mC LB es (λv' t' r' z er'=>?_),.inl ⟨rfl,.inl ⟨q,rfl,eq⟩⟩⟩
         cases z
         have e6:rn++[58,32]++t++r'=rn++[58,32]++t++r:=by rw[<-er',er];simp
         have:r'=r:=yU e6;rw[this];exact⟨n1,n2⟩
end
def QR(G:DH)(d:D)(p:Nat)(o:Option (List D×List Nat)):Prop:=∃q,d= .ref q/\G[q]? =some (.lst (match o with|none=> []|some (vs,t)=> [.tup vs,.int ((p:Int)+t.length+1)]))
def POE(ok:D->List Nat->Prop)(vs:List D)(t:List Nat):Prop:=(vs= []/\t= [])\/PO ok vs t
def QSp(ok:D->List Nat->Prop)(C:List D->Prop)(cl:Nat)(d7:List Nat)(o:Option (List D×List Nat)):Prop:=(∀vs t,o=some (vs,t)->POE ok vs t/\C vs/\∃r,d7=t++cl::r)/\∀vs t r,d7=t++cl::r->POE ok vs t->C vs->o=some (vs,t)
theorem SW{ok:D->List Nat->Prop}{cl:Nat}(hh:∀v t,ok v t->∃c r,t=c::r/\c≠cl){vs:List D}{t:List Nat}(h:PO ok vs t):∃c r,t=c::r/\c≠cl:=by
 cases h with
 |one k=>exact hh _ _ k
 |more k _=>
   obtain⟨c,r,rfl,q⟩:=hh _ _ k;exact⟨c,_,rfl,q⟩
section
variable{T:Str}{R:List D->M D}{G:DH}{pre d7:List Nat}{cl:Nat}{b:Bool}{ok:D->List Nat->Prop}{C:List D->Prop}
theorem wL(hz:T.length<=900000)(h:tl T=pre++d7)(hC:C [])(hh:∀v t,ok v t->∃c r,t=c::r/\c≠cl)
 (hL:∀G1,Gr G G1->G1[G.length]? =some (.lst [])->Wp (J0 (d7.length+1) YT (YB R) (uS T pre.length cl b G.length none none)) G1 λfl G'=>Gr G G'/\C6 ok C cl [] d7 pre.length fl G'):
 Wp (v6 7 (K8 R) [.str T,.int pre.length,.str ⟨#[cl]⟩,.bl b]) G λd G'=>Ap G G'/\∃o,QR G' d pre.length o/\QSp ok C cl d7 o:=by
 have Pg:T.length<=ze:=zw hz (by decide);refine t7 (show Wp (K8 R [some (.str T),some (.int pre.length),some (.str ⟨#[cl]⟩),some (.bl b),none,none,none]) G _ from ?_);rw[FU];refine w6 (X2:=uS T pre.length cl b G.length none none) (G':=G++[.lst []]) rfl<| d9.mpr<| J3<| m5<| bin_w<| g9 (k:=1) Pg h rfl rfl rfl<| b8 (a:=.str ⟨#[cl]⟩) rfl<| F8.mpr ?_;rw[show (⟨#[cl]⟩:Str)=ofL [cl]from rfl,eqS];refine⟨_,rfl,λk=>?_,λk=>m7.mpr ?_⟩
 · obtain⟨r,rfl⟩:=i9 (of_decide_eq_true k);refine o6<| b8 (a:=.ref (G++[DO.lst []]).length) (G':=G++[.lst []]++[.lst [.tup [],.int ((pre.length:Int)+1)]]) rfl<| o7 ⟨Ap.one.trans Ap.one,some ([], []),⟨_,rfl,?_⟩,?_,?_⟩
   ·rw[j8];simp
   · intro vs t z
     cases z
     exact⟨.inl ⟨rfl,rfl⟩,hC,r,rfl⟩
   · intro vs t r' e p c;rcases p with⟨rfl,rfl⟩|p
     ·rfl
     ·obtain⟨c,u,rfl,q⟩:=SW hh p;exact absurd (zi e).1.symm q
 · have k:=of_decide_eq_false k;refine d9.mpr<| dC (n:=d7.length+1)<| (hL _ Gr.app j8).mono λfl G1 q=>?_;obtain⟨g1,o,sp,q⟩:=q;have qs:QSp ok C cl d7 o:=by
    refine⟨λvs t z=>?_,λvs t r e p c=>?_⟩
    ·obtain⟨x,y,z⟩:=sp.1 vs t z;exact⟨.inr x,y,z⟩
    · rcases p with⟨rfl,rfl⟩|p
      ·exact absurd (by rw[e];rfl) k
      ·exact sp.2 vs t r e p c
   rcases q with⟨rfl,⟨q,rfl,eq⟩|⟨U,rfl⟩⟩|⟨vs,t,rfl,q,rfl,eq⟩
   ·exact o7 ⟨g1.ap,none,⟨q,rfl,eq⟩,qs⟩
   ·exact o6<| b8 (a:=.ref G1.length) (G':=G1++[.lst []]) rfl<| o7 ⟨(g1.trans Gr.app).ap,none,⟨_,rfl,j8⟩,qs⟩
   ·exact o7 ⟨g1.ap,some (vs,t),⟨q,rfl,eq⟩,qs⟩
end
theorem RX{n cl:Nat}(hc:cl=93\/cl=125)(v:D)(t:List Nat)(h:okV n v t):∃c r,t=c::r/\c≠cl:=by obtain⟨g,rfl⟩:=h;obtain⟨c,r,e,q⟩:=GE g;exact⟨c,r,e,by lia⟩
theorem cW{n:Nat}(v:D)(t:List Nat)(h:okP (okV n) v t):∃c r,t=c::r/\c≠125:=by
 obtain⟨nm,w,u,h1,h2,rfl,rfl,_⟩:=h;rcases k:tl nm with _|⟨c,r⟩
 ·exact absurd k h2
 ·have:=h1.1 c (by rw[k];exact zh ..);exact⟨c,_,rfl,by lia⟩
theorem LO{ok:D->List Nat->Prop}{f:D->List Nat}:∀ {l:List D},l≠ []->(∀x∈l,ok x (f x))->PO ok l (K7 [44,32] (l.map f))
 |[],h,_=>absurd rfl h
 |[x],_,k=>by have:=PO.one (k x (zh ..));simpa [K7,glL]using this
 |x::y::r,_,k=>by have ih:=LO (l:=y::r) (by simp) λz hz=>k z (zo _ hz);have:=PO.more (k x (zh ..)) ih;simpa [K7,glL]using this
theorem dL{ok:D->List Nat->Prop}{f:D->List Nat}{l:List D}(k:∀x∈l,ok x (f x)):POE ok l (K7 [44,32] (l.map f)):=by
 rcases l with _|⟨x,r⟩
 ·exact .inl ⟨rfl,rfl⟩
 ·exact .inr (LO (by simp) k)
theorem WM{ok:D->List Nat->Prop}{f:D->List Nat}(hf:∀v t,ok v t->t=f v){vs:List D}{t:List Nat}(h:POE ok vs t):t=K7 [44,32] (vs.map f):=by
 rcases h with⟨rfl,rfl⟩|h
 ·rfl
 ·exact AH hf h
theorem Lz{m:Nat}{d7:List Nat}{o:Option (List D×List Nat)}(hl:d7.length<=900000)(h:QSp (okV (m+1)) (λ_=>True) 93 d7 o):Sp (m+2) (91::d7) (o.map λx=>(.tup [.str M3,.tup x.1],91::(x.2++[93]))):=by
 refine⟨λv t e=>?_,λv t r e ok st=>?_⟩
 · rcases o with _|⟨vs,u⟩
   ·cases e
   · cases e
     obtain⟨p,_,r,rfl⟩:=h.1 vs u rfl;refine⟨⟨.l ?_ ?_,by rw[F3,WM (f:=shN (m+1)) (λv t k=>k.2) p]⟩,r,by simp⟩
     · rcases p with⟨rfl,_⟩|p
       ·simp
       ·have:=FE ME p;simp at hl;lia
     · rcases p with⟨rfl,_⟩|p
       ·exact λx hx=>nomatch hx
       ·exact vD (λv t k=>k.1) p
 · obtain⟨g,rfl⟩:=ok
   cases g with
   |@i _ i hi=>
     obtain⟨c,y,e',hc⟩:=wC i;rw[KA,e']at e;have:=(zi e).1;lia
   |@b _ k=>rcases k with _|_<;>exact absurd (zi e).1 (by decide)
   |@s _ z hs=>rw[OA]at e;exact absurd (zi e).1 (by decide)
   |@l _ l hl hx=>
     rw[F3]at e ⊢;have e:d7=K7 [44,32] (l.map (shN (m+1)))++93::r:=by rw[(zi e).2];simp
     rw[h.2 l _ r e (dL λx hxl=>⟨hx x hxl,rfl⟩) trivial];rfl
   |@r _ ps hl hp hn hx=>rw[A4]at e;exact absurd (zi e).1 (by decide)
theorem LW{m:Nat}{d7:List Nat}{o:Option (List D×List Nat)}(hl:d7.length<=900000)(h:QSp (okP (okV (m+1))) CR 125 d7 o):Sp (m+2) (123::d7) (o.map λx=>(.tup [.str Z4,.tup x.1],123::(x.2++[125]))):=by
 refine⟨λv t e=>?_,λv t r e ok st=>?_⟩
 · rcases o with _|⟨vs,u⟩
   ·cases e
   · cases e
     obtain⟨p,c,r,rfl⟩:=h.1 vs u rfl;obtain⟨ps,rfl,hp⟩:∃ps:List (Str×D),vs=ps.map prD/\∀p∈ps,(TxL p.1/\tl p.1≠ [])/\GV (m+1) p.2:=by
      rcases p with⟨rfl,_⟩|p
      ·exact⟨[],rfl,λ_ h=>nomatch h⟩
      ·exact oH (vD (λv t k=>⟨t,k⟩) p)
     unfold CR at c;rw[qD]at c;refine⟨⟨.r ?_ c (λp k=>(hp p k).1) (λp k=>(hp p k).2),by rw[A4,WM fN p]⟩,r,by simp⟩;rcases p with⟨z,_⟩|p
     ·rw[Yx.mp z];simp
     ·have:=FE VH p;rw[zn]at this;simp at hl;lia
 · obtain⟨g,rfl⟩:=ok
   cases g with
   |@i _ i hi=>
     obtain⟨c,y,e',hc⟩:=wC i;rw[KA,e']at e;have:=(zi e).1;lia
   |@b _ k=>rcases k with _|_<;>exact absurd (zi e).1 (by decide)
   |@s _ z hs=>rw[OA]at e;exact absurd (zi e).1 (by decide)
   |@l _ l hl hx=>rw[F3]at e;exact absurd (zi e).1 (by decide)
   |@r _ ps hl hp hn hx=>
     rw[A4]at e ⊢;have e:d7=K7 [44,32] ((ps.map prD).map (shQ (shN (m+1))))++125::r:=by rw[(zi e).2];simp
     rw[h.2 (ps.map prD) _ r e (dL λx hxl=>?_) (by unfold CR;rw[qD];exact hp)]
     ·rfl
     ·obtain⟨p,Nx,rfl⟩:=zM.mp hxl;exact⟨p.1,p.2,_,(hn p Nx).1,(hn p Nx).2,rfl,rfl,hx p Nx,rfl⟩
section
variable{T:Str}
theorem uO{R:List D->M D}{G:DH}{pre d7:List Nat}{n ch cl:Nat}{b:Bool}{s3 s4 s5 s6:Option D}{ok:D->List Nat->Prop}{C:List D->Prop}(hb:(b=false/\ch=91/\cl=93)\/(b=true/\ch=123/\cl=125))
 (h:tl T=pre++ch::d7)
 (hR:∀G1,Wp (R [.str T,.int ((pre++[ch]).length:Nat),.str ⟨#[cl]⟩,.bl b]) G1 λd G'=>Ap G1 G'/\∃o,QR G' d (pre++[ch]).length o/\QSp ok C cl d7 o)
 (hS:∀o,QSp ok C cl d7 o->Sp (n+1) (ch::d7) (o.map λx=>(.tup [.str (if b then Z4 else M3),.tup x.1],ch::(x.2++[cl])))):
 Wp (ZB R (zS T pre.length [ch] s3 s4 s5 s6)) G (LE G pre.length n (ch::d7)):=by
 have eb:∀ {U:DSt} {G:DH},U[2]? =some (some (.str (ofL [ch])))->binE eqD B0 (cSt "{") U G=some (.ok (.bl b),G):=λ{U G} hσ=>by rw[P7 hσ kE];rcases hb with⟨rfl,rfl,rfl⟩|⟨rfl,rfl,rfl⟩<;>rfl
 have ei:∀ {U:DSt} {G:DH},U[2]? =some (some (.str (ofL [ch])))->L0 P2 (O0 (binE eqD B0 (cSt "{"))) U G=some (.ok (.int (if b then 1 else 0)),G):=λ{U G} hσ=>by rw[fB hσ kE];rcases hb with⟨rfl,rfl,rfl⟩|⟨rfl,rfl,rfl⟩<;>rfl
 have ep:(pre.length:Int)+1= ((pre++[ch]).length:Nat):=by simp
 refine d9.mpr<| v7<| J5<| u0 (x:=.str T) rfl<| u0 (x:=.int ((pre.length:Int)+1)) rfl<| j9<| bin_w<| O9.mpr<| b8 (a:= [.str ("]" :Str),.str ("}" :Str)]) (G':=G) rfl ⟨sz,b8 (ei rfl)<| (N6 j8).mpr ⟨.str ⟨#[cl]⟩,by rcases hb with⟨rfl,rfl,rfl⟩|⟨rfl,rfl,rfl⟩<;>rfl,j9<| b8 (eb rfl)<| m8.mpr<| Q9.mpr ⟨rfl,?_⟩⟩⟩;rw[ep];refine(hR _).mono λd G1 q=>?_;obtain⟨j1,o,⟨q,rfl,eq⟩,qs⟩:=q;have j0:Ap G G1:=Ap.one.trans j1;rcases o with _|⟨vs,t⟩
 ·refine d9.mpr<| J3<| m5<| bin_w<| b8 (a:=.ref q) (G':=G1) rfl<| b8 (a:=.ref G1.length) (G':=G1++[.lst []]) rfl<| (c8 (o9 eq) j8).mpr ⟨_,rfl,λ_=>o6<| b8 (a:=.ref (G1++[DO.lst []]).length) (G':=G1++[.lst []]++[.lst []]) rfl ⟨_,rfl,(j0.trans Ap.one).trans Ap.one,none,⟨_,?_,rfl,j8⟩,hS none qs⟩,λz=>nomatch z⟩;have:=j0.len;simp;lia
 · refine d9.mpr<| J3<| m5<| bin_w<| b8 (a:=.ref q) (G':=G1) rfl<| b8 (a:=.ref G1.length) (G':=G1++[.lst []]) rfl<| (c8 (o9 eq) j8).mpr ⟨_,rfl,λz=>(nomatch z),λ_=>m7.mpr ?_⟩;have eq2:(G1++[DO.lst []])[q]? =some (.lst [.tup vs,.int (((pre++[ch]).length:Int)+t.length+1)]):=o9 eq;have j2:Ap G (G1++[DO.lst []]):=j0.trans Ap.one;generalize G1++[DO.lst []]=G2 at eq2 j2;refine o6<| O9.mpr<| j9<| T3.mpr<| j9<| bin_w<| O9.mpr<| b8 (a:= [.str ("list" :Str),.str ("record" :Str)]) (G':=G2) rfl ⟨sz,b8 (ei rfl)<| (N6 j8).mpr ⟨.str (if b then Z4 else M3),by rcases b with _|_<;>rfl,j9<| bin_w<| b8 (a:=.ref q) rfl<| b8 (a:=.int 0) rfl<| (N6 (o9 eq2)).mpr ⟨.tup vs,rfl,m8.mpr ⟨sz,j9<| bin_w<| b8 (a:=.ref q) rfl<| b8 (a:=.int 1) rfl<| (N6 (o9 eq2)).mpr ⟨_,rfl,m8.mpr ⟨sz,?_⟩⟩⟩⟩⟩⟩;refine⟨_,rfl,(j2.trans Ap.one).trans Ap.one,_,⟨_,?_,rfl,?_⟩,hS (some (vs,t)) qs⟩
   ·have:=j2.len;simp;lia
   · rw[j8];have e5:((pre++[ch]).length:Int)+(t.length:Nat)+1= (pre.length:Int)+((ch::(t++[cl])).length:Nat):=by simp;lia
     rw[e5];rfl
theorem Bc(hz:T.length<=900000):∀(n N:Nat),n<=N->LAt T (R7 (K3 N)) n:=by
 intro n
 induction n with
 |zero=>
   intro N hN pre d7 G h hn;have Pg:T.length<=ze:=zw hz (by decide);have hno:∀c r,d7=c::r->c≠91/\c≠123:=λc r e=>by
    have h1:∀c,isO c=true->∀r,d7=c::r->False:=λc hc r e=>by
     rw[e]at hn;obtain⟨m,hm,_⟩:=hn.op hc
     cases hm
    exact⟨λz=>h1 c (by rw[z];rfl) r e,λz=>h1 c (by rw[z];rfl) r e⟩
   refine t7 (show Wp (GC (K3 N) [some (.str T),some (.int pre.length),none,none,none,none,none]) G _ from ?_);rw[iL];refine d9.mpr<| v7<| g9 (k:=1) Pg h rfl rfl rfl<| d9.mpr<| J3<| S4<| m5<| b8 (P7 (sg:=d7.take 1) rfl wM) ⟨_,rfl,λk=>?_,λk=>m5<| b8 (P7 (sg:=d7.take 1) rfl kE) ⟨_,rfl,λk2=>?_,λk2=>m7.mpr ?_⟩⟩
   ·obtain⟨r,e⟩:=i9 (of_decide_eq_true k);exact absurd rfl (hno _ _ e).1
   ·obtain⟨r,e⟩:=i9 (of_decide_eq_true k2);exact absurd rfl (hno _ _ e).2
   ·refine(nJ (n:=0) hz h hno).mono λfl G1 q=>?_;obtain⟨d,rfl,q⟩:=q;exact o7 q
 |succ n ih=>
   intro N hN pre d7 G h hn;have Pg:T.length<=ze:=zw hz (by decide);obtain⟨M,rfl⟩:∃M,N=M+1:=⟨N-1,by lia⟩;have ih:LAt T (R7 (K3 M)) n:= @ih M (by lia);have lT:=congrArg zW h;rw[v4,za]at lT;refine t7 (show Wp (GC (K3 (M+1)) [some (.str T),some (.int pre.length),none,none,none,none,none]) G _ from ?_);rw[iL];refine d9.mpr<| v7<| g9 (k:=1) Pg h rfl rfl rfl<| d9.mpr<| J3<| S4<| m5<| b8 (P7 (sg:=d7.take 1) rfl wM) ⟨_,rfl,λk=>?_,λk=>m5<| b8 (P7 (sg:=d7.take 1) rfl kE) ⟨_,rfl,λk2=>?_,λk2=>m7.mpr ?_⟩⟩
   · obtain⟨r,rfl⟩:=i9 (of_decide_eq_true k);obtain⟨m,hm,hn⟩:=hn.op (show isO 91=true from rfl)
     cases hm
     have h1:tl T= (pre++[91])++r:=by rw[h];simp
     simp only[zp]at lT;have hr:r.length<=900000:=by lia
     refine⟨λ_=>(uO (n:=n+1) (b:=false) (.inl ⟨rfl,rfl,rfl⟩) h (λG1=>wL (ok:=okV (n+1)) (C:=λ_=>True) hz h1 trivial (RX (.inl rfl)) λG2 g2 e2=>lK hz ih (zk _) (r.length+1) [] _ r none none G2 (yY _) h1 hn g2 e2 (by simpa using hr)) λo qs=>Lz hr qs).mono λfl G1 q=>?_,λz=>nomatch z⟩;obtain⟨d,rfl,q⟩:=q;exact o7 q
   · obtain⟨r,rfl⟩:=i9 (of_decide_eq_true k2);obtain⟨m,hm,hn⟩:=hn.op (show isO 123=true from rfl)
     cases hm
     have h1:tl T= (pre++[123])++r:=by rw[h];simp
     simp only[zp]at lT;have hr:r.length<=900000:=by lia
     refine(uO (n:=n+1) (b:=true) (.inr ⟨rfl,rfl,rfl⟩) h (λG1=>wL (ok:=okP (okV (n+1))) (C:=CR) hz h1 List.Pairwise.nil cW λG2 g2 e2=>BI hz ih (zk _) (r.length+1) [] _ r none none G2 (yY _) h1 hn List.Pairwise.nil g2 e2 (by simpa using hr)) λo qs=>LW hr qs).mono λfl G1 q=>?_;obtain⟨d,rfl,q⟩:=q;exact o7 q
   ·have n1:∀c r,d7=c::r->c≠91/\c≠123:=λc r e=>⟨λz=>of_decide_eq_false k (by rw[e,z];rfl),λz=>of_decide_eq_false k2 (by rw[e,z];rfl)⟩;refine(nJ (n:=n+1) hz h n1).mono λfl G1 q=>?_;obtain⟨d,rfl,q⟩:=q;exact o7 q
end
def DP(k:Int)(v:D):Prop:=∀j:Nat,GV j v↔k<=j
theorem EM:∀(l:List Int) (a:Int),∃b,l.foldl OB (some a)=some b/\∀j:Int,b<=j↔a<=j/\∀k∈l,k<=j
 |[],a=>⟨a,rfl,λj=>⟨λh=>⟨h,λk hk=>nomatch hk⟩,λh=>h.1⟩⟩
 |x::l,a=>by
   obtain⟨b,e,h⟩:=EM l (if x>a then x else a);refine⟨b,e,λj=>?_⟩;rw[h j];simp only[zl,forall_eq_or_imp];split<;>constructor<;>intro ⟨p,q⟩
   ·exact⟨by lia,p,q⟩
   ·exact⟨q.1,q.2⟩
   ·exact⟨p,by lia,q⟩
   ·exact⟨p,q.2⟩
theorem KO{l:List Int}(h:l≠ []):∃b,B8 l=some b/\∀j:Int,b<=j↔∀k∈l,k<=j:=by
 rcases l with _|⟨x,l⟩
 ·exact absurd rfl h
 ·obtain⟨b,e,q⟩:=EM l x;refine⟨b,e,λj=>?_⟩;rw[q j];simp only[zl,forall_eq_or_imp]
theorem CO{G:DH}{r:Nat}{ks:List Int}{b:Int}{Q:DPP}(e:G[r]? =some (.lst (ks.map D.int)))(hm:B8 ks=some b)(q:Q (.int b) G):Wp (iC [.ref r]) G Q:=by
 have e1:(K6 r >>= DL.listOf) G=some (.ok (ks.map D.int),G):=by
  rw[M.bind_eq];have:K6 r G=some (.ok (.lst (ks.map D.int)),G):=by unfold K6;rw[e]
  rw[this];rfl
 have e2:UD (.ref r) G=some (.ok ks,G):=by show ((K6 r >>= DL.listOf) >>= λl=>S1 (V2 l)) G=_;rw[M.bind_eq,e1];show S1 (V2 (ks.map D.int)) G=_;rw[TF];rfl
 refine⟨.int b,G,?_,q⟩;show (UD (.ref r) >>= λns=>(match B8 ns with|some b=>pure (.int b)|none=>M.stuck:M D)) G=_;rw[M.bind_eq,e2];show (match B8 ks with|some b=>pure (.int b)|none=>M.stuck:M D) G=_;rw[hm];rfl
theorem OG{P:Int->D->Prop}:∀zs:List (D×D),(∀z∈zs,∃k,z.2= .int k/\P k z.1)->∃ks:List Int,zs.map (·.2)=ks.map D.int/\ks.length=zs.length/\(∀k∈ks,∃z∈zs,P k z.1)/\∀z∈zs,∃k∈ks,P k z.1
 |[],_=>⟨[],rfl,rfl,λ_ h=>(nomatch h),λ_ h=>nomatch h⟩
 |z::r,h=>by
   obtain⟨k,e,p⟩:=h z (zh ..);obtain⟨ks,h1,h2,h3,h4⟩:=OG r λy hy=>h y (zo _ hy);refine⟨k::ks,by rw[zE,zE,e,h1],by simp[h2],λj hj=>?_,λy hy=>?_⟩
   · rcases zl.mp hj with rfl|hj
     ·exact⟨z,zh ..,p⟩
     ·obtain⟨y,hy,q⟩:=h3 j hj;exact⟨y,zo _ hy,q⟩
   · rcases zl.mp hy with rfl|hy
     ·exact⟨k,zh ..,p⟩
     ·obtain⟨j,hj,q⟩:=h4 y hy;exact⟨j,zo _ hj,q⟩
theorem wb{j:Nat}{l:List D}(hl:l.length<=400000):GV j (.tup [.str M3,.tup l])↔∃i,j=i+1/\∀x∈l,GV i x:=by
 constructor
 · intro h
   cases h with
   |@l n _ _ h=>exact⟨n,rfl,h⟩
 ·rintro⟨i,rfl,h⟩;exact .l hl h
theorem KF:∀ {a b:List (Str×D)},a.map prD=b.map prD->a=b
 |[], [],_=>rfl
 |[],_::_,h=>by cases h
 |_::_, [],h=>by cases h
 |x::a,y::b,h=>by
   have h:=zi h;have e:x=y:=by
    obtain⟨x1,x2⟩:=x;obtain⟨y1,y2⟩:=y;have e:=h.1;unfold prD at e
    cases e;rfl
   rw[e,KF h.2]
theorem vw{j:Nat}{ps:List (Str×D)}(hl:ps.length<=400000)(hp:(ps.map (·.1)).Pairwise LtS)(hn:∀p∈ps,TxL p.1/\tl p.1≠ []):GV j (.tup [.str Z4,.tup (ps.map prD)])↔∃i,j=i+1/\∀p∈ps,GV i p.2:=by
 constructor
 · intro h;generalize hd:D.tup [.str Z4,.tup (ps.map prD)]=d at h
   cases h with
   |i=>cases hd
   |b=>cases hd
   |s=>cases hd
   |@l n l _ _=>
     have:=congrArg (λd=>match d with|D.tup [.str w,_]=>w|_=>M3) hd;exact absurd (show Z4=M3 from this) (by decide)
   |@r n qs _ _ _ h=>
     have e:ps.map prD=qs.map prD:=by have:=congrArg (λd=>match d with|D.tup [_,.tup l]=>l|_=> []) hd;exact this
     rw[KF e];exact⟨n,rfl,h⟩
 ·rintro⟨i,rfl,h⟩;exact .r hl hp hn h
theorem vB{v:D}(h:∀n,GV (n+1) v):DP 1 v:=λj=>by
 rcases j with _|j
 ·exact⟨λh=>(nomatch h),λh=>absurd h (by decide)⟩
 ·exact⟨λ_=>by lia,λ_=>h j⟩
theorem TM{v:D}{ks:List Int}{b:Int}{P:Nat->Prop}(h:∀j,GV j v↔∃i,j=i+1/\P i)(hb:∀j:Int,b<=j↔∀k∈ks,k<=j)(hP:∀i,P i↔∀k∈ks,k<=((i:Nat):Int))(h0:0<=b):DP (1+b) v:=λj=>by
 rw[h j];constructor
 ·rintro⟨i,rfl,p⟩;have:=(hb i).mpr ((hP i).mp p);lia
 ·intro q;refine⟨j-1,by lia,(hP _).mpr ((hb _).mp (by lia))⟩
theorem sK{k:Int}{v:D}(h:DP k v):1<=k:=by have:¬k<=((0:Nat):Int):=λz=>nomatch (h 0).mpr z;lia
theorem UU:∀ {m N:Nat} {v:D} {G:DH},GV m v->m<=N->Wp (uD N [v]) G λd G'=>Ap G G'/\∃k,d= .int k/\DP k v:=by
 intro m
 induction m with
 |zero=>intro N v G h;cases h
 |succ m ih=>
   intro N v G h hN;obtain⟨M,rfl⟩:∃M,N=M+1:=⟨N-1,by lia⟩;have bg:=big
   cases h with
   |@i _ i hi=>exact gB (d:=.int 1) (G':=G) rfl ⟨Ap.refl,1,rfl,vB λn=>.i hi⟩
   |@b _ k=>exact gB (d:=.int 1) (G':=G) rfl ⟨Ap.refl,1,rfl,vB λn=>.b⟩
   |@s _ z hs=>exact gB (d:=.int 1) (G':=G) rfl ⟨Ap.refl,1,rfl,vB λn=>.s hs⟩
   |@l _ l hl hx=>
     rcases l with _|⟨x0,l0⟩
     ·exact gB (d:=.int 1) (G':=G) rfl ⟨Ap.refl,1,rfl,vB λn=>.l hl λx hx=>nomatch hx⟩
     · refine t7<| w6 (X2:= [some (.tup [.str M3,.tup (x0::l0)])]) (G':=G) rfl<| w6 (X2:= [some (.tup [.str M3,.tup (x0::l0)])]) (G':=G) rfl<| o6<| bin_w<| b8 (a:=.int 1) (G':=G) rfl<| J5<| j9<| EB (l:=x0::l0) (G1:=G) rfl (by lia)<| (kA (Ap G) One (λx y=>∃k,y= .int k/\DP k x) (λ_ _=>rfl) _ _ G ⟨_,rfl⟩ Ap.refl ?_).mono ?_
       ·rintro x hxl _ G1 ⟨u,rfl⟩ j;refine b8 (a:= [some x]) (G':=G1) rfl ⟨rfl,⟨_,rfl⟩,o4 (as:= [x]) rfl rfl<| (ih (hx x hxl) (by lia)).mono λd G2 q=>?_⟩;exact⟨j.trans q.1,q.2⟩
       · rintro _ G2 ⟨j,zs,h1,rfl,h3⟩;obtain⟨ks,e1,e2,e3,e4⟩:=OG (P:=DP) zs h3;have kn:ks≠ []:=λz=>by
          rw[z]at e2;have:=congrArg zW h1;rw[zn,<-e2]at this
          cases this
         obtain⟨b,mb,hb⟩:=KO kn;rw[e1];refine m8.mpr<| CO j8 mb<| J6.mpr<| o7 ⟨j.trans Ap.one,_,rfl,TM (λj=>wb hl) hb (λi=>?_) ?_⟩
         · constructor
           ·intro p k hk;obtain⟨z,hz,dp⟩:=e3 k hk;exact(dp i).mp (p z.1 (by rw[<-h1];exact zM.mpr ⟨z,hz,rfl⟩))
           ·intro p x hxl;rw[<-h1]at hxl;obtain⟨z,hz,rfl⟩:=zM.mp hxl;obtain⟨k,hk,dp⟩:=e4 z hz;exact(dp i).mpr (p k hk)
         · obtain⟨k,r,rfl⟩:∃k r,ks=k::r:=by
            rcases ks with _|⟨k,r⟩
            ·exact absurd rfl kn
            ·exact⟨k,r,rfl⟩
           obtain⟨z,_,dp⟩:=e3 k (zh ..);have:=(hb b).mp (Int.le_refl _) k (zh ..);have:=sK dp;lia
   |@r _ ps hl hp hn hx=>
     rcases ps with _|⟨p0,ps0⟩
     ·exact gB (d:=.int 1) (G':=G) rfl ⟨Ap.refl,1,rfl,vB λn=>.r hl hp hn λx hx=>nomatch hx⟩
     · refine t7<| w6 (X2:= [some (.tup [.str Z4,.tup ((p0::ps0).map prD)])]) (G':=G) rfl<| d9.mpr<| J3<| b8 (a:=true) (G':=G) rfl ⟨λ_=>o6<| bin_w<| b8 (a:=.int 1) (G':=G) rfl<| J5<| j9<| EB (l:=(p0::ps0).map prD) (G1:=G) rfl (by rw[zn];lia)<| (kA (Ap G) Two (λx y=>∃k,y= .int k/\∃p∈p0::ps0,x=prD p/\DP k p.2) (λ_ _=>rfl) _ _ G ⟨_,_,rfl⟩ Ap.refl ?_).mono ?_,λz=>nomatch z⟩
       ·rintro x hxl _ G1 ⟨u,v,rfl⟩ j;obtain⟨p,Nx,rfl⟩:=zM.mp hxl;refine b8 (a:= [some (.str p.1),some p.2]) (G':=G1) rfl ⟨rfl,⟨_,_,rfl⟩,o4 (as:= [p.2]) rfl rfl<| (ih (hx p Nx) (by lia)).mono λd G2 q=>?_⟩;obtain⟨j2,k,rfl,dp⟩:=q;exact⟨j.trans j2,k,rfl,p,Nx,rfl,dp⟩
       · rintro _ G2 ⟨j,zs,h1,rfl,h3⟩;obtain⟨ks,e1,e2,e3,e4⟩:=OG (P:=λk x=>∃p∈p0::ps0,x=prD p/\DP k p.2) zs h3;have kn:ks≠ []:=λz=>by
          rw[z]at e2;have:=congrArg zW h1;rw[zn,<-e2]at this
          cases this
         obtain⟨b,mb,hb⟩:=KO kn;rw[e1];refine m8.mpr<| CO j8 mb<| J6.mpr<| o7 ⟨j.trans Ap.one,_,rfl,TM (λj=>vw hl hp hn) hb (λi=>?_) ?_⟩
         · constructor
           ·intro q k hk;obtain⟨z,hz,p,Nx,_,dp⟩:=e3 k hk;exact(dp i).mp (q p Nx)
           · intro q p Nx;have hm:prD p∈zs.map (·.1):=by rw[h1];exact zM.mpr ⟨p,Nx,rfl⟩
             obtain⟨z,hz,ez⟩:=zM.mp hm;obtain⟨k,hk,p',hp',e',dp⟩:=e4 z hz;have:p'=p:=by have:=KF (a:= [p']) (b:= [p]) (by rw[zE,zE,<-e',ez]);exact(zi this).1
             rw[<-this];exact(dp i).mpr (q k hk)
         · obtain⟨k,r,rfl⟩:∃k r,ks=k::r:=by
            rcases ks with _|⟨k,r⟩
            ·exact absurd rfl kn
            ·exact⟨k,r,rfl⟩
           obtain⟨z,_,p,_,_,dp⟩:=e3 k (zh ..);have:=(hb b).mp (Int.le_refl _) k (zh ..);have:=sK dp;lia
def Wr(T:Str)(v:D):Prop:=okV 20 v (tl T)
theorem vY{T:Str}{G:DH}(hz:T.length<=900000)(hN:Nst 44 (tl T)):Wp (V9 [.str T]) G λd G'=>Ap G G'/\∃q,d= .ref q/\((∃v,Wr T v/\G'[q]? =some (.lst [v]))\/((∀v,¬Wr T v)/\G'[q]? =some (.lst []))):=by
 have Pg:T.length<=ze:=zw hz (by decide);refine t7<| d9.mpr<| v7<| o4 (as:= [.str T,.int (([]:List Nat).length:Int)]) rfl rfl<| (Bc hz 44 45 (by decide) (pre:= []) (d7:=tl T) rfl hN).mono λd G1 q=>?_;obtain⟨j1,o,⟨q,_,rfl,eq⟩,sp⟩:=q;have st0:stp []:=⟨λ_ _ e=>(nomatch e),λ_ _ e=>nomatch e⟩;have up:∀v,Wr T v->o=some (v,tl T):=λv w=>by obtain⟨g,e⟩:=w;obtain⟨g2,e2⟩:=g.up 45 (by decide);exact sp.2 v (tl T) [] (by simp) ⟨g2,by rw[e2];exact e⟩ st0
 have no:∀ {U:DSt} {G2:DH},Ap G G2->(∀v,¬Wr T v)->Wp (retS (lstE F0) U) G2 λfl G'=>match fl with
  | .nx X2=>Wp (retS (lstE (O0 (ixE i0 K0))) X2) G' (PB λd G'=>Ap G G'/\∃q,d= .ref q/\((∃v,Wr T v/\G'[q]? =some (.lst [v]))\/((∀v,¬Wr T v)/\G'[q]? =some (.lst []))))
  |r=>PB (λd G'=>Ap G G'/\∃q,d= .ref q/\((∃v,Wr T v/\G'[q]? =some (.lst [v]))\/((∀v,¬Wr T v)/\G'[q]? =some (.lst [])))) r G':=λ{U G2} j h=>
  o6<| b8 (a:=.ref G2.length) (G':=G2++[.lst []]) rfl<| o7 ⟨j.trans Ap.one,_,rfl,.inr ⟨h,j8⟩⟩
 rcases o with _|⟨v,t⟩
 ·have h0:∀v,¬Wr T v:=λv w=>nomatch up v w;exact d9.mpr<| J3<| S4<| m5<| bin_w<| b8 (a:=.ref q) (G':=G1) rfl<| b8 (a:=.ref G1.length) (G':=G1++[.lst []]) rfl<| (c8 (o9 eq) j8).mpr ⟨_,rfl,λ_=>⟨λ_=>no (j1.trans Ap.one) h0,λz=>nomatch z⟩,λz=>nomatch z⟩
 · obtain⟨⟨gv,et⟩,r,er⟩:=sp.1 v t rfl;refine d9.mpr<| J3<| S4<| m5<| bin_w<| b8 (a:=.ref q) (G':=G1) rfl<| b8 (a:=.ref G1.length) (G':=G1++[.lst []]) rfl<| (c8 (o9 eq) j8).mpr ⟨_,rfl,λz=>(nomatch z),λ_=>?_⟩;have eq2:(G1++[DO.lst []])[q]? =some (.lst [v,.int ((([]:List Nat).length:Int)+t.length)]):=o9 eq;have j2:Ap G (G1++[DO.lst []]):=j1.trans Ap.one;generalize G1++[DO.lst []]=G2 at eq2 j2;have lt:=congrArg zW er;rw[v4,za]at lt;refine S4<| m5<| bin_w<| bin_w<| b8 (a:=.ref q) (G':=G2) rfl<| b8 (a:=.int 1) (G':=G2) rfl<| (N6 eq2).mpr ⟨_,rfl,O6 (as:= [.str T]) rfl<| (K4 Pg).mpr<| lD.mpr ⟨_,rfl,λk=>⟨λ_=>no j2 λw hw=>?_,λz=>nomatch z⟩,λk=>?_⟩⟩
   · have:=up w hw
     cases this
     rw[yK]at k;have k:=of_decide_eq_false k;exact k (by rw[v4];simp)
   · rw[yC]at k;have k:=of_decide_eq_true k;have r0:r= []:=jn (by simp at k;lia);rw[r0,zX]at er;refine m5<| bin_w<| J5<| j9<| bin_w<| b8 (a:=.ref q) (G':=G2) rfl<| b8 (a:=.int 0) (G':=G2) rfl<| (N6 eq2).mpr ⟨v,rfl,m8.mpr<| Q9.mpr ⟨rfl,(UU (N:=50) gv (by decide)).mono λd G3 z=>?_⟩⟩;obtain⟨j3,k,rfl,dp⟩:=z;refine b8 (a:=.int 20) (G':=G3) rfl<| sD.mpr ⟨_,rfl,λh=>no (j2.trans j3) λw hw=>?_,λh=>m7.mpr ?_⟩
     · have:=up w hw
       cases this
       have:=(dp 20).mp hw.1;have:=of_decide_eq_true h;lia
     ·have h:=of_decide_eq_false h;have g20:GV 20 v:=(dp 20).mpr (by lia);obtain⟨_,e2⟩:=g20.up 45 (by decide);refine o6<| O9.mpr<| j9<| bin_w<| b8 (a:=.ref q) (G':=G3) rfl<| b8 (a:=.int 0) (G':=G3) rfl<| (N6 (j3.at eq2)).mpr ⟨v,rfl,m8.mpr ⟨sz,o7 ⟨(j2.trans j3).trans Ap.one,_,rfl,.inl ⟨v,⟨g20,?_⟩,j8⟩⟩⟩⟩;rw[er,et,e2]
theorem gM{x:Str}{i:Nat}{E:DH->Prop}{b h:Fs}{U:DSt}{G:DH}{P:Fl->DH->Prop}(hi:U[i]? =some none)(w:We x E (b U) G P)(k:∀G',E G'->Wp (h U) G' P):Wp (EA x i b h U) G P:=by
 rcases w with⟨fl,G1,e,q⟩|⟨G1,e,q⟩
 ·refine⟨fl,G1,?_,q⟩;unfold EA;rw[e]
 ·obtain⟨fl,G2,e2,q2⟩:=k G1 q;refine⟨fl,G2,?_,q2⟩;unfold EA;rw[e];dsimp only;rw[if_pos rfl,hi];exact e2
theorem RJ{T:Str}{G:DH}(hz:T.length<=900000)(hN:Nst 44 (tl T)):Wp (F__law_right [.str T]) G λd G'=>d= .bl true/\Gr G G':=by
 have bg:=big;refine t7<| d9.mpr<| v7<| o4 (as:= [.str T]) rfl rfl<| (vY hz hN).mono λd G1 q=>?_;obtain⟨j1,q,rfl,hq⟩:=q;refine w6 (X2:= [some (.str T),sRf q,some (.ref G1.length),none,none]) (G':=G1++[.lst []]) rfl<| w6 (X2:= [some (.str T),sRf q,some (.ref G1.length),some (.ref (G1++[DO.lst []]).length),none]) (G':=G1++[.lst []]++[.lst []]) rfl ?_;have jj:Ap G1 (G1++[DO.lst []]++[DO.lst []]):=Ap.one.trans Ap.one;have ek:(G1++[DO.lst []]++[DO.lst []])[(G1++[DO.lst []]).length]? =some (.lst []):=j8;have j2:Ap G (G1++[DO.lst []]++[DO.lst []]):=j1.trans jj;generalize (G1++[DO.lst []]).length=kk at ek;generalize hG2:G1++[DO.lst []]++[DO.lst []]=G2 at jj ek j2;rcases hq with⟨v,⟨gv,ev⟩,eq⟩|⟨nw,eq⟩
 · have eq2:=jj.at eq;have hl:(shN 20 v).length<=900000:=by rw[<-ev,v4];exact hz
   have eT:T=ofL (shN 20 v):=T8 ev;refine d9.mpr<| gM (E:=λ_=>False) rfl (.inl<| v7<| O9.mpr<| j9<| c6 (as:= [.str (ofL (shN 20 v))]) (G1:=G2) (by rw[<-eT];rfl) rfl<| EZ gv (by decide) hl λG3 j3=>m8.mpr ⟨sz,?_⟩) λ_ z=>z.elim;have eq3:=j3.at eq2;have ek3:=j3.at ek;refine d9.mpr<| J3<| m5<| bin_w<| b8 (a:=.ref q) (G':=G3++[.lst [v]]) rfl<| b8 (a:=.ref (G3++[DO.lst [v]]).length) (G':=G3++[.lst [v]]++[.lst []]) rfl<| (c8 (o9 (o9 eq3)) j8).mpr ⟨_,rfl,λz=>(nomatch z),λ_=>m7.mpr ?_⟩;have et4:(G3++[DO.lst [v]]++[DO.lst []])[G3.length]? =some (.lst [v]):=o9 j8;have eq4:(G3++[DO.lst [v]]++[DO.lst []])[q]? =some (.lst [v]):=o9 (o9 eq3);have ek4:(G3++[DO.lst [v]]++[DO.lst []])[kk]? =some (.lst []):=o9 (o9 ek3);have j4:Ap G (G3++[DO.lst [v]]++[DO.lst []]):=((j2.trans j3).trans Ap.one).trans Ap.one;generalize G3++[DO.lst [v]]++[DO.lst []]=G4 at et4 eq4 ek4 j4;refine o6<| CI<| bin_w<| b8 (a:=.ref kk) (G':=G4) rfl<| b8 (a:=.ref G4.length) (G':=G4++[.lst []]) rfl<| (c8 (o9 ek4) j8).mpr ⟨rfl,CI<| bin_w<| O6 (as:= [.ref G3.length]) rfl<| (IL (o9 et4)).mpr<| b8 (a:=.int 1) rfl<| O8.mpr ⟨rfl,J5<| j9<| bin_w<| b8 (a:=.ref G3.length) rfl<| b8 (a:=.int 0) rfl<| (N6 (o9 et4)).mpr ⟨v,rfl,j9<| bin_w<| b8 (a:=.ref q) rfl<| b8 (a:=.int 0) rfl<| (N6 (o9 eq4)).mpr ⟨v,rfl,m8.mpr<| Q9.mpr ⟨rfl,wz (N:=60) gv (by decide) λG5 j5=>o7 ⟨rfl,((j4.trans Ap.one).trans j5).gr⟩⟩⟩⟩⟩⟩
 · have eq2:=jj.at eq;refine d9.mpr<| gM (E:=Ap G2) rfl (W2<| QZ<| uC<| U9<| b8 (a:= [.str T]) (G':=G2) rfl ⟨rfl,(IZ hz).mono λv G3 q=>absurd q.2 (nw v)⟩) λG3 j3=>?_;refine b8 (a:=.nx [some (.str T),sRf q,some (.ref G1.length),some (.ref G3.length),none]) (G':=G3++[.lst [.bl true,.bl true,.bl false]]) rfl ?_;have e3:(G3++[DO.lst [.bl true,.bl true,.bl false]])[G3.length]? =some (.lst [.bl true,.bl true,.bl false]):=j8;have eq3:(G3++[DO.lst [.bl true,.bl true,.bl false]])[q]? =some (.lst []):=o9 (j3.at eq2);have j4:Ap G (G3++[DO.lst [.bl true,.bl true,.bl false]]):=(j2.trans j3).trans Ap.one;generalize G3++[DO.lst [.bl true,.bl true,.bl false]]=G4 at e3 eq3 j4;refine d9.mpr<| J3<| m5<| bin_w<| b8 (a:=.ref q) (G':=G4) rfl<| b8 (a:=.ref G4.length) (G':=G4++[.lst []]) rfl<| (c8 (o9 eq3) j8).mpr ⟨_,rfl,λ_=>?_,λz=>nomatch z⟩;refine o6<| bin_w<| b8 (a:=.ref G3.length) rfl<| b8 (a:=.ref (G4++[DO.lst []]).length) (G':=G4++[.lst []]++[.lst [.bl true,.bl true,.bl false]]) rfl<| HC.mpr ⟨true,?_,o7 ⟨rfl,((j4.trans Ap.one).trans Ap.one).gr⟩⟩;have h1:Q6 (G4++[DO.lst []]++[DO.lst [.bl true,.bl true,.bl false]]) (.ref G3.length)=some (false, [.bl true,.bl true,.bl false]):=by delta Q6;dsimp only;rw[o9 (o9 e3)]
   have h2:Q6 (G4++[DO.lst []]++[DO.lst [.bl true,.bl true,.bl false]]) (.ref (G4++[DO.lst []]).length)=some (false, [.bl true,.bl true,.bl false]):=by delta Q6;dsimp only;rw[j8]
   rw[CA,h1,h2];rfl
theorem MS{z:Str}(a:Nat):yA z none (some (a:Int))=ofL ((tl z).take a):=by
 have h:=oI (z:=z) (pre:= []) (d7:=tl z) a rfl;rw[<-h];unfold yA;have e:zL none (some (a:Int)) 1 z.length=zL (some ((([]:List Nat).length:Nat):Int)) (some (((([]:List Nat).length:Nat):Int)+a)) 1 z.length:=by
  unfold zL Xm;have e0:max 0 (min (0:Int) z.length)=0:=by lia
  simp[e0]
 rw[e]
theorem hW(a n:Nat)(h:a<=n):zL (some (a:Int)) none 1 n=zL (some (a:Int)) (some ((a:Int)+(n-a:Nat))) 1 n:=by
 unfold zL Xm;have e2:max 0 (min ((a:Int)+(n-a:Nat)) n)=n:=by lia
 have e4:¬(a:Int)+(n-a:Nat)<0:=by lia
 simp only[show (1:Int)>0 by decide,if_true,e4,if_false,e2]
theorem nY{z:Str}(a:Nat):yA z (some (a:Int)) none=ofL ((tl z).drop a):=by
 by_cases h:a<=z.length
 · have e:tl z= (tl z).take a++(tl z).drop a:=(jS a _).symm;have k:=oI (z.length-a) e;have l1:((tl z).take a).length=a:=by rw[zN,v4];lia
   rw[l1,xb (by rw[jA,v4];exact zk _)]at k;rw[<-k];unfold yA;rw[hW a z.length h]
 · rw[ZX (by rw[v4];lia)];have e:zL (some (a:Int)) none 1 z.length= []:=by
    unfold zL Xm;have e1:max 0 (min (a:Int) z.length)=z.length:=by lia
    simp only[show (1:Int)>0 by decide,if_true,show ¬(a:Int)<0 by lia,if_false,e1];simp
   unfold yA;rw[e];split
   · rename_i k;have k:([]:List Nat).length=z.length:=by
      rw[Zh,beq_iff_eq]at k
      first|exact k.1|exact k.1.symm|(have:=k.1;simp at this;simp;lia)|(have:=k.2;simp at this;simp;lia)
     exact T8 (by rw[jn (show (tl z).length=0 by rw[v4,<-k];rfl)])
   ·rfl
theorem VD{z:Str}{n:Int}{G:DH}{Q:DPP}(h:yH z n):Wp (F2 (.str z) (.int n)) G Q↔Q (.str (yS z n)) G:=by have e:F2 (.str z) (.int n)=if yH z n then pure (.str (yS z n))else M.stuck:=rfl;rw[e,if_pos h];exact j7
def sg1:List Str:= ["", " ", ",", ", ", ":", ": ", "[", "]", "{", "}", "\"", "-", "0", "1", "a", "b", "A", "true"]
def sg2:List Str:= ["\n", "-0", "01", "[]", "{}", "\"\"", "b: 1", "false", "_",yS "1" 40,yS "1" 41, "a: "]
theorem HQ:∀z∈sg1++sg2,z.length<=41:=by decide +kernel
def SPC:Fs:=seqS (ifS (tBn eqD Q1 K0) (retS (binE addD (binE addD (sliceT i0 (noPart) (partO C0)) o3) (sliceT i0 (partO C0) (noPart)))) nextS) (gdQ (tBn eqD Q1 A0) (binE addD (sliceT i0 (noPart) (partO C0)) (sliceT i0 (partO F1) (noPart))) (gdQ (tBn eqD Q1 K2) (binE addD (binE addD (sliceT i0 (noPart) (partO C0)) o3) (sliceT i0 (partO (binE addD C0 A0)) (noPart))) (gdQ (tBn eqD Q1 U2) (binE addD (sliceT i0 (noPart) (partO F1)) (sliceT i0 (partO C0) (noPart))) ((retS (binE addD i0 o3))))))
def SPD:Fs:=seqS (J1 (D0 j6 g0 (binE addD (I0 lenF i0) A0)) T0) (asQ (binE addD C0 (D0 j6 g0 c9)) i3 (asQ (ixE B0 (D0 j6 g0 (cIn 30))) F5 (asQ (D0 j6 g0 fD) i7 SPC)))
theorem US:X6=seqS SPA (seqS SPB SPD):=rfl
theorem vh:∀z∈sg1++sg2,opn (tl z)<=1:=by decide +kernel
theorem UM(l:List Nat):cls l<=l.length:=JP
theorem Gf(l:List Nat):opn l<=l.length:=JP
theorem iK(l:List Nat){a f:Nat}(h:a<=f):l.take a++(l.drop a).take (f-a)++l.drop f=l:=by
 have e:l.drop f= (l.drop a).drop (f-a):=by rw[XV];congr 1;lia
 rw[e,zu,jS,jS]
section
variable{r q:Nat}{G:DH}{T s:Str}{s2:Option D}{n:Nat}
theorem iA{x y:List Nat}{Q:DPP}(h:x.length+y.length<=1000000)(k:Q (.str (ofL (x++y))) G):Wp (addD (.str (ofL x)) (.str (ofL y))) G Q:=by have bg:=big;refine(R4 (a:=ofL x) (b:=ofL y) (show x.length+y.length<=ze by lia)).mpr ?_;rw[cO];exact k
theorem gF{a b:Fe}{U:DSt}{i:Nat}{Q:DPP}(hz:T.length<=ze)(ha:a U G=some (.ok (.str T),G))(hb:b U G=some (.ok (.int i),G))(q:Q (.str (ofL ((tl T).take i))) G):Wp (sliceT a noPart (partO b) U) G Q:=by refine N7.mpr<| b8 ha<| b8 (a:=none) (G':=G) rfl<| FB.mpr<| b8 hb ⟨_,rfl,(d8 hz).mpr ?_⟩;rw[MS];exact q
theorem OE{a b:Fe}{U:DSt}{i:Nat}{Q:DPP}(hz:T.length<=ze)(ha:a U G=some (.ok (.str T),G))(hb:b U G=some (.ok (.int i),G))(q:Q (.str (ofL ((tl T).drop i))) G):Wp (sliceT a (partO b) noPart U) G Q:=by refine N7.mpr<| b8 ha<| FB.mpr<| b8 hb ⟨_,rfl,b8 (a:=none) (G':=G) rfl<| (d8 hz).mpr ?_⟩;rw[nY];exact q
theorem fZ{a f:Nat}{k:Int}(hT:T.length<=800000)(ha:a<=T.length)(hf:a<=f/\f<=a+3)(hs:s.length<=41)(ho:opn (tl s)<=1)(hN:Nst n (tl T)):Wp (SPC [sRf r,some (.str T),s2,some (.int a),some (.int f),some (.str s),some (.int k)]) G λfl G'=>∃z,fl= .rt (.str z)/\(z.length<=T.length+41/\Nst (n+3) (tl z))/\G'=G:=by
 have bg:=big;have hz:T.length<=ze:=by lia
 have lt:(tl T).length=T.length:=rfl;have c0:cls []=0:=rfl;have o0:opn []=0:=rfl;have ls:(tl s).length<=41:=hs;have fin:∀ {w:List Nat},w.length<=T.length+41->Nst (n+3) w->∃z,Fl.rt (.str (ofL w))= .rt (.str z)/\(z.length<=T.length+41/\Nst (n+3) (tl z))/\G=G:=λ{w} h1 h2=>⟨ofL w,rfl,⟨h1,h2⟩,rfl⟩;refine d9.mpr<| J3<| m5<| D4 (x:=.int k) (y:=.int 0) rfl rfl<| O8.mpr ⟨_,rfl,λ_=>?_,λ_=>m7.mpr ?_⟩
 ·refine o6<| bin_w<| bin_w<| gF hz rfl rfl<| b8 (a:=.str (ofL (tl s))) (G':=G) rfl<| iA (by simp only[za,zN,jA];lia)<| OE hz rfl rfl<| iA (by simp only[za,zN,jA];lia)<| fin (by simp only[za,zN,jA];lia) ?_;exact Nst.put (b:= []) (by rw[zX,jS];exact hN) (by rw[c0];lia)
 refine d9.mpr<| J3<| m5<| D4 (x:=.int k) (y:=.int 1) rfl rfl<| O8.mpr ⟨_,rfl,λ_=>?_,λ_=>m7.mpr ?_⟩
 ·refine o6<| bin_w<| gF hz rfl rfl<| OE hz rfl rfl<| iA (by simp only[za,zN,jA];lia)<| fin (by simp only[za,zN,jA];lia) ?_;have:=Nst.put (k:=3) (a:=(tl T).take a) (b:=((tl T).drop a).take (f-a)) (s:= []) (c:=(tl T).drop f) (by rw[iK _ hf.1];exact hN) (by have:=UM (((tl T).drop a).take (f-a));rw[zN]at this;rw[o0];lia);rw[zX]at this;exact this
 refine d9.mpr<| J3<| m5<| D4 (x:=.int k) (y:=.int 2) rfl rfl<| O8.mpr ⟨_,rfl,λ_=>?_,λ_=>m7.mpr ?_⟩
 ·refine o6<| bin_w<| bin_w<| gF hz rfl rfl<| b8 (a:=.str (ofL (tl s))) (G':=G) rfl<| iA (by simp only[za,zN,jA];lia)<| OE (i:=a+1) hz rfl rfl<| iA (by simp only[za,zN,jA];lia)<| fin (by simp only[za,zN,jA];lia) ?_;exact Nst.put (b:=((tl T).drop a).take (a+1-a)) (by rw[iK _ (by lia)];exact hN) (by have:=UM (((tl T).drop a).take (a+1-a));rw[zN]at this;lia)
 refine d9.mpr<| J3<| m5<| D4 (x:=.int k) (y:=.int 3) rfl rfl<| O8.mpr ⟨_,rfl,λ_=>?_,λ_=>m7.mpr ?_⟩
 · refine o6<| bin_w<| gF hz rfl rfl<| OE hz rfl rfl<| iA (by simp only[za,zN,jA];lia)<| fin (by simp only[za,zN,jA];lia) ?_;have e:(tl T).drop a= ((tl T).drop a).take (f-a)++(tl T).drop f:=by
    have e:(tl T).drop f= ((tl T).drop a).drop (f-a):=by rw[XV];congr 1;lia
    rw[e,jS]
   rw[e,<-zu];exact Nst.put (b:= []) (by rw[zX,jS];exact hN) (by have:=Gf (((tl T).drop a).take (f-a));rw[zN]at this;rw[c0];lia)
 ·refine o6<| D4 (x:=.str (ofL (tl T))) (y:=.str (ofL (tl s))) rfl rfl<| iA (by lia)<| fin (by simp only[za,zN,jA];lia) ?_;have:=Nst.put (k:=3) (a:=tl T) (b:= []) (s:=tl s) (c:= []) (by simpa using hN) (by rw[c0];lia);rw[zX]at this;exact this
theorem pZ{s3 s4 s5 s6:Option D}(h:M6 G r)(hq:q≠r)(e:G[q]? =some (.lst ((sg1++sg2).map D.str)))(hT:T.length<=800000)(hN:Nst n (tl T)):Wp (SPD [sRf r,some (.str T),sRf q,s3,s4,s5,s6]) G λfl G'=>∃z,fl= .rt (.str z)/\(z.length<=T.length+41/\Nst (n+3) (tl z))/\Fr r G G':=by have bg:=big;refine d9.mpr<| v7<| J5<| u0 (x:=.ref r) rfl<| j9<| bin_w<| O6 (as:= [.str T]) rfl<| (K4 (by lia)).mpr<| b8 (a:=.int 1) (G':=G) rfl<| J6.mpr<| m8.mpr<| Q9.mpr ⟨rfl,O4 h ⟨by lia,by lia⟩ λa a0 a1 G1 f1=>?_⟩;obtain⟨a,rfl⟩:=xR a0;refine d9.mpr<| v7<| bin_w<| b8 (a:=.int a) (G':=G1) rfl<| o4 (as:= [.ref r,.int 4]) rfl rfl<| O4 f1.2.2 ⟨by decide,by decide⟩ λb b0 b1 G2 f2=>J6.mpr ?_;obtain⟨b,rfl⟩:=xR b0;have f12:=f1.trans f2;refine d9.mpr<| v7<| bin_w<| b8 (a:=.ref q) (G':=G2) rfl<| o4 (as:= [.ref r,.int 30]) rfl rfl<| O4 f12.2.2 ⟨by decide,by decide⟩ λc c0 c1 G3 f3=>?_;have f13:=f12.trans f3;obtain⟨d,hd,ed⟩:=vL (l:=(sg1++sg2).map D.str) c0 (by rw[zn];exact c1);obtain⟨s,hs,rfl⟩:=zM.mp hd;refine(N6 (f13.at hq e)).mpr ⟨_,ed,?_⟩;refine d9.mpr<| v7<| o4 (as:= [.ref r,.int 5]) rfl rfl<| O4 f13.2.2 ⟨by decide,by decide⟩ λk k0 k1 G4 f4=>?_;refine(fZ (a:=a) (f:=a+b) hT (by lia) ⟨by lia,by lia⟩ (HQ s hs) (vh s hs) hN).mono ?_;rintro _ _ ⟨z,rfl,hz,rfl⟩;exact⟨z,rfl,hz,f13.trans f4⟩
theorem EF(h:M6 G r)(hT:T.length<=800000)(hN:Nst n (tl T)):Wp (F__law_spoilt [.ref r,.str T]) G λx G'=>∃z,x= .str z/\(z.length<=T.length+41/\Nst (n+3) (tl z))/\Fr r G G':=by have bg:=big;have Nw:=h.lt;refine t7 (show Wp (X6 [sRf r,some (.str T),none,none,none,none,none]) G _ from ?_);rw[US];refine w6 (X2:= [sRf r,some (.str T),some (.ref G.length),none,none,none,none]) (G':=G++[.lst (sg1.map D.str)]) rfl ?_;refine d9.mpr<| v7<| bin_w<| b8 (a:=.ref G.length) (G':=G++[.lst (sg1.map D.str)]) rfl<| O9.mpr ?_;refine u0 (x:=.str "\n") rfl<| u0 (x:=.str "-0") rfl<| u0 (x:=.str "01") rfl<| u0 (x:=.str "[]") rfl<| u0 (x:=.str "{}") rfl<| u0 (x:=.str "\"\"") rfl<| u0 (x:=.str "b: 1") rfl<| u0 (x:=.str "false") rfl<| u0 (x:=.str "_") rfl ?_;refine j9<| D4 (x:=.str "1") (y:=.int 40) rfl rfl<| (VD (by decide +kernel)).mpr<| j9<| D4 (x:=.str "1") (y:=.int 41) rfl rfl<| (VD (by decide +kernel)).mpr<| b8 (a:= [.str "a: "]) (G':=G++[.lst (sg1.map D.str)]) rfl ⟨sz,?_⟩;refine(GD (a:=sg1.map D.str) (b:=sg2.map D.str) (o9 j8) j8 (show 18+12<=ze by lia)).mpr ?_;have f0:Fr r G (G++[.lst (sg1.map D.str)]++[.lst (sg2.map D.str)]++[.lst (sg1.map D.str++sg2.map D.str)]):=((Fr.app h).trans (Fr.app h.app)).trans (Fr.app h.app.app);refine(pZ (q:=(G++[DO.lst (sg1.map D.str)]++[DO.lst (sg2.map D.str)]).length) f0.2.2 (by simp;lia) (by rw[yd];exact j8) hT hN).mono ?_;rintro _ G1 ⟨z,rfl,hz,f1⟩;exact o7 ⟨z,rfl,hz,f0.trans f1⟩
end
def OkT(z:Str):Prop:=z.length<=900000/\Nst 44 (tl z)
def XB(i:Nat):Fs:=ifS (notT (truthE (D2 F__law_right (R5 i)))) (retS cBf) nextS
def XF:Fs:=seqS (J1 (E9 F__law_hand g0 dN HJ) eO) (asQ (D2 F__law_written (D0 F__law_drawn P6 (cIn 18))) D1 (asQ (D0 F__law_spoilt P6 B0) (E1 10) (asQ (cSt "") P1 (seqS (forS (O7 (O0 (D0 j6 P6 kC))) (E1 11) XJB) (forS (itW (lstE (RC B0 (R5 10) (D0 F__law_spoilt P6 (R5 10)) i0))) (E1 12) (XB 12))))))
def XG:Fs:=seqS (forS (itEnum (O0 (sliceT g0 (noPart) (partO (cIn 63))))) (tupG 2 (consG RF (consG MF (nilG)))) XF) (retS cBt)
def XH:Fs:=seqS (forS (itW (lstE (RC (cIn 19) (cIn 20) (cIn 21) (cIn 30)))) T0 (forS (itW (lstE (C4 (C5 (cSt "[") (cSt "") (cSt "]")) (C5 (cSt "[") (cSt "[]") (cSt "]")) (C5 (cSt "{a: ") (cSt "0") (cSt "}"))))) (tupG 3 (consG i3 (consG F5 (consG i7 (nilG))))) XD)) XG
theorem bS:qF=seqS (J1 (lstE (y0 (cSt "") (y0 (cSt " ") (y0 (cSt "0") (y0 (cSt "-0") (y0 (cSt "00") (y0 (cSt "-") (y0 (cSt "+1") (y0 (cSt "1_0") (y0 (cSt "True") (y0 (cSt "truex") (D3 (cE (.str ("\"" :Str))) (cE (.str ("\"A\"" :Str))) (cSt "[") (cSt "[1,2]") (cSt "[1, ]"))))))))))))) P1) (asQ (binE addD i0 (lstE (y0 (cSt "[ 1]") (y0 (cSt "{a: 1, a: 2}") (y0 (cSt "{b: 1, a: 2}") (D3 (cSt "{a:1}") (cSt "{: 1}") (cSt "{A: 1}") (cSt "{a: 1,}") (cSt "[1] "))))))) P1 (seqS (forS (itW (binE addD i0 (lstE (D3 (cSt "{a: {b: []}}") (cSt "[[]]]") (cSt "0\n") (cSt "[]\n") (cE (.str ("\"a\"\n" :Str))))))) D1 (XB 2)) XH)):=rfl
theorem eU{i:Nat}{U:DSt}{d:D}{G:DH}(h:i<U.length):R5 i (U.set i (some d)) G=some (.ok d,G):=by unfold R5;rw[zU h]
def But(i:Nat)(U X2:DSt):Prop:=X2.length=U.length/\∀j,j≠i->X2[j]? =U[j]?
theorem But.refl{i:Nat}{U:DSt}:But i U U:=⟨rfl,λ_ _=>rfl⟩
theorem But.set{i:Nat}{U:DSt}{d:Option D}:But i U (U.set i d):=⟨by simp,λj h=>jm (Ne.symm h)⟩
theorem But.trans{i:Nat}{a b c:DSt}(h:But i a b)(k:But i b c):But i a c:=⟨k.1.trans h.1,λj hj=>(k.2 j hj).trans (h.2 j hj)⟩
theorem rl{i q:Nat}{L:List D}:∀(zs:List Str) (U:DSt) (G:DH),(∀z∈zs,OkT z)->i<U.length->G[q]? =some (.lst L)->Wp (C1 (E1 i) (XB i) (ckO q (.lst L)) (zs.map D.str) U) G λfl G'=>Gr G G'/\∃ X2,fl= .nx X2/\But i U X2
 |[],U,G,hz,hi,e=>E8.mpr ⟨u8 e,Gr.refl,U,rfl,.refl⟩
 |z::t,U,G,hz,hi,e=>by have oz:=hz z (zh ..);refine D8.mpr ⟨u8 e,R8.mpr<| lF<| V3<| J5<| j9<| b8 (eU hi)<| m8.mpr<| Q9.mpr ⟨rfl,(RJ oz.1 oz.2).mono ?_⟩⟩;rintro _ G1 ⟨rfl,g1⟩;refine⟨rfl,rfl,m7.mpr<| (rl t _ G1 (λi h=>hz i (zo _ h)) (by simpa using hi) (g1.at e)).mono ?_⟩;rintro _ G2 ⟨g2,X2,rfl,b⟩;exact⟨g1.trans g2,X2,rfl,But.set.trans b⟩
def tA:List Str:= ["", " ", "0", "-0", "00", "-", "+1", "1_0", "True", "truex", "\"", "\"A\"", "[", "[1,2]", "[1, ]"]
def tB:List Str:= ["[ 1]", "{a: 1, a: 2}", "{b: 1, a: 2}", "{a:1}", "{: 1}", "{A: 1}", "{a: 1,}", "[1] "]
def tC:List Str:= ["{a: {b: []}}", "[[]]]", "0\n", "[]\n", "\"a\"\n"]
theorem BJ:∀z∈tA++tB++tC,z.length<=900000/\opn (tl z)<=44:=by decide +kernel
theorem EX{U:DSt}{G:DH}{l m r:Str}{d:Int}(h3:U[3]? =some (some (.int d)))(h4:U[4]? =some (some (.str l)))(h5:U[5]? =some (some (.str m)))(h6:U[6]? =some (some (.str r)))(k:yH l d/\yH r d/\(yS l d).length+m.length<=900000/\(yS l d++m).length+(yS r d).length<=900000/\opn (tl (yS l d++m++yS r d))<=44):Wp (XD U) G λfl G'=>Gr G G'/\fl= .nx U:=by
 have bg:=big;have v:∀ {i:Nat} {x:D},U[i]? =some (some x)->R5 i U G=some (.ok x,G):=λ{i x} h=>by unfold R5;rw[h]
 refine lF<| V3<| J5<| j9<| bin_w<| bin_w<| bin_w<| b8 (v h4)<| b8 (v h3)<| (VD k.1).mpr<| b8 (v h5)<| (R4 (by lia)).mpr<| bin_w<| b8 (v h6)<| b8 (v h3)<| (VD k.2.1).mpr<| (R4 (by lia)).mpr<| m8.mpr<| Q9.mpr ⟨rfl,(RJ (by rw[YY];lia) (iO k.2.2.2.2)).mono ?_⟩;rintro _ G1 ⟨rfl,g1⟩;exact⟨rfl,rfl,m7.mpr ⟨g1,rfl⟩⟩
def tri:List (Str×Str×Str):= [("[", "", "]"),("[", "[]", "]"),("{a: ", "0", "}")]
def tD(x:Str×Str×Str):D:=.tup [.str x.1,.str x.2.1,.str x.2.2]
def ds4:List Int:= [19,20,21,30]
theorem fS:∀d∈ds4,∀x∈tri,yH x.1 d/\yH x.2.2 d/\(yS x.1 d).length+x.2.1.length<=900000/\(yS x.1 d++x.2.1).length+(yS x.2.2 d).length<=900000/\opn (tl (yS x.1 d++x.2.1++yS x.2.2 d))<=44:=by decide +kernel
section
variable{s0 s1 s2 s7 s8 s9 s10 s11 s12:Option D}{q:Nat}{L:List D}
theorem GL{d:Int}(hd:d∈ds4):∀(xs:List (Str×Str×Str)) (s4 s5 s6:Option D) (G:DH),(∀x∈xs,x∈tri)->G[q]? =some (.lst L)->
 Wp (C1 (tupG 3 (consG i3 (consG F5 (consG i7 nilG)))) XD (ckO q (.lst L)) (xs.map tD) [s0,s1,s2,some (.int d),s4,s5,s6,s7,s8,s9,s10,s11,s12]) G λfl G'=>Gr G G'/\∃s4 s5 s6,fl= .nx [s0,s1,s2,some (.int d),s4,s5,s6,s7,s8,s9,s10,s11,s12]
 |[],s4,s5,s6,G,hx,e=>E8.mpr ⟨u8 e,Gr.refl,_,_,_,rfl⟩
 |x::xs,s4,s5,s6,G,hx,e=>by refine D8.mpr ⟨u8 e,b8 (a:= [s0,s1,s2,some (.int d),some (.str x.1),some (.str x.2.1),some (.str x.2.2),s7,s8,s9,s10,s11,s12]) (G':=G) rfl<| (EX rfl rfl rfl rfl (fS d hd x (hx x (zh ..)))).mono ?_⟩;rintro _ G1 ⟨g1,rfl⟩;refine(GL hd xs _ _ _ G1 (λy h=>hx y (zo _ h)) (g1.at e)).mono λfl G2 z=>?_;exact⟨g1.trans z.1,z.2⟩
theorem TK:∀(ds:List Int) (s3 s4 s5 s6:Option D) (G:DH),(∀d∈ds,d∈ds4)->G[q]? =some (.lst L)->
 Wp (C1 T0 (forS (itW (lstE (C4 (C5 (cSt "[") (cSt "") (cSt "]")) (C5 (cSt "[") (cSt "[]") (cSt "]")) (C5 (cSt "{a: ") (cSt "0") (cSt "}"))))) (tupG 3 (consG i3 (consG F5 (consG i7 (nilG))))) XD) (ckO q (.lst L)) (ds.map D.int) [s0,s1,s2,s3,s4,s5,s6,s7,s8,s9,s10,s11,s12]) G λfl G'=>Gr G G'/\∃s3 s4 s5 s6,fl= .nx [s0,s1,s2,s3,s4,s5,s6,s7,s8,s9,s10,s11,s12]
 |[],s3,s4,s5,s6,G,hx,e=>E8.mpr ⟨u8 e,Gr.refl,_,_,_,_,rfl⟩
 |d::ds,s3,s4,s5,s6,G,hx,e=>by refine D8.mpr ⟨u8 e,R8.mpr<| D7.mpr<| HA.mpr<| b8 (a:=.ref G.length) (G':=G++[.lst (tri.map tD)]) rfl<| (gC j8).mpr<| (GL (hx d (zh ..)) tri _ _ _ _ (λx h=>h) j8).mono ?_⟩;rintro _ G1 ⟨g1,s4,s5,s6,rfl⟩;have g1:=Gr.app.trans g1;refine(TK ds _ _ _ _ G1 (λy h=>hx y (zo _ h)) (g1.at e)).mono λfl G2 z=>?_;exact⟨g1.trans z.1,z.2⟩
end
section
variable{s0 s2 s3 s4 s5 s6 s7 s8 s10 s12:Option D}{r:Nat}
theorem gO:∀(items:List D) (z:Str) (n:Nat) (s11:Option D) (G:DH),M6 G r->Nst n (tl z)->z.length+41*items.length<=1000->
 Wp (C1 (E1 11) XJB (λ_=>true) items [s0,some (.str z),s2,s3,s4,s5,s6,s7,s8,sRf r,s10,s11,s12]) G λfl G'=>Fr r G G'/\∃z' s11,fl= .nx [s0,some (.str z'),s2,s3,s4,s5,s6,s7,s8,sRf r,s10,s11,s12]/\Nst (n+3*items.length) (tl z')/\z'.length<=1000
 |[],z,n,s11,G,h,hN,hl=>E8.mpr ⟨rfl,Fr.refl h,z,_,rfl,hN,by simpa using hl⟩
 |d::t,z,n,s11,G,h,hN,hl=>by simp only[zp]at hl;refine D8.mpr ⟨rfl,R8.mpr<| v7<| o4 (as:= [.ref r,.str z]) rfl rfl<| (EF h (by lia) hN).mono ?_⟩;rintro _ G1 ⟨z1,rfl,⟨l1,n1⟩,f1⟩;refine(gO t z1 (n+3) _ G1 f1.2.2 n1 (by lia)).mono ?_;rintro _ G2 ⟨f2,z2,s11,rfl,n2,l2⟩;exact⟨f1.trans f2,z2,_,rfl,n2.mono (by simp only[zp];lia),l2⟩
end
theorem aT{ns:List Int}{p:Nat}{k c:Int}{G:DH}{s1 s2 s3 s4 s5 s6 s9 s10 s11 s12:Option D}(e:G[p]? =some (.rol (ns.map D.int)))(hk:0<=k/\k<64):Wp (XF [sRf p,s1,s2,s3,s4,s5,s6,some (.int k),some (.int c),s9,s10,s11,s12]) G λfl G'=>Gr G G'/\∃ U,fl= .nx (some (.ref p)::U)/\U.length=12:=by
 have bg:=big;refine d9.mpr<| v7<| o4 (as:= [.ref p,.int c,.int k]) rfl rfl<| (dY e hk).mono ?_;rintro _ G1 ⟨r,rfl,hr,hh,g1⟩;refine d9.mpr<| v7<| J5<| j9<| o4 (as:= [.ref r,.int 18]) rfl rfl<| (Gb hh).mono ?_;rintro v G2 ⟨hv,f2⟩;have gv:GV 18 v:=hv.gv.le (by decide);have lv:(shN 18 v).length<=360000:=zw hv.gv.ln hv.ln;refine m8.mpr<| Q9.mpr ⟨rfl,Lg (N:=21) gv (by decide) (by lia) λG3 j3=>?_⟩;obtain⟨t3,rfl⟩:=j3;have f3:=f2.trans (Fr.app (t:=t3) f2.2.2);have n3:Nst 18 (tl (ofL (shN 18 v))):=gv.nb;have l3:(ofL (shN 18 v)).length<=360000:=lv;generalize ofL (shN 18 v)=T at n3 l3;generalize G2++t3=G3 at f3;refine d9.mpr<| v7<| o4 (as:= [.ref r,.str T]) rfl rfl<| (EF f3.2.2 (by lia) n3).mono ?_;rintro _ G4 ⟨z1,rfl,⟨l4,n4⟩,f4⟩;have f4:=f3.trans f4;refine w6 (X2:= [sRf p,some (.str ("" :Str)),some (.str T),s3,s4,s5,s6,some (.int k),some (.int c),sRf r,some (.str z1),s11,s12]) (G':=G4) rfl ?_;refine d9.mpr<| D7.mpr<| rng1.mpr<| j9<| o4 (as:= [.ref r,.int 6]) rfl rfl<| O4 f4.2.2 ⟨by decide,by decide⟩ λj j0 j1 G5 f5=>m8.mpr<| (rng1_int ⟨by lia,by lia⟩).mpr ?_;have f5:=f4.trans f5;have lj:(v5 0 j.toNat).length<=5:=by unfold v5;rw[zn,jE];lia
 refine(gO (v5 0 j.toNat) "" 0 _ G5 f5.2.2 (X7 λc hc=>nomatch hc) (show 0+41*_<=1000 by lia)).mono ?_;rintro _ G6 ⟨f6,z2,s11,rfl,n6,l6⟩;have f6:=f5.trans f6;refine D7.mpr<| HA.mpr<| O9.mpr<| u0 (x:=.str T) rfl<| u0 (x:=.str z1) rfl<| j9<| o4 (as:= [.ref r,.str z1]) rfl rfl<| (EF f6.2.2 (by lia) n4).mono ?_;rintro _ G7 ⟨z3,rfl,⟨l7,n7⟩,f7⟩;have f7:=f6.trans f7;refine u0 (x:=.str z2) rfl<| m8.mpr ⟨sz,(gC j8).mpr<| (rl [T,z1,z3,z2] _ _ (λz hz=>?_) (by decide:12<13) j8).mono ?_⟩
 · simp only[zl,zA,or_false]at hz;rcases hz with rfl|rfl|rfl|rfl
   ·exact⟨by lia,n3.mono (by decide)⟩
   ·exact⟨by lia,n4.mono (by decide)⟩
   ·exact⟨by lia,n7.mono (by decide)⟩
   ·exact⟨by lia,n6.mono (by lia)⟩
 · rintro _ G8 ⟨g8,U,rfl,b⟩;refine⟨(Gr.of g1 (f7.trans (Fr.app f7.2.2)) hr).trans g8,?_⟩;have hl:U.length=13:=b.1;have h0:=b.2 0 (by decide);rcases U with _|⟨x,τ⟩
   ·cases hl
   ·have h0:x=some (.ref p):=js h0;exact⟨τ,by rw[h0],ZJ hl⟩
theorem LK{ns:List Int}{p q:Nat}{L:List D}:∀(cs:List Int) (k:Nat) (U:DSt) (G:DH),U.length=12->G[p]? =some (.rol (ns.map D.int))->G[q]? =some (.lst L)->k+cs.length<=63->
 Wp (C1 (tupG 2 (consG RF (consG MF nilG))) XF (ckO q (.lst L)) (((cs.map D.int).zipIdx k).map λp=>.tup [.int ((p.2:Nat):Int),p.1]) (some (.ref p)::U)) G λfl G'=>∃ U,fl= .nx U
 |[],k,U,G,hσ,e,et,hk=>by simp only[JC,Xo];exact E8.mpr ⟨u8 et,_,rfl⟩
 |c::r,k,U,G,hσ,e,et,hk=>by
   simp only[zE,Xg];simp only[zp]at hk
   match U,hσ with
   |[s1,s2,s3,s4,s5,s6,s7,s8,s9,s10,s11,s12],_=>
     refine D8.mpr ⟨u8 et,?_⟩;refine b8 (a:= [sRf p,s1,s2,s3,s4,s5,s6,some (.int k),some (.int c),s9,s10,s11,s12]) (G':=G) rfl ?_;refine(aT e ⟨by lia,by lia⟩).mono ?_;rintro _ G1 ⟨g1,U,rfl,hσ⟩;exact LK r (k+1) U G1 hσ (g1.at e) (g1.at et) (by lia)
theorem vf(ns:List Int)(hn:ns.length<=63):Wp (MH [.ref 0]) [.rol (ns.map D.int)] λd _=>d= .bl true:=by
 have bg:=big;have e0:([DO.rol (ns.map D.int)]:DH)[0]? =some (.rol (ns.map D.int)):=rfl;generalize hG:([DO.rol (ns.map D.int)]:DH)=G at *;refine t7 (show Wp (qF [sRf 0,none,none,none,none,none,none,none,none,none,none,none,none]) G _ from ?_);rw[bS];refine w6 (X2:= [sRf 0,some (.ref G.length),none,none,none,none,none,none,none,none,none,none,none]) (G':=G++[.lst (tA.map D.str)]) rfl ?_;refine d9.mpr<| v7<| bin_w<| b8 (a:=.ref G.length) (G':=G++[.lst (tA.map D.str)]) rfl<| b8 (a:=.ref (G++[DO.lst (tA.map D.str)]).length) (G':=G++[.lst (tA.map D.str)]++[.lst (tB.map D.str)]) rfl<| (GD (a:=tA.map D.str) (b:=tB.map D.str) (o9 j8) j8 (show 15+8<=ze by lia)).mpr ?_;have e1:(G++[DO.lst (tA.map D.str)]++[DO.lst (tB.map D.str)]++[DO.lst (tA.map D.str++tB.map D.str)])[0]? =some (.rol (ns.map D.int)):=o9 (o9 (o9 e0));have e2:(G++[DO.lst (tA.map D.str)]++[DO.lst (tB.map D.str)]++[DO.lst (tA.map D.str++tB.map D.str)])[(G++[DO.lst (tA.map D.str)]++[DO.lst (tB.map D.str)]).length]? =some (.lst (tA.map D.str++tB.map D.str)):=j8;generalize (G++[DO.lst (tA.map D.str)]++[DO.lst (tB.map D.str)]).length=q1 at e2;generalize G++[DO.lst (tA.map D.str)]++[DO.lst (tB.map D.str)]++[DO.lst (tA.map D.str++tB.map D.str)]=G1 at e1 e2;refine d9.mpr<| D7.mpr<| HA.mpr<| bin_w<| b8 (a:=.ref q1) (G':=G1) rfl<| b8 (a:=.ref G1.length) (G':=G1++[.lst (tC.map D.str)]) rfl<| (GD (b:=tC.map D.str) (o9 e2) j8 (show 23+5<=ze by lia)).mpr<| (gC j8).mpr ?_;have em:tA.map D.str++tB.map D.str++tC.map D.str= (tA++tB++tC).map D.str:=by rw[yd,yd]
 rw[em];refine(rl (tA++tB++tC) _ _ (λz hz=>⟨(BJ z hz).1,iO (BJ z hz).2⟩) (by decide:2<13) j8).mono ?_;rintro _ G2 ⟨g2,U,rfl,b⟩;have e3:=g2.at (o9 (o9 e1));have hl:U.length=13:=b.1;have h0:=b.2 0 (by decide)
 match U,hl,h0 with
 |[s0,s1,s2,s3,s4,s5,s6,s7,s8,s9,s10,s11,s12],_,h0=>
   have h0:s0=some (.ref 0):=js h0;subst h0;refine d9.mpr<| D7.mpr<| HA.mpr<| b8 (a:=.ref G2.length) (G':=G2++[.lst (ds4.map D.int)]) rfl<| (gC j8).mpr<| (TK ds4 _ _ _ _ _ (λd h=>h) j8).mono ?_;rintro _ G3 ⟨g3,s3,s4,s5,s6,rfl⟩;have e4:=g3.at (o9 e3);obtain⟨cs,ec,hc⟩:=Bv ns;refine d9.mpr<| D7.mpr<| mU.mpr<| j9<| N7.mpr<| b8 (a:=.ref 0) (G':=G3) rfl<| b8 (a:=none) (G':=G3) rfl<| b8 (a:=some 63) (G':=G3) rfl<| (aQ e4).mpr<| m8.mpr<| (dU j8).mpr ?_;simp only[ec];refine(LK (ns:=ns) cs 0 _ _ rfl (o9 e4) (by rw[<-ec];exact j8) (by lia)).mono ?_;rintro _ G4 ⟨U,rfl⟩;exact o6<| nQ.mpr<| o7 rfl
theorem pure_law:∀ns:List Int,ns.length<=63->∃G',MH [.ref 0] [.rol (ns.map D.int)]=some (.ok (.bl true),G'):=λns hn=>by obtain⟨d,G',e,rfl⟩:=vf ns hn;exact⟨G',e⟩
end W
namespace PySem.W.Fast
def tw16895065377005126281:=()
def tw10925646131068551474:=()
def tw3983918906583085732:=()
def tw10653671297276391311:=()
def tw14824252624978454126:=()
def tw5490238089311344744:=()
def tw4341676245653847024:=()
def tw883834451083663253:=()
def tw7468029681438722946:=()
def tw96217782953926106:=()
def tw18436619942207570544:=()
def tw1845169704920779159:=()
def tw10985573763579846921:=()
def tw15135389251312672550:=()
def tw17122220103139210021:=()
def tw15596946153198535226:=()
def tw11707450123527844762:=()
def tw17483607446397243744:=()
def tw6722472871345063901:=()
def tw8491990255123953331:=()
def tw14972079835555033229:=()
def tw18047544238015836745:=()
def tw14938617607961298669:=()
def tw679374760538476299:=()
def tw7110849945031353526:=()
def tw5575462830152182214:=()
def tw654180559948254762:=()
def tw4442413123265336611:=()
def tw17828143542637143015:=()
def tw8560217575776957713:=()
def tw17403620837167812851:=()
def tw14410549859517143641:=()
def tw15880041254257794759:=()
def tw8279524764877458618:=()
def tw17502025815240519949:=()
def tw15793136180647776454:=()
def tw7200036447909872013:=()
def tw1247392397113864771:=()
def tw5154182065064457583:=()
def tw18325768054923337552:=()
def tw2706669701515135468:=()
def tw7174569699902521397:=()
def tw5202766970320900855:=()
def tw17756184440825427936:=()
end PySem.W.Fast
local macro_rules | `(tactic| walk_at "fh") => `(tactic| first | exact trivial | (refine DL.FHs.c ?q ?b; (case q => refine' DL.FH.of ?a ?l ?e ?k; (case a => k_is); (case l => k_is); (case e => k_is); (case k => k_is)); (case b => walk_at "fh")))
local macro_rules | `(tactic| walk_at "cr") => `(tactic| first | exact DL.cr_str | exact DL.cr_int | exact DL.cr_bl | exact DL.cr_non | (refine' DL.cr_tup ?l ?z ?h; (case l => k_is); (case z => rfl); (case h => walk_at "cs")))
local macro_rules | `(tactic| walk_at "cs") => `(tactic| first | exact DL.crl_nil | (refine' DL.crl_cons ?a ?b; (case a => walk_at "cr"); (case b => walk_at "cs")))
set_option maxRecDepth 100000 in
set_option maxHeartbeats 0 in
theorem PySem.Challenge.cw_allmeet_k05_texts_of_no_value_holds : PySem.Challenge.rw_allmeet_k05_texts_of_no_value.Holds := by
 w_on;o_law;k_head;(case hw=>w_witness2)
 k_fill
 refine DL.walk63 (l := PySem.Challenge.rw_allmeet_k05_texts_of_no_value) 95 rfl rfl ⟨rfl, by decide, by decide, rfl⟩ (fun w h Y => PySem.W.kIn_of Y) ?F
 case F=>
  intro w mg fa h KX G hmg;refine' W.all_mk KX G hmg ?Y0 ?Y25 ?_ ?_ ?x_NoValue ?j_0 ?z W.pure_law
  (case x_NoValue=>refine' DL.XI.of ?xe ?xq;(case xe=>k_is);(case xq=>k_exc))
  (case j_0=>refine' DL.XJI.of ?ja ?jb ?jc ?jd ?je ?jf ?jg ?jh ?ji ?jj ?jk ?jl ?jo ?jp ?jq ?jr;(case ja=>k_is);(case jb=>k_is);(case jc=>k_is);(case jd=>k_is);(case je=>k_is);(case jf=>k_is);(case jg=>k_is);(case jh=>k_is);(case ji=>k_is);(case jj=>k_is);(case jk=>k_is);(case jl=>k_is);(case jo=>k_is);(case jp=>k_is);(case jq=>k_is);(case jr=>refine' ⟨?ka,?kb,?kc,?kd⟩<;>(refine' DL.XN.of ?na ?nb ?nc ?nd;(case na=>k_is);(case nb=>k_is);(case nc=>k_is);(case nd=>k_is))))
  (case z=>intro b hb;simp only[DL.bltL,zl,zA,or_false]at hb;rcases hb with rfl|rfl|rfl|rfl|rfl|rfl|rfl|rfl|rfl|rfl|rfl|rfl|rfl|rfl|rfl|rfl|rfl|rfl|rfl|rfl<;>k_is)
  (case Y0=>walk_at "fh")
  (case Y25=>walk_at "fh")
  all_goals (refine' DL.CC.of ?g ?r;(case g=>k_is);(case r=>walk_at "cr"))
