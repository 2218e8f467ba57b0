import PyProof.Rows.All
import Wide.All
import OpenK.AllK
import Wide.FinOn
import Lean
import PyProof.EqAt
import PyProof.EqKinds
import PyProof.TupleCall
import PyProof.NeKinds
import PyProof.ZipIter
import PyProof.EnumFor
import PyProof.EnumMake
import PyProof.EnumStmt
import PyProof.Draws
import KE.KDictSum
import PyProof.Rows.SortStr
import PyProof.StrWalks
import KE.KRevIter
import KE.KDictList
import PyProof.CollectIter
import PyProof.SliceStr2
import PyProof.StrBlockI
import KE.KListMore
import PyProof.DictWalks
import PyProof.TupleOfSeq
import PyProof.AttrMissHeap
import PyProof.AttrMissSeq
import KE.KDictOf
import PyProof.WalksMore
import KE.KSortTup
import KE.KSortKey
import PyProof.Rows.StrJoin2
import PyProof.ListMulRoad
import PyProof.FactsAll.tuple_2
import PyProof.Rows.SortShell
import PyProof.WalkInts
import KE.KMinBuiltin
import KE.KIntText
import PyProof.CallStr
import PyProof.PureStr
import PyProof.Rows.SetFrom
import KE.KMinKey
import PyProof.DictItems
import PyProof.DictItemsLoops
import PyProof.ReprRoads
import PyProof.WalksS
import PyProof.MeetsSeq2
import KE.KItemsList
import PyProof.TupleKey
import PyProof.IsRules
import PyProof.RaisesMany
import PyProof.ExcClass2
import OpenK.KOwn
import PyProof.FString
import PyProof.ExcArgsOwn
import KE.KIsAll
import PyProof.RulesAs
import PyProof.NsDelKeeps
import PySem.Challenge.RW_allmeet_k48_how_deep_and_how_long
set_option Elab.async false
set_option linter.all false
set_option maxRecDepth 100000
open PySem renaming wpAny_bind→za,Value→ze,Shared→zh,sizeLine→zi,wpAny_pure→zm,wpAny→zq,model→zz,Program→zB,starEach→zC,mainGlobals→zF,World→zI,Around→zL,compareOp→zM,bootBuiltins→zU,wpAny_field→zZ,wpAny_mono→jg,wpAny_loadPart'→jy,wpAny_loadPart_at→jJ,wpAny_holding→jQ,codeAny_builtin→jY,wpAny_seqItems→yg,binaryOp→yh,backTo→yo,wpAny_Call_Name_kw→yB,rawInt→yC,sizeLine_eq→yF,wpAny_truthy_bool→yH,wpAny_newObj_type→yI,wpAny_callSpecial?_slot→yJ,IsPair→yP,sliceBounds→yR,plainId_quiet→yS,wpAny_setField→yT,wpAny_execs_nil→yZ,mem_of_lookup→xb,foldedSetIterable→xc,assignEach→xh,FuncData→xm,wpAny_setField_rec→xv,wpAny_call_entry→xK,cLine→xL,wpAny_standAt→xO,letOwnedTupleGo→xQ,Builtin→xR,sysModules→xU,wpAny_letGo→xX,wpAny_pyIter_list→Za,wpAny_eqBool_int→Zb,noteFrame→Zi,strIterType→Zn,IsZip→Zz,codeAny→ZC,wpAny_rule→ZK,swapsWithSole→Ya,swappedStores→Yb,attributeBase→Yc,wpAny_execs_cons→Ym,wpAny_typeOf→Yu,wpAny_Name→Yv,pyNext→Yw,BindsTo→Yy,codeAny_handlers_test→YD,wpAny_updateSeq_pair→YN,wpAny_tryCatch→YO,keywordEach→YQ,assign→YR,swapsWith→YT,leaving→YU,callerA→YV,wpAny_handleBy_cons→YZ,wpAny_onRaise→Xi,behindInMarks→Xj,MulOk→Xl,typeIs_str→Xs,typeIs_int→Xt,slot_list_getitem→Xz,getItem→XA,codeAny_mono→XB,wpAny_Try_except→XZ,setFlight→Ja,noFill_tuple_add→Jb,Result→Jl,richCompare→Jp,wpAny_updateSeq→Jv,valueAt→JB,sliceRange→JG,reprText→JH,merged→JI,intText?→JJ,backToKw→JK,codeAny_handlers_suite_as→JV
open PySem.W renaming Frag→zc,nsIn→jv,findIn→jx,subIn→jz,mroIn→jB,mg_of→jT,keepIn→jU,excIn→jZ,kitOne→ya,isClsIn→yd,typeIn→yq,fnOf→yG,kitAny→yY,clsIn→xE,kas_ask→Zc,codeIn→Zj,callWith_K→Zk,methodObj→Zs,kat_cons→ZD,kas_sort→ZG,kat_yes→ZN,KatTups→ZO,looks_findIn→Yd,kat_no→Ye,kat_go→Yf,looks_mroIn→Yn,kia_one→Xa,cellsFrom_some→Jc,mg_none_of→JL,kat_lt_int→JM,specialIn→JW,kitx_list→JX,kitx_dict→JY
open List renaming length_append→zd,mem_cons→zk,size_toArray→zn,append_assoc→zo,getElem?_eq_getElem→zr,mem_singleton→zt,getD_eq_getElem?_getD→zv,getElem?_append_left→zA,length_cons→zD,length_map→zE,mem_append_right→zG,toArray→zJ,getElem?_cons_zero→zK,getElem?_eq_none→zO,mem_cons_of_mem→zP,range→zR,map_cons→zW,getElem?_set_self→zX,getElem?_set_ne→jb,append_nil→ji,not_mem_nil→jm,mem_cons_self→jo,mem_append→jr,getElem?_cons_succ→jt,filterMap_cons→ju,all_cons→jC,replicate→jE,getElem?_eq_some_iff→jI,length_nil→jK,length_take→jL,getElem?_map→jW,getElem?_append_right→ye,any_cons→yt,mem_range→yz,mem_of_getElem?→yA,range_succ_eq_map→yK,lookup_cons→yL,set_cons_succ→yO,length_singleton→yQ,find?_cons→yU,pairwise_map→yW,mem_append_left→yX,eq_nil_of_length_eq_zero→xi,set_cons_zero→xj,filterMap_map→xk,take_append_drop→xt,pairwise_append→xA,mem_iff_getElem→xB,drop_eq_getElem_cons→xG,map_congr_left→xI,zip_cons_cons→xM,take_of_length_le→xS,length_range→xT,ext_getElem→xZ,map_append→Zh,map_map→Zm,pairwise_cons→Zv,pairwise_iff_getElem→ZB,getElem_inj→ZP,mem_map→ZY,map_nil→ZZ,of_mem_zip→Yh,nodup_cons→Yi,forIn_cons→Yj,getElem?_of_mem→Yt,mergeSort_perm→YC,getElem?_drop→YL,reverse_cons→YX,getElem?_set→YY,eraseIdx_eq_take_drop_succ→Xg,prefix_refl→Xp,length_drop→Xq,all_eq_true→Xr,range_succ→Xx,nil_append→Xy,forIn_nil→XV,filterMap→XW,extract_eq_drop_take→Jo,getElem?_take_of_lt→Ju,pairwise_mergeSort→Jz,getElem?_replicate→JA,drop_eq_nil_of_le→JE,all_map→JF,set_append_right→JS,perm_append_comm→JT,cons_lt_cons_iff→JU
open PySem.Heap renaming get?_push_of_some→zf,lt_size→zj,get?_push_size→zy,get?_update_other→js,get?_update_self→jN,get?_none_of_le→yy,SameBut→yV,get?_update_ne→xf,size_push→xg,get?_push_ne→YW,size_after_update→JD
open Nat renaming le_refl→zg,ne_of_lt→zu,lt_of_lt_of_le→zQ,le_trans→jc,zero_le→jl,le_add_right→jM,lt_irrefl→yx,ne_of_gt→xp,lt_succ_of_lt→xz,lt_trans→xV,le_of_lt→Zq,lt_or_eq_of_le→Zy,lt_succ_self→ZT,add_sub_cancel_left→ZU,lt_or_ge→Yg,sub_succ_lt_self→Yz,mod_lt→YS,toDigits→Xe,le_of_eq→Xf,zero_add→JQ,sub_self→JR
open Bool renaming false_ne_true→zw,and_eq_true→zS,false_eq_true→jp,eq_false_iff→jO,not_eq_true'→yD,and_eq_true_iff→Ze
open Array renaming length_toList→zV,getElem?_eq_getElem→ja,getElem?_toList→jd,getElem?_eq_some_iff→jh,perm_iff_toList_perm→yN,getD_eq_getD_getElem?→xu,toList_inj→ZM,getD→ZV,toList_append→YB,append_assoc→YI,getElem?_setIfInBounds→Xv
open Option.some renaming injEq→jf,inj→jH
open PySem.SetTable.layClean renaming free→jj
open PySem.SetTable renaming below→jk,leap→jP,runEnd→jX,bits→yi,insertAt→xl,turns→ZW,has→XL
open PySem.Builtin.SmallTypes renaming nextOf→jq,ownedTupleIsFree→yk,ownedTupleHandOut→Zu
open List.cons renaming inj→jw
open PySem.Obj renaming mapFields→jA,mapSeq→jV,isFreed_of_fields→yj,data_mapFields→yr,cls_mapFields→Xc
open PyProof.Rows renaming slot_tuple_getitem→jD,seqObj→jF,Keyed→jS,envOfC→yb,arrOf→ym,kindOf→xn,callWith_type1→xY,SortSt→Zl,failedOf→Zp,AllBare→ZI,pendingOf→ZJ,oneType'→Yq,IsTup→Yr,listUpdate_at→Xn,getElem?_bubble→Jx,get?_update_seq→Jy,wpS_pure→JO,keyLt'_oneType→JP
open PySem.Around renaming under_plainId→jG
open PySem.SeqAt renaming EqAt→jR,RcNeAt→ZQ,RcAt→YE,ne_of_list_tuple→Jw,notIn_tupleAt→JZ
open False renaming elim→yc
open Int renaming emod_nonneg→yf,eq_ofNat_of_zero_le→yE,emod_lt_of_pos→xN,toNat_natCast→xW,le_refl→Zg,natAbs_neg→YA,lt_or_le→Xh
open Option renaming isSome_iff_exists→yn,isSome_map→Zx,map_some→Xo
open PySem.Str renaming ofString→yw
open Classical renaming byContradiction→yM,choose→xP,choose_spec→XY
open PySem.Builtin.Slice renaming slicePlaces→xr,sliceAdjust→Zd,sliceApplied→YH
open PySem.Builtin.Tuple renaming tupleExact→xw,tupleItemsOf→YG
open Prod.mk renaming inj→xy
open PySem.SetTable.below renaming go→xC
open PySem.F renaming slot_tuple_iterator_next→xF,plain_max_loop→xJ,plain_min_loop→Zf,args_tuple_add_2→Zw,entry_tuple_add→ZH,slot_tuple_add→ZL,slot_list_getattribute→ZR,slot_list_append→ZS,slot_zip_next→Ys,typeOf_object_class→Yx,type_list_append→XF,plainAttrs_list→XT,args_tuple_iterator_next_1→Jm,slot_str_startswith→Js,entry_tuple_iterator_next→Jt,slot_gs_get→JN
open PySem.Paired renaming length→xH
open PySem.Builtin.Str renaming occurrences→Zo,subAt→Yp,strSliceIndices→YK
open Function renaming comp_def→Zr
open PySem.Txt renaming slice→Zt
open PySem.EntryCells renaming newEntry→ZX
open PySem.SeqAt.EqAt renaming str_int→Yk,int_str→Yl,same→YJ,none_bool→XM,bool_none→XQ,bool_bool→XS,str_none→Jd,str_bool→Je,none_str→Jf,none_int→Jg,int_none→Jh,int_bool→Ji,bool_str→Jj,bool_int→Jk,str_str→Jq,int_int→Jr
open PySem.Calls renaming evalArgs_plain→Yo,Name_function_global→XG
open PySem.NumText renaming digitsVal→YF
open ToString renaming toString→YM
open PySem.W.KatTups renaming cons→Xb
open PySem.Builtin.Dict renaming updateFrom→Xd,pairItems→Xm
open PySem.W.Looks renaming of_pure→Xk
open PySem.Value.ref renaming inj→Xu
open PySem.Heap.IsSliceOf renaming new→Xw
open PySem.W.KIN renaming val_back→XD
open PySem.Heap.SameBut renaming update→XE
open List.Perm renaming append_right→XH,append_left→XX
open Nat.succ renaming inj→XU
open PySem.PassesOwn renaming leaving→JC
noncomputable section
abbrev VSP:=ze->zh->Prop
abbrev PNS:=List (PySem.Addr×PySem.Obj)
namespace L2
open PySem PySem.Spec PyProof.Rows
theorem w6{a:α}{P:Prop}(h:none=some a):P:=nomatch h
theorem BF{a:α}{P:Prop}(h:some a=none):P:=nomatch h
theorem sE{P:Prop}(h:false=true):P:=nomatch h
theorem oG{a:α}{l:List α}{P:Prop}(h: []=a::l):P:=nomatch h
theorem kI{a:α}{l:List α}{P:Prop}(h:a::l= []):P:=nomatch h
abbrev Key:=Sum Int Str
def bC:Key->ze->Bool
| .inl k,v=>Value.isInt k v
| .inr x,v=>Value.isStrOf x v
def Fv(w:zI):Key->Int
| .inl k=>hashInt k
| .inr x=>hashStr w x
theorem K6:∀ {k} {v},bC k v=true->(∃i t,k=Sum.inl i/\v=Value.int i t)\/(∃x t,k=Sum.inr x/\v=Value.str x t)
| .inl i,v,h=>by obtain⟨t,e⟩:=Value.isInt_shape (k:=i) (v:=v) h;exact .inl ⟨i,t,rfl,e⟩
| .inr x,v,h=>by obtain⟨t,e⟩:=Value.isStrOf_shape (x:=x) (v:=v) h;exact .inr ⟨x,t,rfl,e⟩
theorem Qb(i:Int)(t:Tok):bC (.inl i) (.int i t)=true:=by simp[bC,Value.isInt]
theorem Gj(x:Str)(t:Tok):bC (.inr x) (.str x t)=true:=by simp[bC,Value.isStrOf]
theorem gY(a b:Int):decide ((Sum.inl a:Key)=Sum.inl b)= (a==b):=by
 by_cases e:a=b
 ·subst e;simp
 ·have h:¬(Sum.inl a:Key)=Sum.inl b:=λq=>e (Sum.inl.inj q);rw[decide_eq_false h];exact(beq_eq_false_iff_ne.mpr e).symm
theorem qp(a b:Str):decide ((Sum.inr a:Key)=Sum.inr b)=decide (a=b):=by
 by_cases e:a=b
 ·subst e;simp
 ·have h:¬(Sum.inr a:Key)=Sum.inr b:=λq=>e (Sum.inr.inj q);rw[decide_eq_false h,decide_eq_false e]
theorem oi(a:Int)(b:Str):decide ((Sum.inl a:Key)=Sum.inr b)=false:=decide_eq_false (λq=>nomatch q)
theorem Sj(a:Str)(b:Int):decide ((Sum.inr a:Key)=Sum.inl b)=false:=decide_eq_false (λq=>nomatch q)
def O1(prog:zB)(w:zI):PySem.KeyKind prog w Key where
 is:=bC
 hash:=Fv w
 inj:=λv a b ha hb=>by
  rcases K6 ha with⟨i,t,rfl,rfl⟩|⟨x,t,rfl,rfl⟩
  ·rcases K6 hb with⟨j,u,rfl,e⟩|⟨y,u,rfl,e⟩
   ·injection e with e1 _;rw[e1]
   ·exact nomatch e
  ·rcases K6 hb with⟨j,u,rfl,e⟩|⟨y,u,rfl,e⟩
   ·exact nomatch e
   ·injection e with e1 _;rw[e1]
 byValue:=λk v h=>by rcases K6 h with⟨i,t,rfl,rfl⟩|⟨x,t,rfl,rfl⟩<;>rfl
 pyHash:=λhv h=>by
  rcases K6 hv with⟨i,t,rfl,rfl⟩|⟨x,t,rfl,rfl⟩
  ·exact wpAny_pyHash_int h
  ·exact wpAny_pyHash_str h
 eqBool:=λhu hv h=>by
  rcases K6 hu with⟨i,t,rfl,rfl⟩|⟨x,t,rfl,rfl⟩
  ·rcases K6 hv with⟨j,u,rfl,rfl⟩|⟨y,u,rfl,rfl⟩
   ·rw[gY]at h;exact Zb h
   ·rw[oi]at h;exact Yl i t y u _ _ _ _ h
  ·rcases K6 hv with⟨j,u,rfl,rfl⟩|⟨y,u,rfl,rfl⟩
   ·rw[Sj]at h;exact Yk x t j u _ _ _ _ h
   ·rw[qp]at h;exact wpAny_eqBool_str h
 «strs»:=λk x t v h=>by
  rcases K6 h with⟨i,u,rfl,e⟩|⟨y,u,rfl,e⟩
  ·exact nomatch e
  ·injection e with e1 _;subst e1
   cases v<;>rfl
theorem ci(prog:zB)(w:zI)(i:Int)(t:Tok):(O1 prog w).is (.inl i) (.int i t)=true:=Qb i t
theorem Hm(prog:zB)(w:zI)(x:Str)(t:Tok):(O1 prog w).is (.inr x) (.str x t)=true:=Gj x t
inductive V where
 |non|bl (b:Bool)|int (i:Int)|str (x:Str)|byt (b:Array UInt8)|flt (b:UInt64)|ref (a:Addr)|ty (n:String)
 deriving DecidableEq
def u5:V->ze->Prop
| .non,u=>u=Value.none
| .bl b,u=>u=Value.bool b
| .int i,u=>∃t,u=Value.int i t
| .str x,u=>∃t,u=Value.str x t
| .byt b,u=>∃t,u=Value.bytes b t
| .flt b,u=>∃t,u=Value.float b t
| .ref a,u=>u=Value.ref a
| .ty n,u=>u=Value.type n
abbrev m6:List V->List ze->Prop:=Paired u5
theorem m6.length(r:m6 xs us):xs.length=us.length:=xH r
theorem m6.get:∀ {xs} {us} {i:Nat} {x:V},m6 xs us->xs[i]? =some x->∃u,us[i]? =some u/\u5 x u
|_,_,_,_,.nil,e=>by simp at e
|_,_,0,_,.cons r _,e=>by simp at e;subst e;exact⟨_,rfl,r⟩
|_,_,i+1,x,.cons _ t,e=>by obtain⟨u,h1,h2⟩:=m6.get (i:=i) (x:=x) t (by simpa using e);exact⟨u,by simpa using h1,h2⟩
theorem m6.set(r:u5 x u):∀ {xs} {us} i,m6 xs us->m6 (xs.set i x) (us.set i u)
|_,_,_,.nil=>.nil
|_,_,0,.cons _ t=>.cons r t
|_,_,i+1,.cons q t=>.cons q (m6.set r i t)
theorem m6.append(h:m6 xs us)(k:m6 ys ws):m6 (xs++ys) (us++ws):=by
 induction h with
 |nil=>exact k
 |cons r t ih=>exact .cons r ih
theorem m6.take:∀ {xs} {us} n,m6 xs us->m6 (xs.take n) (us.take n)
|_,_,0,_=>.nil
|_,_,_+1,.nil=>.nil
|_,_,n+1,.cons r t=>.cons r (m6.take n t)
theorem m6.drop:∀ {xs} {us} n,m6 xs us->m6 (xs.drop n) (us.drop n)
|_,_,0,r=>r
|_,_,_+1,.nil=>.nil
|_,_,n+1,.cons _ t=>m6.drop n t
def P6:Option V->Option ze->Prop
|some v,some u=>u5 v u
|none,none=>True
|_,_=>False
def KV{κ:Type}:List (κ×V)->List (κ×ze)->Prop:=Paired fun(p:κ×V) (q:κ×ze)=>p.1=q.1/\u5 p.2 q.2
def kV:Key->V
| .inl i=>.int i
| .inr x=>.str x
inductive HO where
 /-- a list -/
 |lst (xs:List V)
 /-- a tuple (never changes) -/
 |tup (xs:List V)
 /-- a dict whose keys are ints and texts;one whose keys are tuples of ints and texts (the empty one is both) -/
 |dK (oq:List (Key×V))|dT (oq:List (List Key×V))
 /-- a set of ints:ou members,ou size -/
 |set (S:Int->Bool) (n:Nat)
 /-- an instance of the class at C,ou dict at dx,ou attributes -/
 |ins (C dx:Addr) (fs:List (Str×V))
 /-- the dict of the instance at x -/
 |own (x:Addr)
 /-- the dict of an exception -/
 |xd (fs:List (Str×V))
 /-- a bound method,f of x -/
 |met (f x:Addr)
 /-- a range object lo,lo+1,.. below hi -/
 |rng (lo hi:Int)
 /-- a thing that is known to the object (the script;a dict while a loop walks it):read,never written while it is so -/
 |frz (o:Obj) (u:HO)
 /-- a code object's table -/
 |tbl (ps:Array ze)
 /-- any other thing,by what is true of ou one object (a def of one's own:SetO a S n:=HO.ext λh=>..) -/
 |ext (φ:Heap->Prop)
abbrev Hp:=Addr->Option HO
def upd(H:Hp)(a:Addr)(o:HO):Hp:=λb=>if b=a then some o else H b
theorem v9:upd H a o a=some o:=by unfold upd;rw[if_pos rfl]
theorem m7(h:b≠a):upd H a o b=H b:=by unfold upd;rw[if_neg h]
theorem m8{H:Hp}{o:HO}(h:H a=some o)(h':H b=none):a≠b:=by intro e;subst e;rw[h]at h';cases h'
section
variable(P:zB)(w:zI)
def C5(h:Heap)(a:Addr)(items:Array ze):Prop:=∃o,h.get? a=some o/\o.cls= .type "tuple"/\∃n,(o.data,o.dict)= (Data.seq items n,none)
theorem C5.tup(x:C5 h a items):Yr h a items:=by obtain⟨o,e,c,n,d⟩:=x;exact⟨o,e,c,n,(xy d).1⟩
theorem C5.new(h:Heap)(items:Array ze):C5 (h.push {cls:=.type "tuple",data:=.seq items}) h.objs.size items:=⟨_,zy _ rfl,rfl,_,rfl⟩
def R0(H:Hp)(h:Heap)(a:Addr):HO->Prop
| .lst xs=>xs.length<=zi/\∃(ou:List ze) (n:Nat),m6 xs ou/\h.get? a=some {cls:=.type "list",data:=.seq ou.toArray n}
| .tup xs=>xs.length<=zi/\∃ou:List ze,m6 xs ou/\C5 h a ou.toArray
| .dK oq=>oq.length<=zi/\(a==xU)=false/\∃vs,KV oq vs/\h.DictOf (O1 P w) a vs
| .dT oq=>oq.length<=zi/\(a==xU)=false/\∃xs:List (List Key×Addr×ze),
   Paired (fun(p:List Key×V) (q:List Key×Addr×ze)=>p.1=q.1/\H q.2.1=some (.tup (p.1.map kV))/\u5 p.2 q.2.2) oq xs/\
   ∃o es ep,h.get? a=some o/\o.ExactDict/\o.data= .dict es ep/\es.toList=xs.map (entryOfKey (tupleKind (O1 P w)))/\(xs.map (·.1)).Nodup
| .set S n=>h.SetOf (intKind P w) a S n
| .ins C dx fs=>H dx=some (.own a)/\fs.length<=1000/\dx≠a/\h.get? a=some (PySem.W.instObj C dx)/\
   ∃mA,h.Ns1 dx mA/\(∀f,P6 (fs.lookup f) (mA f))/\PySem.Within mA (fs.map (·.1))
| .own _=>∃o,h.get? a=some o
| .xd fs=>∃mA,h.Ns1 a mA/\∀f,P6 (fs.lookup f) (mA f)
| .rng lo hi=>∃t u v,h.get? a=some {cls:=.type "range",data:=.fields #[.int lo t,.int hi u,.int 1 v]}
| .frz o u=>h.get? a=some o/\R0 H h a u
| .tbl ps=>h.get? a=some {cls:=.none,data:=.fields ps}
| .met f x=>h.get? a=some (Zs (.ref f) (.ref x))
| .ext φ=>φ h/\(∃o,h.get? a=some o)/\∀h1 h2:Heap,φ h1->(∀o,h1.get? a=some o->h2.get? a=some o)->φ h2
def HOk(H:Hp)(h:Heap):Prop:=∀a o,H a=some o->R0 P w H h a o
end
section
theorem R0.lt(x:R0 P w H h a o):a<h.objs.size:=by
 cases o with
 |lst xs=>obtain⟨_,_,_,_,e⟩:=x;exact zj e
 |tup xs=>obtain⟨_,_,_,p⟩:=x;exact(C5.tup p).lt
 |dK oq=>obtain⟨_,_,_,_,o,_,_,e,_⟩:=x;exact zj e
 |dT oq=>obtain⟨_,_,_,_,o,_,_,e,_⟩:=x;exact zj e
 |set S n=>obtain⟨o,_,_,_,e,_⟩:=x;exact zj e
 |ins C dx fs=>obtain⟨_,_,_,e,_⟩:=x;exact zj e
 |own y=>obtain⟨_,e⟩:=x;exact zj e
 |xd fs=>obtain⟨_,⟨_,_,_,e,_⟩,_⟩:=x;exact zj e
 |rng lo hi=>obtain⟨_,_,_,e⟩:=x;exact zj e
 |frz ob u=>obtain⟨e,_⟩:=x;exact zj e
 |tbl ps=>exact zj (show h.get? a=some _ from x)
 |met f y=>exact zj (show h.get? a=some _ from x)
 |ext φ=>obtain⟨_,⟨_,e⟩,_⟩:=x;exact zj e
theorem Paired.mapP(h:Paired F l₁ l₂)(f:∀a b,F a b->G a b):Paired G l₁ l₂:=by
 induction h with
 |nil=>exact .nil
 |cons r t ih=>exact .cons (f _ _ r) ih
theorem R0.stay(x:R0 P w H h a o)(k:∀b u,(b=a\/H b=some (.own a))->h.get? b=some u->h'.get? b=some u)
 (ho:∀b,H b=some (.own a)->H' b=some (.own a)) (ht:∀b xs,H b=some (.tup xs)->H' b=some (.tup xs)):R0 P w H' h' a o:=by
 induction o with
 |lst xs=>obtain⟨z,ou,n,r,e⟩:=x;exact⟨z,ou,n,r,k _ _ (.inl rfl) e⟩
 |tup xs=>obtain⟨z,ou,r,ob,e,c⟩:=x;exact⟨z,ou,r,ob,k _ _ (.inl rfl) e,c⟩
 |dK oq=>obtain⟨z,y,vs,r,ob,es,ep,e,c⟩:=x;exact⟨z,y,vs,r,ob,es,ep,k _ _ (.inl rfl) e,c⟩
 |dT oq=>
   obtain⟨z,y,xs,r,ob,es,ep,e,c⟩:=x;exact⟨z,y,xs,Paired.mapP r λp q z=>⟨z.1,ht _ _ z.2.1,z.2.2⟩,ob,es,ep,k _ _ (.inl rfl) e,c⟩
 |set S n=>obtain⟨ob,es,ep,t,e,c⟩:=x;exact⟨ob,es,ep,t,k _ _ (.inl rfl) e,c⟩
 |ins C dx fs=>
   obtain⟨d,z,ne,e,mA,⟨od,es,ep,e2,c⟩,r⟩:=x;exact⟨ho _ d,z,ne,k _ _ (.inl rfl) e,mA,⟨od,es,ep,k _ _ (.inr d) e2,c⟩,r⟩
 |own y=>obtain⟨ob,e⟩:=x;exact⟨ob,k _ _ (.inl rfl) e⟩
 |xd fs=>obtain⟨mA,⟨od,es,ep,e,c⟩,r⟩:=x;exact⟨mA,⟨od,es,ep,k _ _ (.inl rfl) e,c⟩,r⟩
 |rng lo hi=>obtain⟨t,u,v,e⟩:=x;exact⟨t,u,v,k _ _ (.inl rfl) e⟩
 |frz ob u ih=>obtain⟨e,q⟩:=x;exact⟨k _ _ (.inl rfl) e,ih q⟩
 |tbl ps=>
   have e:h.get? a=some {cls:=.none,data:=.fields ps}:=x;show h'.get? a=some {cls:=.none,data:=.fields ps};exact k a _ (.inl rfl) e
 |met f y=>
   have e:h.get? a=some (Zs (.ref f) (.ref y)):=x;show h'.get? a=some (Zs (.ref f) (.ref y));exact k a _ (.inl rfl) e
 |ext φ=>obtain⟨p,⟨o,e⟩,st⟩:=x;exact⟨st _ _ p λo q=>k _ _ (.inl rfl) q,⟨o,k _ _ (.inl rfl) e⟩,st⟩
theorem HOk.lt(x:HOk P w H h)(e:H a=some o):a<h.objs.size:=(x a o e).lt
theorem HOk.fresh(x:HOk P w H h)(e:h.objs.size<=a):H a=none:=by
 cases q:H a with
 |none=>rfl
 |some u=>exact absurd (zQ (x.lt q) e) (yx _)
theorem HOk.kept(x:HOk P w H h)(k:∀b u,h.get? b=some u->h'.get? b=some u):HOk P w H h':=λa o e=>
 (x a o e).stay (λb u _ q=>k b u q) (λ_ q=>q) λ_ _ q=>q
theorem HOk.laid(x:HOk P w H h)(k:∀b u,h.get? b=some u->h'.get? b=some u)(hp:h.objs.size<=a)(new:R0 P w (upd H a o) h' a o):HOk P w (upd H a o) h':=λb u e=>by
 have hn:=x.fresh hp;by_cases hb:b=a
 ·subst hb;rw[v9]at e;cases e;exact new
 ·rw[m7 hb]at e;exact(x b u e).stay (λc v _ q=>k c v q) (λc q=>by rw[m7 (m8 q hn)];exact q) λc xs q=>by rw[m7 (m8 q hn)];exact q
end
def Rd(H:Hp)(a:Addr)(u:HO):Prop:=H a=some u\/∃o,H a=some (.frz o u)
theorem Rd.of(h:H a=some u):Rd H a u:=.inl h
theorem Rd.ok(r:Rd H a u)(x:HOk P w H h):R0 P w H h a u:=by
 rcases r with r|⟨o,r⟩
 ·exact x a u r
 ·obtain⟨_,q⟩:=x a _ r;exact q
def Mut:Option HO->Prop
|some (.lst _)=>True
|some (.dK _)=>True
|some (.dT _)=>True
|some (.set _ _)=>True
|some (.ins _ _ _)=>True
|some (.ext _)=>True
|_=>False
section
theorem HOk.write(ok:HOk P w H h)(mu:Mut (H x))(he:e=x\/H e=some (.own x))(k:∀b u,b≠e->h.get? b=some u->h'.get? b=some u)(heo:∃u,h'.get? e=some u)
 (new:R0 P w (upd H x o') h' x o'):HOk P w (upd H x o') h':=λb u q=>by
 have nown:∀c y,H c=some (.own y)->c≠x:=λc y r z=>by subst z;rw[r]at mu;exact mu
 have ntup:∀c xs,H c=some (.tup xs)->c≠x:=λc xs r z=>by subst z;rw[r]at mu;exact mu
 by_cases hb:b=x
 ·subst hb;rw[v9]at q;cases q;exact new
 ·rw[m7 hb]at q;by_cases hbe:b=e
  ·have q':H b=some (.own x):=by
    rcases he with z|z
    ·exact absurd (hbe.trans z) hb
    ·rw[hbe];exact z
   rw[q]at q';cases q';obtain⟨v,hv⟩:=heo;exact⟨v,by rw[hbe];exact hv⟩
  ·refine(ok b u q).stay (λc v hc r=>k c v ?_ r) (λc r=>by rw[m7 (nown c b r)];exact r) λc xs r=>by rw[m7 (ntup c xs r)];exact r
   rcases hc with rfl|hc
   ·exact hbe
   ·rintro rfl;rcases he with z|z
    ·exact nown c b hc z
    ·rw[hc]at z;cases z;exact hb rfl
end
structure Un(fs ex:List Addr)(H H':Hp)(h h':Heap):Prop where
 keep:∀b o,h.get? b=some o->H b=none->b∉fs->b∉ex->h'.get? b=some o
 slot:∀b o,h.get? b=some o->H b=none->b∈fs->b∉ex->∃sl,h'.get? b=some {o with slots:=sl}
 free:∀b o,h.get? b=some o->H b=none->b∉ex->H' b=none
 there:∀b o,h.get? b=some o->b∉ex->∃o',h'.get? b=some o'
 tups:∀b xs,H b=some (.tup xs)->H' b=some (.tup xs)
 frzs:∀b o u,H b=some (.frz o u)->H' b=some (.frz o u)
 tbls:∀b ps,H b=some (.tbl ps)->∃more,H' b=some (.tbl (ps++more))
section
theorem Un.any(u:Un fs ex H H1 h h1)(q:h.get? b=some ob)(n:H b=none)(hx:b∉ex):∃sl,h1.get? b=some {ob with slots:=sl}:=by
 by_cases hb:b∈fs
 ·exact u.slot b ob q n hb hx
 ·exact⟨ob.slots,u.keep b ob q n hb hx⟩
theorem Un.trans(a:Un fs ex H H1 h h1)(b:Un fs ex H1 H2 h1 h2):Un fs ex H H2 h h2 where
 keep:=λc ob q n hc hx=>b.keep c ob (a.keep c ob q n hc hx) (a.free c ob q n hx) hc hx
 slot:=λc ob q n hc hx=>by obtain⟨sl,e1⟩:=a.slot c ob q n hc hx;obtain⟨sl',e2⟩:=b.slot c _ e1 (a.free c ob q n hx) hc hx;exact⟨sl',e2⟩
 free:=λc ob q n hx=>by obtain⟨o',e1⟩:=a.there c ob q hx;exact b.free c o' e1 (a.free c ob q n hx) hx
 there:=λc ob q hx=>by obtain⟨o',e1⟩:=a.there c ob q hx;exact b.there c o' e1 hx
 tups:=λc xs q=>b.tups c xs (a.tups c xs q)
 frzs:=λc ob xs q=>b.frzs c ob xs (a.frzs c ob xs q)
 tbls:=λc ps q=>by obtain⟨m1,e1⟩:=a.tbls c ps q;obtain⟨m2,e2⟩:=b.tbls c _ e1;exact⟨m1++m2,by rw[e2,YI]⟩
theorem Un.kept(k:∀b u,h.get? b=some u->h'.get? b=some u):Un fs ex H H h h':=
 ⟨λb ob q _ _ _=>k b ob q,λb ob q _ _ _=>⟨ob.slots,k b ob q⟩,λ_ _ _ n _=>n,λb ob q _=>⟨ob,k b ob q⟩,λ_ _ q=>q,λ_ _ _ q=>q,λ_ ps q=>⟨#[],by rw[q];simp⟩⟩
theorem Un.refl:Un fs ex H H h h:=Un.kept λ_ _ q=>q
theorem Un.laid(k:∀b u,h.get? b=some u->h'.get? b=some u)(hp:h.objs.size<=a)(hn:H a=none):Un fs ex H (upd H a o) h h' where
 keep:=λb u q _ _ _=>k b u q
 slot:=λb u q _ _ _=>⟨u.slots,k b u q⟩
 free:=λb u q n _=>by rw[m7 (zu (zQ (zj q) hp))];exact n
 there:=λb u q _=>⟨u,k b u q⟩
 tups:=λb xs q=>by rw[m7 (m8 q hn)];exact q
 frzs:=λb u xs q=>by rw[m7 (m8 q hn)];exact q
 tbls:=λb ps q=>⟨#[],by rw[m7 (m8 q hn),q];simp⟩
theorem Un.write(mu:Mut (H x))(he:e=x\/H e=some (.own x))(k:∀b u,b≠e->h.get? b=some u->h'.get? b=some u)(heo:∃u,h'.get? e=some u):Un fs ex H (upd H x o) h h':=by
 have hx:∀b,H b=none->b≠x:=λb n z=>by subst z;rw[n]at mu;exact mu
 have hb:∀b,H b=none->b≠e:=λb n z=>by
  subst z;rcases he with r|r
  ·exact hx b n r
  ·rw[n]at r;cases r
 have hm:∀b u,H b=some u->¬Mut (some u)->b≠x:=λb u q nm z=>by subst z;rw[q]at mu;exact nm mu
 refine⟨λb u q n _ _=>k b u (hb b n) q,λb u q n _ _=>⟨u.slots,k b u (hb b n) q⟩,λb u q n _=>by rw[m7 (hx b n)];exact n,λb u q _=>?_,
  λb xs q=>by rw[m7 (hm b _ q λz=>z)];exact q,λb u xs q=>by rw[m7 (hm b _ q λz=>z)];exact q,λb ps q=>⟨#[],by rw[m7 (hm b _ q λz=>z),q];simp⟩⟩
 by_cases hbe:b=e
 ·subst hbe;exact heo
 ·exact⟨u,k b u hbe q⟩
theorem Un.mono(u:Un fs ex H H1 h h1)(hs:∀b∈fs,b∈fs')(hx:∀b∈ex,b∈ex'):Un fs' ex' H H1 h h1:=
 ⟨λb ob q n hb he=>u.keep b ob q n (λz=>hb (hs b z)) λz=>he (hx b z),λ_ _ q n _ he=>u.any q n λz=>he (hx _ z),λb ob q n he=>u.free b ob q n λz=>he (hx b z),λb ob q he=>u.there b ob q λz=>he (hx b z),u.tups,u.frzs,u.tbls⟩
end
def trk(h:Heap)(H:Hp):List Addr:=(zR h.objs.size).filter λa=>(H a).isSome
def b9(h:Heap)(H:Hp):Heap:=PySem.W.hideAll h (trk h H)
theorem Kb(h:Heap)(H:Hp):(b9 h H).objs.size=h.objs.size:=PySem.W.hideAll_size _ _
theorem qw(e:h.get? b=some o)(n:H b=none):(b9 h H).get? b=some o:=
 PySem.W.hideAll_get _ e λhm=>by have q:(H b).isSome=true:=(List.mem_filter.mp hm).2;rw[n]at q;simp at q
theorem Wb(e:(b9 h H).get? b=some o):h.get? b=some o/\H b=none:=by
 have e':h.get? b=some o:=PySem.W.of_hideAll (trk h H) e;refine⟨e',?_⟩
 cases q:H b with
 |none=>rfl
 |some x=>
   have hm:b∈trk h H:=List.mem_filter.mpr ⟨yz.mpr (zj e'),by simp[q]⟩;have z:(b9 h H).get? b=none:=PySem.W.hideAll_none (trk h H) hm;rw[z]at e;cases e
def FV(g h:Heap)(L:Addr):PNS:=(zR h.objs.size).filterMap λa=>if a=L\/(g.get? a).isSome=true then none else (h.get? a).map λo=>(a,o)
def rest(g h:Heap)(L d:Addr):PNS:=(FV g h L).filter λp=>decide (p.1≠d)
structure Mod(K:zc)(mg:Str->Option ze)(base:Heap):Prop where
 kin:K.In base
 glob:base.Ns zF mg
 blt:∃mb,base.Ns builtinsNs mb/\∀x:Str,x≠ "__name__"->mb x=zU x
 nolimit:base.NoLimit
structure Cx where
 prog:zB
 w:zI
 K:zc
 mg:Str->Option ze
 base:Heap
 A:zL
 N:List Str
 WY:zh
 H₀:Hp
 env:Env
 outer:List Env
 stack:List Env
 ex:List Addr
 fn:Str->Bool
 calm:Bool
 pn:PNS
 xe:VSP
def frs(l:List Env):List Addr:=l.filterMap (·.frame)
abbrev Cx.fs(X:Cx):List Addr:=frs X.outer
def Vis(sc:Scope)(x:Str):Prop:=sc.names.lookup x=some .local\/sc.names.lookup x=some .cell\/sc.names.lookup x=some .free
def Loc(sc:Scope)(x:Str):Prop:=sc.names.lookup x=some .local\/sc.names.lookup x=some .cell
def Tj(env:Env)(h:Heap)(m:Str->Option ze)(x:Str)(u:ze):Prop:=
 (env.kindOf x=some .local/\m x=some u)\/((env.kindOf x=some .cell\/env.kindOf x=some .free)/\∃c,env.cells.lookup x=some c/\h.IsCell c (some u))
structure Cx.Ok(X:Cx):Prop where
 mod:Mod X.K X.mg X.base
 kind:X.env.scope.kind= .function
 glob:X.env.globals=zF
 blt:X.env.builtins=builtinsNs
 above:X.WY.heap.objs.size<=X.env.locals
 inj:∀x y c,X.env.cells.lookup x=some c->X.env.cells.lookup y=some c->x=y
 has:∀x,(X.env.kindOf x=some .cell\/X.env.kindOf x=some .free)->∃c,X.env.cells.lookup x=some c
 cab:∀x c,X.fn x=true->X.env.cells.lookup x=some c->X.WY.heap.objs.size<=c
 hd:X.calm=true->X.A.handled=none
 frames:X.A.frames=some X.stack
 stk:X.stack=X.outer\/(X.stack=X.env::X.outer/\X.env.frame=some X.env.locals)
 exf:∀b∈X.ex,b≠X.env.locals/\∀x c,X.env.cells.lookup x=some c->c≠b
 bs:∀b o,X.base.get? b=some o->X.WY.heap.get? b=some o/\X.H₀ b=none
 bsz:X.base.objs.size<=X.WY.heap.objs.size
 noex:∀b o,X.base.get? b=some o->b∉X.ex
 exfs:∀b∈X.ex,b∉X.fs
 funs:X.WY.heap.FunFrames X.base X.outer
 frf:∀b∈X.fs,X.H₀ b=none
 gd:X.A.guards=some []
structure Inv(X:Cx)(om:PNS)(σ:List (Option V))(H:Hp)(s:zh):Prop where
 ok:X.Ok
 os:s.os=X.WY.os
 bare:ZI s.gens
 base:Un X.fs X.ex X.H₀ H X.WY.heap s.heap
 loc:∃m,s.heap.Ns X.env.locals m/\∀(i:Nat) (x:Str) (v:V),X.N[i]? =some x->σ[i]? =some (some v)->Vis X.env.scope x->∃u,u5 v u/\Tj X.env s.heap m x u
 cell:∀x c,X.env.cells.lookup x=some c->∃v,s.heap.IsCell c v
 free:H X.env.locals=none
 freeC:∀x c,X.env.cells.lookup x=some c->H c=none
 pin:∀p∈X.pn++om,s.heap.get? p.1=some p.2/\H p.1=none/\p.1≠X.env.locals/\p.1∉X.fs/\∀v,p.2.data≠ .cell v
 hok:HOk X.prog X.w H s.heap
 len:σ.length=X.N.length
section
variable{X:Cx}{om:PNS}{σ:List (Option V)}{H H':Hp}{s:zh}
theorem Cx.Ok.nofr(ok:X.Ok)(e:X.base.get? b=some o):b∉X.fs:=λhb=>by have:=(ok.funs.mem hb).1;rw[e]at this;cases this
theorem Inv.bs(I:Inv X om σ H s):∀b o,X.base.get? b=some o->s.heap.get? b=some o/\H b=none:=λb o e=>
 ⟨I.base.keep b o (I.ok.bs b o e).1 (I.ok.bs b o e).2 (I.ok.nofr e) (I.ok.noex b o e),I.base.free b o (I.ok.bs b o e).1 (I.ok.bs b o e).2 (I.ok.noex b o e)⟩
theorem Inv.bk(I:Inv X om σ H s):∀b o,X.base.get? b=some o->s.heap.get? b=some o:=λb o e=>(I.bs b o e).1
theorem Inv.mod(I:Inv X om σ H s):Mod X.K X.mg X.base:=I.ok.mod
theorem Inv.kIn(I:Inv X om σ H s):X.K.In s.heap:=I.ok.mod.kin.keeps I.bk
theorem Inv.nolimit(I:Inv X om σ H s):s.heap.NoLimit:=I.ok.mod.nolimit.keeps I.bk
theorem Inv.fr(I:Inv X om σ H s):∃m,Fr X.base X.env.locals s.heap m:=
 let ⟨m,hn,_⟩:=I.loc
 ⟨m,hn,I.bk,jc I.ok.bsz I.ok.above⟩
theorem Inv.lt(I:Inv X om σ H s):X.env.locals<s.heap.objs.size:=let ⟨_,hn,_⟩:=I.loc;hn.lt
theorem Inv.sz(I:Inv X om σ H s):X.WY.heap.objs.size<=s.heap.objs.size:=jc I.ok.above (Zq I.lt)
theorem Inv.nofs(I:Inv X om σ H s)(h:s.heap.objs.size<=a):a∉X.fs:=λhb=>by obtain⟨_,o,ho,_⟩:=I.ok.funs.mem hb;exact absurd (zQ (zj ho) (jc I.sz h)) (yx _)
theorem Inv.cne(I:Inv X om σ H s):∀x c,X.env.cells.lookup x=some c->c≠X.env.locals:=λx c e z=>by obtain⟨v,o,ho,hd⟩:=I.cell x c e;obtain⟨m,⟨o',es,ep,ho',rz,_⟩,_⟩:=I.loc;rw[z,ho']at ho;cases ho;rw[rz]at hd;cases hd
theorem Inv.funs(I:Inv X om σ H s):s.heap.FunFrames X.base X.outer:=by
 have all:∀(l:List Env),(∀b∈frs l,b∈X.fs)->X.WY.heap.FunFrames X.base l->s.heap.FunFrames X.base l:=by
  intro l
  induction l with
  |nil=>intro _ _;trivial
  |cons env r ih=>
    intro hs hl;obtain⟨hk,⟨L,o,hf,hn,ho,hd⟩,hr⟩:=hl;have hL:L∈X.fs:=hs L (by unfold frs;rw[ju,hf];exact jo);obtain⟨sl,e⟩:=I.base.slot L o ho (I.ok.frf L hL) hL λz=>I.ok.exfs L z hL;exact⟨hk,⟨L,_,hf,hn,e,hd⟩,ih (λb hb=>hs b (by unfold frs;rw[ju,hf];exact zP _ hb)) hr⟩
 exact all X.outer (λ_ hb=>hb) I.ok.funs
theorem Inv.stack(I:Inv X om σ H s):s.heap.FunFrames X.base X.stack:=by
 rcases I.ok.stk with e|⟨e,hf⟩
 ·rw[e];exact I.funs
 ·rw[e];obtain⟨m,hn,_⟩:=I.loc;refine .cons (by rw[I.ok.kind];decide) hf hn ?_ I.funs;exact yy (jc I.ok.bsz I.ok.above)
theorem Inv.stkSub(I:Inv X om σ H s):∀b∈frs X.stack,b∈X.env.locals::X.fs:=λb hb=>by
 rcases I.ok.stk with e|⟨e,hf⟩
 ·rw[e]at hb;exact zP _ hb
 ·rw[e]at hb;unfold frs at hb;rw[ju,hf]at hb;exact hb
theorem Inv.stkFree(I:Inv X om σ H s):∀b∈frs X.stack,H b=none:=λb hb=>by
 rcases zk.mp (I.stkSub b hb)with e|hb
 ·rw[e];exact I.free
 ·obtain⟨_,o,ho,_⟩:=I.ok.funs.mem hb;exact I.base.free b o ho (I.ok.frf b hb) λz=>I.ok.exfs b z hb
theorem Inv.step{t':Nat}{d':Drawn}{ch:List Addr}(I:Inv X om σ H s)
 (hch:∀b∈ch,(b∈X.ex\/X.WY.heap.objs.size<=b)/\b≠X.env.locals/\(∀x c,X.env.cells.lookup x=some c->c≠b)/\∀p∈X.pn++om,p.1≠b)
 (keep:∀b o,b≠X.env.locals->b∉X.fs->b∉ch->s.heap.get? b=some o->H b=none->h'.get? b=some o)
 (slot:∀b o,b≠X.env.locals->b∈X.fs->b∉ch->s.heap.get? b=some o->H b=none->∃sl,h'.get? b=some {o with slots:=sl}) (free:∀b o,b∉ch->s.heap.get? b=some o->H b=none->H' b=none)
 (there:∀b o,b∉ch->s.heap.get? b=some o->∃o',h'.get? b=some o')
 (tups:∀b xs,H b=some (.tup xs)->H' b=some (.tup xs)) (frzs:∀b o u,H b=some (.frz o u)->H' b=some (.frz o u)) (tbls:∀b ps,H b=some (.tbl ps)->∃more,H' b=some (.tbl (ps++more)))
 (ns:∀m,s.heap.Ns X.env.locals m->h'.Ns X.env.locals m) (hok:HOk X.prog X.w H' h') (hg:ZI g'):
 Inv X om σ H' {s with heap:=h',gens:=g',drawn:=d',toks:=t'}:=by
 have neL:∀b o,X.WY.heap.get? b=some o->b≠X.env.locals:=λb o e=>zu (zQ (zj e) I.ok.above);have neC:∀b o,X.WY.heap.get? b=some o->b∉X.ex->b∉ch:=λb o e hx hb=>by
  rcases (hch b hb).1 with z|z
  ·exact hx z
  ·exact absurd (zQ (zj e) z) (yx _)
 have cellK:∀x c,X.env.cells.lookup x=some c->∀v,s.heap.IsCell c v->h'.IsCell c v:=λx c e v ⟨o,ho,hd⟩=>by
  have nch:c∉ch:=λz=>(hch c z).2.2.1 x c e rfl;by_cases hc:c∈X.fs
  ·obtain⟨sl,q⟩:=slot c o (I.cne x c e) hc nch ho (I.freeC x c e);exact⟨_,q,hd⟩
  ·exact⟨o,keep c o (I.cne x c e) hc nch ho (I.freeC x c e),hd⟩
 refine⟨I.ok,I.os,hg,⟨λb o e n hb hx=>?_,λb o e n hb hx=>?_,λb o e n hx=>?_,λb o e hx=>?_,λb xs e=>tups b xs (I.base.tups b xs e),λb o xs e=>frzs b o xs (I.base.frzs b o xs e),λb ps e=>?_⟩,?_,λx c e=>?_,?_,λx c e=>?_,λp hp=>?_,hok,I.len⟩
 ·exact keep b o (neL b o e) hb (neC b o e hx) (I.base.keep b o e n hb hx) (I.base.free b o e n hx)
 ·obtain⟨sl,e1⟩:=I.base.slot b o e n hb hx;obtain⟨sl',e2⟩:=slot b _ (neL b o e) hb (neC b o e hx) e1 (I.base.free b o e n hx);exact⟨sl',e2⟩
 ·obtain⟨o',e1⟩:=I.base.there b o e hx;exact free b o' (neC b o e hx) e1 (I.base.free b o e n hx)
 ·obtain⟨o',e1⟩:=I.base.there b o e hx;exact there b o' (neC b o e hx) e1
 ·obtain⟨m1,e1⟩:=I.base.tbls b ps e;obtain⟨m2,e2⟩:=tbls b _ e1;exact⟨m1++m2,by rw[e2,YI]⟩
 ·obtain⟨m,hn,hl⟩:=I.loc;refine⟨m,ns m hn,λi x v e1 e2 e3=>?_⟩;obtain⟨u,r,l⟩:=hl i x v e1 e2 e3;refine⟨u,r,?_⟩;rcases l with l|⟨k,c,e,z⟩
  ·exact .inl l
  ·exact .inr ⟨k,c,e,cellK x c e _ z⟩
 ·obtain⟨v,z⟩:=I.cell x c e;exact⟨v,cellK x c e v z⟩
 ·obtain⟨m,⟨o,_,_,ho,_⟩,_⟩:=I.loc;exact free _ o (λz=>(hch _ z).2.1 rfl) ho I.free
 ·obtain⟨v,o,ho,hd⟩:=I.cell x c e;exact free c o (λz=>(hch c z).2.2.1 x c e rfl) ho (I.freeC x c e)
 ·obtain⟨e,n,ne,nf,d⟩:=I.pin p hp;have nch:p.1∉ch:=λz=>(hch p.1 z).2.2.2 p hp rfl;exact⟨keep p.1 p.2 ne nf nch e n,free p.1 p.2 nch e n,ne,nf,d⟩
theorem Inv.un(I:Inv X om σ H s)(u:Un X.fs [] H H' s.heap h')(hok:HOk X.prog X.w H' h'):Inv X om σ H' {s with heap:=h',toks:=t'}:=by
 obtain⟨m,⟨o,es,ep,ho,r⟩,_⟩:=id I.loc;obtain⟨sl,hL⟩:=u.any ho I.free (by simp);exact I.step (g':=s.gens) (d':=s.drawn) (ch:= []) (λ_ z=>nomatch z) (λb o _ hb _ e n=>u.keep b o e n hb (by simp)) (λb o _ hb _ e n=>u.slot b o e n hb (by simp)) (λb o _ e n=>u.free b o e n (by simp)) (λb o _ e=>u.there b o e (by simp)) u.tups u.frzs u.tbls (λm' hm=>by obtain⟨o',sy,ep',ho',r'⟩:=hm;rw[ho]at ho';cases ho';exact⟨_,sy,ep',hL,r'⟩) hok I.bare
theorem Inv.call{t':Nat}{d':Drawn}{ch:List Addr}(I:Inv X om σ H s)(u:Un (frs X.stack) ch H H' s.heap h')(hok:HOk X.prog X.w H' h')(hg:ZI g')
 (hch:∀b∈ch,(b∈X.ex\/X.WY.heap.objs.size<=b)/\b≠X.env.locals/\(∀x c,X.env.cells.lookup x=some c->c≠b)/\∀p∈X.pn++om,p.1≠b):
 Inv X om σ H' {s with heap:=h',gens:=g',drawn:=d',toks:=t'}:=by
 obtain⟨m,⟨o,es,ep,ho,r⟩,_⟩:=id I.loc;obtain⟨sl,hL⟩:=u.any ho I.free λz=>(hch _ z).2.1 rfl;exact I.step (ch:=ch) hch (λb o hL hb hc e n=>u.keep b o e n (λz=>(zk.mp (I.stkSub b z)).elim hL hb) hc) (λb o _ _ hc e n=>u.any e n hc) (λb o hc e n=>u.free b o e n hc) (λb o hc e=>u.there b o e hc) u.tups u.frzs u.tbls (λm' hm=>by obtain⟨o',sy,ep',ho',r'⟩:=hm;rw[ho]at ho';cases ho';exact⟨_,sy,ep',hL,r'⟩) hok hg
theorem Inv.turned{t':Nat}(I:Inv X om σ H s)(k:∀b o,b≠it->s.heap.get? b=some o->h'.get? b=some o)(hn:H it=none)(hL:it≠X.env.locals)
 (h1:it∈X.ex\/X.WY.heap.objs.size<=it) (h2:∀x c,X.env.cells.lookup x=some c->c≠it) (h3:∀p∈X.pn++om,p.1≠it):Inv X om σ H {s with heap:=h',toks:=t'}:=by
 have nit:∀b u,H b=some u->b≠it:=λb u e z=>by rw[z,hn]at e;cases e
 refine I.step (g':=s.gens) (d':=s.drawn) (ch:= [it]) (λb hb=>?_) (λb o _ _ hc e _=>k b o (λz=>hc (by simp[z])) e) (λb o _ _ hc e _=>⟨o.slots,k b o (λz=>hc (by simp[z])) e⟩) (λ_ _ _ _ n=>n)
  (λb o hc e=>⟨o,k b o (λz=>hc (by simp[z])) e⟩) (λ_ _ e=>e) (λ_ _ _ e=>e) (λb ps e=>⟨#[],by rw[e];simp⟩) (λm hm=>?_) (λb u e=>?_) I.bare
 ·have e:b=it:=by simpa using hb
  subst e;exact⟨h1,hL,h2,h3⟩
 ·obtain⟨o,es,ep,ho,r⟩:=hm;exact⟨o,es,ep,k _ o (Ne.symm hL) ho,r⟩
 ·refine(I.hok b u e).stay (λc v hc q=>k c v ?_ q) (λ_ q=>q) λ_ _ q=>q;rcases hc with z|z
  ·rw[z];exact nit b u e
  ·exact nit c _ z
theorem Inv.tok(I:Inv X om σ H s)(t:Nat):Inv X om σ H {s with toks:=t}:=I.un (h':=s.heap) (t':=t) Un.refl I.hok
theorem Inv.kept(I:Inv X om σ H s)(k:∀b u,s.heap.get? b=some u->h'.get? b=some u):Inv X om σ H {s with heap:=h',toks:=t'}:=I.un (Un.kept k) (I.hok.kept k)
theorem Inv.laid(I:Inv X om σ H s)(k:∀b u,s.heap.get? b=some u->h'.get? b=some u)(hp:s.heap.objs.size<=a)(new:R0 X.prog X.w (upd H a o) h' a o):
 Inv X om σ (upd H a o) {s with heap:=h',toks:=t'}:=I.un (Un.laid k hp (I.hok.fresh hp)) (I.hok.laid k hp new)
theorem Inv.write(I:Inv X om σ H s)(mu:Mut (H x))(he:e=x\/H e=some (.own x))(k:∀b u,b≠e->s.heap.get? b=some u->h'.get? b=some u)(heo:∃u,h'.get? e=some u)
 (new:R0 X.prog X.w (upd H x o) h' x o):Inv X om σ (upd H x o) {s with heap:=h',toks:=t'}:=I.un (Un.write mu he k heo) (I.hok.write mu he k heo new)
theorem Inv.pins_of(I:Inv X om σ H s)(h:∀p∈pins',s.heap.get? p.1=some p.2/\H p.1=none/\p.1≠X.env.locals/\p.1∉X.fs/\∀v,p.2.data≠ .cell v):Inv X pins' σ H s:=
 ⟨I.ok,I.os,I.bare,I.base,I.loc,I.cell,I.free,I.freeC,λp hp=>(jr.mp hp).elim (λz=>I.pin p (yX _ z)) (h p),I.hok,I.len⟩
theorem gL{N:List Str}(hN:N.Nodup){i j:Nat}{x:Str}(a:N[i]? =some x)(b:N[j]? =some x):i=j:=by obtain⟨h1,e1⟩:=jI.mp a;obtain⟨h2,e2⟩:=jI.mp b;exact(ZP hN).mp (e1.trans e2.symm)
theorem KM{M:Model}{A:zL}{E:VSP}{i:Nat}{x:Str}{v:V}{u:ze}{Q:Unit->zh->Prop}(I:Inv X om σ H s)(hN:X.N.Nodup)(hi:X.N[i]? =some x)(hx:Loc X.env.scope x)(r:u5 v u)
 (h:∀s',Inv X om (σ.set i (some v)) H s'->(∃a,yV a s.heap s'.heap/\(a=X.env.locals\/X.env.cells.lookup x=some a))->Q () s') (hf:X.fn x=true\/X.env.scope.names.lookup x=some .local):zq M A (storeName X.env x u) Q E s:=by
 obtain⟨m,hn,hl⟩:=id I.loc;have hcls:(X.env.scope.kind == .class||(X.env.scope.kind == .module&&X.env.locals != X.env.globals))=false:=by rw[I.ok.kind];rfl
 have hiσ:i<σ.length:=by rw[I.len];exact(jI.mp hi).1
 have cne:=I.cne;have tracked:∀ {a:Addr} {h':Heap},(∃o,s.heap.get? a=some o/\H a=none)->yV a s.heap h'->HOk X.prog X.w H h':=λ{a h'} ha hs b ob e=>by
  obtain⟨_,_,hfree⟩:=ha;refine(I.hok b ob e).stay (λc w' hc q=>(hs.2 c ?_).trans q) (λ_ q=>q) λ_ _ q=>q;rintro rfl;rcases hc with rfl|hc
  ·rw[hfree]at e;cases e
  ·rw[hfree]at hc;cases hc
 rcases hx with hk|hk
 ·refine wpAny_storeName_local hk hn (λh' hn' hs=>?_) hcls;obtain⟨oL,_,_,hoL,_⟩:=id hn;refine h _ ⟨I.ok,I.os,I.bare,⟨λb o e n hb hx=>?_,λb o e n hb hx=>?_,I.base.free,λb o e hx=>?_,I.base.tups,I.base.frzs,I.base.tbls⟩,⟨_,hn',λj y v' e1 e2 e3=>?_⟩,λy c e=>?_,I.free,I.freeC,λp hp=>?_,tracked ⟨oL,hoL,I.free⟩ hs,by simpa using I.len⟩ ⟨_,hs,.inl rfl⟩
  ·exact(hs.2 b (zu (zQ (zj e) I.ok.above))).trans (I.base.keep b o e n hb hx)
  ·obtain⟨sl,e1⟩:=I.base.slot b o e n hb hx;exact⟨sl,(hs.2 b (zu (zQ (zj e) I.ok.above))).trans e1⟩
  ·obtain⟨o',e1⟩:=I.base.there b o e hx;exact⟨o',(hs.2 b (zu (zQ (zj e) I.ok.above))).trans e1⟩
  ·by_cases hj:j=i
   ·subst hj;rw[hi]at e1;cases e1;rw[zX hiσ]at e2
    cases e2
    exact⟨u,r,.inl ⟨hk,by simp⟩⟩
   ·rw[jb (Ne.symm hj)]at e2;obtain⟨u',r',q⟩:=hl j y v' e1 e2 e3;refine⟨u',r',?_⟩;rcases q with⟨k,e⟩|⟨k,c,e,z⟩
    ·refine .inl ⟨k,?_⟩;have:y≠x:=λe=>hj (gL hN e1 (e▸hi));simp[this,e]
    ·exact .inr ⟨k,c,e,z.sameBut hs (cne y c e)⟩
  ·obtain⟨w',z⟩:=I.cell y c e;exact⟨w',z.sameBut hs (cne y c e)⟩
  ·obtain⟨e,n,ne,nf,d⟩:=I.pin p hp;exact⟨(hs.2 p.1 ne).trans e,n,ne,nf,d⟩
 ·have hfn:X.fn x=true:=by
   rcases hf with z|z
   ·exact z
   ·rw[z]at hk;cases hk
  obtain⟨c,hc⟩:=I.ok.has x (.inl hk);obtain⟨w',z⟩:=I.cell x c hc;refine wpAny_storeName_cell I.ok.kind hk hc z (λh' hc' hs=>?_);obtain⟨oc,hoc,hocd⟩:=id z;refine h {s with heap:=h'} ⟨I.ok,I.os,I.bare,⟨λb o e n hb hx=>?_,λb o e n hb hx=>?_,I.base.free,λb o e hx=>?_,I.base.tups,I.base.frzs,I.base.tbls⟩,⟨m,hn.sameBut hs (Ne.symm (cne x c hc)),λj y v' e1 e2 e3=>?_⟩,λy c' e=>?_,I.free,I.freeC,λp hp=>?_,tracked ⟨oc,hoc,I.freeC x c hc⟩ hs,by simpa using I.len⟩ ⟨c,hs,.inr hc⟩
  ·exact(hs.2 b (zu (zQ (zj e) (I.ok.cab x c hfn hc)))).trans (I.base.keep b o e n hb hx)
  ·obtain⟨sl,e1⟩:=I.base.slot b o e n hb hx;exact⟨sl,(hs.2 b (zu (zQ (zj e) (I.ok.cab x c hfn hc)))).trans e1⟩
  ·obtain⟨o',e1⟩:=I.base.there b o e hx;exact⟨o',(hs.2 b (zu (zQ (zj e) (I.ok.cab x c hfn hc)))).trans e1⟩
  ·by_cases hj:j=i
   ·subst hj;rw[hi]at e1;cases e1;rw[zX hiσ]at e2
    cases e2
    exact⟨u,r,.inr ⟨.inl hk,c,hc,hc'⟩⟩
   ·rw[jb (Ne.symm hj)]at e2;obtain⟨u',r',q⟩:=hl j y v' e1 e2 e3;refine⟨u',r',?_⟩;rcases q with q|⟨k,c',e,z'⟩
    ·exact .inl q
    ·refine .inr ⟨k,c',e,z'.sameBut hs ?_⟩;rintro rfl;exact hj (gL hN e1 (I.ok.inj _ _ _ e hc▸hi))
  ·by_cases hcc:c'=c
   ·subst hcc;exact⟨_,hc'⟩
   ·obtain⟨w2,z2⟩:=I.cell y c' e;exact⟨w2,z2.sameBut hs hcc⟩
  ·obtain⟨e,n,ne,nf,d⟩:=I.pin p hp;refine⟨(hs.2 p.1 ?_).trans e,n,ne,nf,d⟩;intro q;rw[q,hoc]at e;have q':oc=p.2:=jH e;exact d w' (by rw[<-q'];exact hocd)
theorem oP(I:Inv X om σ H s)(hN:X.N.Nodup)(hi:X.N[i]? =some x)(hx:Loc X.env.scope x)(r:u5 v u)
 (h:∀s',Inv X om (σ.set i (some v)) H s'->Q () s') (hf:X.fn x=true\/X.env.scope.names.lookup x=some .local):zq M A (storeName X.env x u) Q E s:=
 KM I hN hi hx r (λs' I' _=>h s' I') hf
theorem Inv.call'(I:Inv X om σ H s)(ho:s'.os=s.os)(u:Un (frs X.stack) ch H H' s.heap s'.heap)(hok:HOk X.prog X.w H' s'.heap)(hg:ZI s'.gens)
 (hch:∀b∈ch,(b∈X.ex\/X.WY.heap.objs.size<=b)/\b≠X.env.locals/\(∀x c,X.env.cells.lookup x=some c->c≠b)/\∀p∈X.pn++om,p.1≠b):Inv X om σ H' s':=by
 obtain⟨h',g',d',t',o'⟩:=s';have e:o'=s.os:=ho;subst e;exact I.call (g':=g') (t':=t') (d':=d') u hok hg hch
end
abbrev XK:=ze->Option Addr->Hp->Prop
abbrev St:=List (Option V)
abbrev VK:=V->Hp->Prop
abbrev TE:=St->Hp->VK->Prop
abbrev TT:=St->Hp->(Bool->Hp->Prop)->Prop
abbrev TA:=St->Hp->(List V->Hp->Prop)->Prop
structure f8 where
 nx:St->Hp->Prop
 rt:VK
 bk:St->Hp->Prop:=λ_ _=>False
 ct:St->Hp->Prop:=λ_ _=>False
abbrev TS:=f8->St->Hp->Prop
def EP(X:Cx)(om:PNS)(σ:St)(Q:VK)(u:ze)(s':zh):Prop:=∃v H',Inv X om σ H' s'/\u5 v u/\Q v H'
def TP(X:Cx)(om:PNS)(σ:St)(Q:Bool->Hp->Prop)(b:Bool)(s':zh):Prop:=∃H',Inv X om σ H' s'/\Q b H'
def AP(X:Cx)(om:PNS)(σ:St)(Q:List V->Hp->Prop)(us:List ze)(s':zh):Prop:=∃vs H',Inv X om σ H' s'/\m6 vs us/\Q vs H'
theorem EP.elim{X:Cx}{σ:St}{Q:VK}{u:ze}{P:Prop}(h:EP X om σ Q u s)(k:∀v H,Inv X om σ H s->u5 v u->Q v H->P):P:=by obtain⟨a,b,c,d,e⟩:=h;exact k a b c d e
theorem TP.elim{X:Cx}{σ:St}{u:Bool}{s:zh}{P:Prop}(h:TP X om σ Q u s)(k:∀H,Inv X om σ H s->Q u H->P):P:=by obtain⟨b,c,e⟩:=h;exact k b c e
theorem AP.elim{X:Cx}{σ:St}{u:List ze}{s:zh}{P:Prop}(h:AP X om σ Q u s)(k:∀v H,Inv X om σ H s->m6 v u->Q v H->P):P:=by obtain⟨a,b,c,d,e⟩:=h;exact k a b c d e
def SP(X:Cx)(om:PNS)(D:f8)(f:Flow)(s':zh):Prop:=
 match f with
 | .next=>∃ X1 H',Inv X om X1 H' s'/\D.nx X1 H'
 | .brk=>∃ X1 H',Inv X om X1 H' s'/\D.bk X1 H'
 | .cont=>∃ X1 H',Inv X om X1 H' s'/\D.ct X1 H'
 | .ret u=>∃v X1 H',Inv X om X1 H' s'/\u5 v u/\D.rt v H'
def PE(X:Cx)(e:Expr)(t:TE):Prop:=
 ∀(om:PNS) (s:zh) (σ:St) (H:Hp) (Q:VK),Inv X om σ H s->t σ H Q->zq (zz X.prog X.w) X.A (eval e X.env) (EP X om σ Q) X.xe s
def PT(X:Cx)(e:Expr)(t:TT):Prop:=
 ∀(om:PNS) (s:zh) (σ:St) (H:Hp) (Q:Bool->Hp->Prop),Inv X om σ H s->t σ H Q->zq (zz X.prog X.w) X.A (isTrue e X.env (eval e X.env)) (TP X om σ Q) X.xe s
def PW(X:Cx)(e:Expr)(t:TT):Prop:=
 ∀(whole:Sem ze) (om:PNS) (s:zh) (σ:St) (H:Hp) (Q:Bool->Hp->Prop),Inv X om σ H s->t σ H Q->zq (zz X.prog X.w) X.A (isTrue e X.env whole) (TP X om σ Q) X.xe s
def PA(X:Cx)(es:List Expr)(t:TA):Prop:=
 ∀(pos:Pos) (om:PNS) (s:zh) (σ:St) (H:Hp) (Q:List V->Hp->Prop),Inv X om σ H s->t σ H Q->zq (zz X.prog X.w) X.A (spliced (yo pos (zC es X.env))) (AP X om σ Q) X.xe s
def PS(X:Cx)(st:Stmt)(t:TS):Prop:=
 ∀(om:PNS) (s:zh) (σ:St) (H:Hp) (D:f8),Inv X om σ H s->t D σ H->zq (zz X.prog X.w) X.A (exec st X.env) (SP X om D) X.xe s
def PSs(X:Cx)(st:List Stmt)(t:TS):Prop:=
 ∀(om:PNS) (s:zh) (σ:St) (H:Hp) (D:f8),Inv X om σ H s->t D σ H->zq (zz X.prog X.w) X.A (execs st X.env) (SP X om D) X.xe s
theorem thn(h:zq M A t Q E s)(hQ:∀a s,Q a s->Q' a s):zq M A t Q' E s:=jg h hQ λ_ _ x=>x
section
variable{X:Cx}
def VA(i:Nat):TE:=λσ H Q=>∃v,σ[i]? =some (some v)/\Q v H
def tC(v:V):TE:=λ_ H Q=>Q v H
theorem MC(hN:X.N[i]? =some x)(hv:Vis X.env.scope x)(hd:(x==("__debug__" :Str))=false)(hcd:(x==("__classdict__" :Str))=false):PE X (.Name x pos) (VA i):=by
 intro om s σ H Q I h;obtain⟨v,e,h⟩:=h;obtain⟨m,hn,hl⟩:=I.loc;obtain⟨u,r,l⟩:=hl i x v hN e hv;have fin:EP X om σ Q u s:=⟨v,H,I,r,h⟩;rcases l with⟨hk,hm⟩|⟨hk,c,hc,hcell⟩
 ·exact Yv (wpAny_loadName_local I.ok.kind hk hn hm fin) hd
 ·rcases hk with hk|hk
  ·exact Yv (wpAny_loadName_cell I.ok.kind hk hc hcell fin) hd
  ·exact Yv (wpAny_loadName_free I.ok.kind hk hc hcell fin hcd) hd
theorem eQ{i j pos}:PE X (.Constant (.int i) j pos) (tC (.int i)):=λ_ _ _ H _ I h=>wpAny_Constant_int ⟨.int i,H,I.tok _,⟨_,rfl⟩,h⟩
theorem kg{b j pos}:PE X (.Constant (.bool b) j pos) (tC (.bl b)):=λ_ _ _ H _ I h=>Constant_bool ⟨.bl b,H,I,rfl,h⟩
theorem tY{j pos}:PE X (.Constant .none j pos) (tC .non):=λ_ _ _ H _ I h=>Constant_none ⟨.non,H,I,rfl,h⟩
theorem Cd{x j pos}:PE X (.Constant (.str x) j pos) (tC (.str x)):=λ_ _ _ H _ I h=>Calls.Constant_str ⟨.str x,H,I.tok _,⟨_,rfl⟩,h⟩
def Gl(X:Cx)(x:Str):Prop:=X.env.kindOf x=some .globalImplicit
theorem U9(I:Inv X om σ H s)(hg:Gl X x)(hm:X.mg x=some u)(h:Q u s)
 (hd:(x==("__debug__" :Str))=false):zq (zz X.prog X.w) X.A (eval (.Name x pos) X.env) Q E s:=
 XG I.ok.kind hg (Calls.loadGlobal_global (by rw[I.ok.glob];exact I.mod.glob.keeps I.bk) hm h) hd
theorem kC(I:Inv X om σ H s)(hg:Gl X x)(hm:X.mg x=none)(hv:zU x=some u)(h:Q u s)
 (hn:x≠ "__name__":=by decide) (hd:(x==("__debug__" :Str))=false:=by decide):zq (zz X.prog X.w) X.A (eval (.Name x pos) X.env) Q E s:=by
 obtain⟨mb,h1,h2⟩:=I.mod.blt;exact XG I.ok.kind hg (Calls.loadGlobal_builtin (by rw[I.ok.glob];exact I.mod.glob.keeps I.bk) hm (by rw[I.ok.blt];exact h1.keeps I.bk) ((h2 x hn).trans hv) h) hd
theorem AE(hg:Gl X x)(hm:X.mg x=some u)(r:u5 v u)(hd:(x==("__debug__" :Str))=false):PE X (.Name x pos) (tC v):=
 λ_ _ _ H _ I h=>U9 I hg hm ⟨v,H,I,r,h⟩ hd
theorem SM(hg:Gl X x)(hm:X.mg x=none)(hv:zU x=some u)(r:u5 v u)(hn:x≠ "__name__")(hd:(x==("__debug__" :Str))=false):PE X (.Name x pos) (tC v):=
 λ_ _ _ H _ I h=>kC I hg hm hv ⟨v,H,I,r,h⟩ hn hd
variable{a b:Expr}{ta tb:TE}{pos:Pos}
variable{tA tB':TT}{rest:List Expr}
def Dv(t u:TT):TT:=λσ H Q=>t σ H λc H1=>if c=true then u σ H1 Q else Q false H1
def tOr(t u:TT):TT:=λσ H Q=>t σ H λc H1=>if c=true then Q true H1 else u σ H1 Q
def wY(t:TT):TT:=λσ H Q=>t σ H λc H1=>Q (!c) H1
theorem Lj(ha:PT X a tA):PW X (.BoolOp .And [a] pos) tA:=by
 intro wh om s σ H Q I h;refine isTrue_and (thn (ha om s σ H Q I h) λc s1 e=>?_)
 cases c with
 |true=>exact isTrue_and_nil e
 |false=>exact e
theorem im(ha:PT X a tA):PW X (.BoolOp .Or [a] pos) tA:=by
 intro wh om s σ H Q I h;refine isTrue_or (thn (ha om s σ H Q I h) λc s1 e=>?_)
 cases c with
 |false=>exact isTrue_or_nil e
 |true=>exact e
theorem iV(ha:PT X a tA)(hb:PW X (.BoolOp .And (b::rest) pos) tB'):PW X (.BoolOp .And (a::b::rest) pos) (Dv tA tB'):=by
 intro wh om s σ H Q I h;refine isTrue_and (thn (ha om s σ H _ I h) λc s1 ph=>ph.elim λH1 I1 q1=>?_)
 cases c with
 |true=>exact hb wh om s1 σ H1 Q I1 q1
 |false=>exact⟨H1,I1,q1⟩
theorem Qf(ha:PT X a tA)(hb:PW X (.BoolOp .Or (b::rest) pos) tB'):PW X (.BoolOp .Or (a::b::rest) pos) (tOr tA tB'):=by
 intro wh om s σ H Q I h;refine isTrue_or (thn (ha om s σ H _ I h) λc s1 ph=>ph.elim λH1 I1 q1=>?_)
 cases c with
 |true=>exact⟨H1,I1,q1⟩
 |false=>exact hb wh om s1 σ H1 Q I1 q1
theorem Cz(ha:PT X a tA):PT X (.UnaryOp .Not a pos) (wY tA):=by intro om s σ H Q I h;exact isTrue_not (ha om s σ H (λc H1=>Q (!c) H1) I h)
def nX(ta:TE):TE:=λσ H Q=>ta σ H λx H1=>∃c,x= .bl c/\Q (.bl (!c)) H1
theorem oV{op}(h:PE X a t):PE X (.BoolOp op [a] pos) t:=λom s σ H Q I hw=>BoolOp_one (h om s σ H Q I hw)
theorem Vj(ha:PE X a ta):PE X (.UnaryOp .Not a pos) (nX ta):=by
 intro om s σ H Q I h;refine UnaryOp_ (thn (ha om s σ H _ I h) λv s1 ph=>ph.elim λx H1 I1 r1 q1=>?_);obtain⟨c,rfl,q1⟩:=q1
 cases r1
 exact not_of (yH ⟨.bl (!c),H1,I1,rfl,q1⟩)
def tIf(t:TT)(ta tb:TE):TE:=λσ H Q=>t σ H λc H1=>if c=true then ta σ H1 Q else tb σ H1 Q
theorem MX(hc:PT X c tA)(ha:PE X a ta)(hb:PE X b tb):PE X (.IfExp c a b pos) (tIf tA ta tb):=by
 intro om s σ H Q I h;refine wpAny_IfExp (thn (hc om s σ H _ I h) λd s1 ph=>ph.elim λH1 I1 q1=>?_)
 cases d with
 |true=>exact ha om s1 σ H1 Q I1 q1
 |false=>exact hb om s1 σ H1 Q I1 q1
end
def SqL(K:zc)(H:Hp)(a:Addr)(xs:List V):Prop:=
 Rd H a (.lst xs)\/
  ∃(o:Obj) (ou:Array ze) (n:Nat),K.lookup a=some o/\o.cls= .type "list"/\o.dict=none/\o.data= .seq ou n/\ou.size<=zi/\m6 xs ou.toList
def SqT(K:zc)(H:Hp)(a:Addr)(xs:List V):Prop:=
 Rd H a (.tup xs)\/
  ∃(o:Obj) (ou:Array ze) (n:Nat),K.lookup a=some o/\o.cls= .type "tuple"/\(o.data,o.dict)= (Data.seq ou n,none)/\ou.size<=zi/\m6 xs ou.toList
def aY:ze->Option V
| .none=>some .non
| .bool b=>some (.bl b)
| .int i _=>some (.int i)
| .str x _=>some (.str x)
| .bytes b _=>some (.byt b)
| .float b _=>some (.flt b)
| .ref a=>some (.ref a)
| .type n=>some (.ty n)
|_=>none
theorem u5.abs(r:u5 x u):aY u=some x:=by
 cases x with
 |non=>cases r;rfl
 |bl _=>cases r;rfl
 |int _=>obtain⟨t,rfl⟩:=r;rfl
 |str _=>obtain⟨t,rfl⟩:=r;rfl
 |byt _=>obtain⟨t,rfl⟩:=r;rfl
 |flt _=>obtain⟨t,rfl⟩:=r;rfl
 |ref _=>cases r;rfl
 |ty _=>cases r;rfl
theorem u5.inj(r:u5 x u)(q:u5 y u):x=y:=jH (r.abs.symm.trans q.abs)
theorem m6.inj(h:m6 xs us)(k:m6 ys us):xs=ys:=by
 induction h generalizing ys with
 |nil=>cases k;rfl
 |cons r t ih=>cases k with
   |cons r' t'=>rw[r.inj r',ih t']
section
theorem SqL.of{K:zc}(h:H a=some (.lst xs)):SqL K H a xs:=.inl (.inl h)
theorem SqT.of{K:zc}(h:H a=some (.tup xs)):SqT K H a xs:=.inl (.inl h)
theorem Inv.list(I:Inv X om σ H s)(h:SqL X.K H a xs):∃ou:List ze,m6 xs ou/\PlainL s.heap a ou.toArray/\xs.length<=zi:=by
 rcases h with h|⟨o,ou,n,hk,hc,hd,hs,hz,r⟩
 ·obtain⟨z,ou,n,r,e⟩:=h.ok I.hok;exact⟨ou,r,⟨_,n,e,rfl,rfl,rfl⟩,z⟩
 ·refine⟨ou.toList,r,⟨o,n,I.kIn a o hk,hc,hd,by simpa using hs⟩,?_⟩;have e:=r.length;simp only[zV]at e;lia
theorem Inv.tuple(I:Inv X om σ H s)(h:SqT X.K H a xs):∃ou:List ze,m6 xs ou/\Yr s.heap a ou.toArray/\xs.length<=zi:=by
 rcases h with h|⟨o,ou,n,hk,hc,hs,hz,r⟩
 ·obtain⟨z,ou,r,p⟩:=h.ok I.hok;exact⟨ou,r,C5.tup p,z⟩
 ·refine⟨ou.toList,r,⟨o,I.kIn a o hk,hc,n,by simpa using (xy hs).1⟩,?_⟩;have e:=r.length;simp only[zV]at e;lia
theorem Inv.list_inj(I:Inv X om σ H s)(h:SqL X.K H a xs)(h':SqL X.K H a ys):xs=ys:=by
 obtain⟨ou,r,⟨o,n,e,_,_,d⟩,_⟩:=I.list h;obtain⟨its',r',⟨o',n',e',_,_,d'⟩,_⟩:=I.list h';rw[e]at e';cases e';rw[d]at d';injection d' with d1 _;have:ou=its':=by simpa using congrArg Array.toList d1
 subst this;exact r.inj r'
theorem Inv.tuple_inj(I:Inv X om σ H s)(h:SqT X.K H a xs)(h':SqT X.K H a ys):xs=ys:=by
 obtain⟨ou,r,⟨o,e,_,n,d⟩,_⟩:=I.tuple h;obtain⟨its',r',⟨o',e',_,n',d'⟩,_⟩:=I.tuple h';rw[e]at e';cases e';rw[d]at d';injection d' with d1 _;have:ou=its':=by simpa using congrArg Array.toList d1
 subst this;exact r.inj r'
end
abbrev Cx.wish(X:Cx)(E:VSP):Cx:={X with xe:=E}
abbrev Cx.nox(X:Cx):Cx:=X.wish λ_ _=>False
theorem Cx.Ok.wish{X:Cx}(ok:X.Ok)(E:VSP):(X.wish E).Ok:=
 ⟨ok.mod,ok.kind,ok.glob,ok.blt,ok.above,ok.inj,ok.has,ok.cab,ok.hd,ok.frames,ok.stk,ok.exf,ok.bs,ok.bsz,ok.noex,ok.exfs,ok.funs,ok.frf,ok.gd⟩
theorem Cx.Ok.unwish{X:Cx}(ok:(X.wish E).Ok):X.Ok:=
 ⟨ok.mod,ok.kind,ok.glob,ok.blt,ok.above,ok.inj,ok.has,ok.cab,ok.hd,ok.frames,ok.stk,ok.exf,ok.bs,ok.bsz,ok.noex,ok.exfs,ok.funs,ok.frf,ok.gd⟩
section
theorem Inv.wish(I:Inv X om σ H s)(E:VSP):Inv (X.wish E) om σ H s:=⟨I.ok.wish E,I.os,I.bare,I.base,I.loc,I.cell,I.free,I.freeC,I.pin,I.hok,I.len⟩
theorem Inv.unwish(I:Inv (X.wish E) om σ H s):Inv X om σ H s:=⟨I.ok.unwish,I.os,I.bare,I.base,I.loc,I.cell,I.free,I.freeC,I.pin,I.hok,I.len⟩
theorem SP.unwish(h:SP (X.wish E) om D f s'):SP X om D f s':=by
 cases f with
 |next=>obtain⟨X1,H',I,q⟩:=h;exact⟨X1,H',I.unwish,q⟩
 |brk=>obtain⟨X1,H',I,q⟩:=h;exact⟨X1,H',I.unwish,q⟩
 |cont=>obtain⟨X1,H',I,q⟩:=h;exact⟨X1,H',I.unwish,q⟩
 |ret u=>obtain⟨v,X1,H',I,r,q⟩:=h;exact⟨v,X1,H',I.unwish,r,q⟩
theorem PE.nox(h:PE X.nox e t):PE X e t:=λom s σ H Q I hw=>
 jg (h om s σ H Q (I.wish _) hw) (λ_ _ ⟨v,H',I',r,q⟩=>⟨v,H',I'.unwish,r,q⟩) λ_ _ z=>yc z
theorem PT.nox(h:PT X.nox e t):PT X e t:=λom s σ H Q I hw=>
 jg (h om s σ H Q (I.wish _) hw) (λ_ _ ⟨H',I',q⟩=>⟨H',I'.unwish,q⟩) λ_ _ z=>yc z
theorem PSs.nox{st:List Stmt}(h:PSs X.nox st t):PSs X st t:=λom s σ H D I hw=>
 jg (h om s σ H D (I.wish _) hw) (λ_ _ q=>q.unwish) λ_ _ z=>yc z
end
section
variable{X:Cx}{st:Stmt}{rest:List Stmt}{t u:TS}
def oW:TS:=λD σ H=>D.nx σ H
def wv(t u:TS):TS:=λD σ H=>t {D with nx:=u D} σ H
theorem Gq:PSs X [] oW:=λ_ _ σ H _ I h=>yZ ⟨σ,H,I,h⟩
theorem wO(h1:PS X st t)(h2:PSs X rest u):PSs X (st::rest) (wv t u):=by
 intro om s σ H D I h;refine Ym (thn (h1 om s σ H {D with nx:=u D} I h) λf s1 q=>?_)
 cases f with
 |next=>
   obtain⟨X1,H',I',q⟩:=q;exact h2 om s1 X1 H' D I' q
 |ret v=>exact q
 |brk=>exact q
 |cont=>exact q
theorem IS(h1:PS X st t):PSs X [st] t:=by
 intro om s σ H D I h;refine Ym (thn (h1 om s σ H D I h) λf s1 q=>?_)
 cases f with
 |next=>exact yZ q
 |ret v=>exact q
 |brk=>exact q
 |cont=>exact q
theorem Inv.quiet(I:Inv X om σ H s):interactive X.env=false:=by simp[interactive,I.ok.kind]
def oU(te:TE):TS:=λD σ H=>te σ H λ_ H1=>D.nx σ H1
theorem RN(he:PE X e te)(hs:YT e none pos.line X.env=pure false):PS X (.Expr e pos) (oU te):=by intro om s σ H D I h;exact wpAny_Expr_any (thn (he om s σ H _ I h) λv s1 ph=>ph.elim λx H1 I1 r1 q1=>⟨σ,H1,I1,q1⟩) I.quiet hs
def dW(te:TE):TS:=λD σ H=>te σ H D.rt
theorem mZ(he:PE X e te):PS X (.Return (some e) pos) (dW te):=by intro om s σ H D I h;exact wpAny_Return_some (thn (he om s σ H _ I h) λv s1 ph=>ph.elim λx H1 I1 r1 q1=>⟨x,σ,H1,I1,r1,q1⟩)
def MT(c:TT)(t u:TS):TS:=λD σ H=>c σ H λb H1=>if b=true then t D σ H1 else u D σ H1
theorem tX{tc:TT}(hc:PT X c tc)(ha:PSs X a t)(hb:PSs X b u):PS X (.If c a b pos) (MT tc t u):=by
 intro om s σ H D I h;refine wpAny_If (thn (hc om s σ H _ I h) λd s1 ph=>ph.elim λH1 I1 q1=>?_)
 cases d with
 |true=>exact ha om s1 σ H1 D I1 q1
 |false=>exact hb om s1 σ H1 D I1 q1
end
abbrev TG:=V->St->Hp->(St->Hp->Prop)->Prop
abbrev TGs:=List V->St->Hp->(St->Hp->Prop)->Prop
def PG(X:Cx)(target:Expr)(t:TG):Prop:=
 ∀(om:PNS) (s:zh) (σ:St) (H:Hp) (v:V) (u:ze) (Q:St->Hp->Prop),Inv X om σ H s->u5 v u->t v σ H Q->
  zq (zz X.prog X.w) X.A (YR target X.env u) (λ_ s'=>∃ X1 H',Inv X om X1 H' s'/\Q X1 H') X.xe s
def PGs(X:Cx)(ts:List Expr)(t:TGs):Prop:=
 ∀(om:PNS) (s:zh) (σ:St) (H:Hp) (vs:List V) (us:List ze) (Q:St->Hp->Prop),Inv X om σ H s->m6 vs us->t vs σ H Q->
  zq (zz X.prog X.w) X.A (assignInOrder ((xh ts X.env).map (·.2)) us) (λ_ s'=>∃ X1 H',Inv X om X1 H' s'/\Q X1 H') X.xe s
abbrev TSet:=V->V->V->Hp->(Hp->Prop)->Prop
section
def Pp(i:Nat):TG:=λv σ H Q=>Q (σ.set i (some v)) H
theorem OP(hN:X.N.Nodup)(hi:X.N[i]? =some x)(hx:Loc X.env.scope x)(hf:X.fn x=true\/X.env.scope.names.lookup x=some .local):PG X (.Name x pos) (Pp i):=by intro om s σ H v u Q I r h;exact wpAny_assign_Name (oP I hN hi hx r (λs' I'=>⟨_,H,I',h⟩) hf)
def hW:TGs:=λvs σ H Q=>vs= []/\Q σ H
def NU(t:TG)(u:TGs):TGs:=λvs σ H Q=>∃v r,vs=v::r/\t v σ H λX1 H'=>u r X1 H' Q
theorem kr:PGs X [] hW:=by
 intro om s σ H vs us Q I r h;obtain⟨e,h⟩:=h;subst e
 cases r
 exact assignInOrder_nil ⟨σ,H,I,h⟩
theorem RY(h1:PG X e t)(h2:PGs X es u)
 (hs:(xh (e::es) X.env).map (·.2)=YR e X.env::(xh es X.env).map (·.2)):PGs X (e::es) (NU t u):=by
 intro om s σ H vs us Q I r h;obtain⟨v,vr,e1,h⟩:=h;subst e1
 cases r with
 |cons r rr=>
   rw[hs];refine assignInOrder_cons (thn (h1 om s σ H _ _ _ I r h) λ_ s1 ⟨WX,H1,I1,q1⟩=>?_);exact h2 om s1 WX H1 _ _ Q I1 rr q1
def Lz(K:zc)(n:Nat)(t:TGs):TG:=λv σ H Q=>∃a xs,v= .ref a/\SqT K H a xs/\xs.length=n/\t xs σ H Q
theorem CV(hc:X.calm=true)(h:PGs X es t)
 (hn:(xh es X.env).length=n) (hst:(xh es X.env).findIdx? (·.1)=none):PG X (.Tuple es k pos) (Lz X.K n t):=by
 intro om s σ H v u Q I r hw;obtain⟨a,xs,e1,hq,hl,hw⟩:=hw;subst e1
 cases r
 obtain⟨ou,rv,ht,hz⟩:=I.tuple hq;refine assign_Tuple_tuple (I.ok.hd hc) ht (by simp[hn,<-hl,rv.length]) hst λh' hx=>?_;have I1:Inv X om σ H {s with heap:=h'}:=I.kept (t':=s.toks) λb o e=>hx b o (zu (zj e)) e;exact h om _ σ H xs _ Q I1 (by simpa using rv) hw
def Sm(te:TE)(g:TG):TS:=λD σ H=>te σ H λx H1=>g x σ H1 D.nx
theorem VI{g:TG}(he:PE X e te)(hg:PG X tg g)(hs:Ya [tg] e pos.line X.env=pure false)(hw:Yb [tg] e X.env=pure none)
 (h1:(xh [tg] X.env).map (·.2)= [YR tg X.env]):PS X (.Assign [tg] e pos) (Sm te g):=by
 intro om s σ H D I h;refine wpAny_Assign_stores (thn (he om s σ H _ I h) λv s1 ph=>ph.elim λx H1 I1 r1 q1=>?_) hs hw;rw[h1];exact thn (hg om s1 σ H1 x v _ I1 r1 q1) λ_ s2 q=>q
def eV(c:TT)(tb:TS):TS:=λD σ H=>∃W:Nat->St->Hp->Prop,(∃m,W m σ H)/\∀m σ H,W m σ H->
 c σ H λb H1=>if b=true then ∃N:St->Hp->Prop,(∀ X1 H',N X1 H'->∃m',m'<m/\W m' X1 H')/\tb {D with nx:=N,ct:=N,bk:=D.nx} σ H1 else D.nx σ H1
theorem DV{tc:TT}{tb:TS}(hp:PassesOwn (zz X.prog X.w) X.A X.env X.xe)(hc:PT X c tc)(hb:PSs X body tb):PS X (.While c body [] pos) (eV tc tb):=by
 intro om s σ H D I h;obtain⟨W,⟨m0,w0⟩,turn⟩:=h;refine wpAny_While (codeAny_whileLoop (λn s'=>∃ X1 H',Inv X om X1 H' s'/\W n X1 H') ?_ m0 ⟨σ,H,I,w0⟩);rintro n s1 ⟨WX,H1,I1,w1⟩;refine wpAny_passesOwn hp (thn (hc om s1 WX H1 _ I1 (turn n WX H1 w1)) λb s2 ph=>ph.elim λH2 I2 q2=>?_)
 cases b with
 |true=>
   obtain⟨N,hN,q2⟩:=q2;rw[if_pos rfl];refine wpAny_passesOwn hp (thn (hb om s2 WX H2 _ I2 q2) λf s3 q3=>?_)
   cases f with
   |next=>
     obtain⟨WH,H3,I3,n3⟩:=q3;obtain⟨m',hm,w3⟩:=hN WH H3 n3;exact⟨m',hm,WH,H3,I3,w3⟩
   |cont=>
     obtain⟨WH,H3,I3,n3⟩:=q3;obtain⟨m',hm,w3⟩:=hN WH H3 n3;exact⟨m',hm,WH,H3,I3,w3⟩
   |brk=>exact q3
   |ret v=>exact q3
 |false=>
   rw[if_neg zw];exact yZ ⟨WX,H2,I2,q2⟩
end
structure It where
 go:Nat->Hp->Prop
 yld:Nat->Hp->V->Hp->Prop
 stop:Nat->Hp->Prop
def T0(X:Cx)(om:PNS)(H:Hp)(b:Addr):Prop:=
 H b=none/\b≠X.env.locals/\b∉X.fs/\(b∈X.ex\/X.WY.heap.objs.size<=b)/\(∀x c,X.env.cells.lookup x=some c->c≠b)/\∀p∈X.pn++om,p.1≠b
theorem Inv.fpOk(I:Inv X om σ H s)(hb:s.heap.objs.size<=b)(hn:H' b=none):T0 X om H' b:=by
 refine⟨hn,xp (zQ I.lt hb),I.nofs hb,.inr (jc I.sz hb),λx c e z=>?_,λp hp z=>?_⟩
 ·obtain⟨v,q⟩:=I.cell x c e;exact absurd (zQ q.lt (by rw[z];exact hb)) (yx _)
 ·exact absurd (zQ (zj (I.pin p hp).1) (by rw[z];exact hb)) (yx _)
inductive TIt(X:Cx)(om:PNS)(σ:St)(J:It)(fp:List Addr)(tn:Nat->Heap->Prop)(i:Nat)(H:Hp)(u:ze)(s2:zh):Prop
|mk (x:V) (H':Hp) (I:Inv X om σ H' s2) (r:u5 x u) (y:J.yld i H x H') (st:tn (i+1) s2.heap) (fr:∀b∈fp,H' b=none)
structure P7(P:zB)(w:zI)(K:zc)(tg:Expr)(J:It)(fp:List Addr)(it:Addr)(tn:Nat->Heap->Prop):Prop where
 mem:it∈fp
 obj:∀i h,tn i h->∀b∈fp,∃o,h.get? b=some o/\∀v,o.data≠ .cell v
 keep:∀i h h',tn i h->(∀b∈fp,∀o,h.get? b=some o->h'.get? b=some o)->tn i h'
 item:∀(X:Cx),X.prog=P->X.w=w->X.K=K->X.calm=true->∀(i:Nat) (om:PNS) (s:zh) (σ:St) (H:Hp) (E:VSP),Inv X om σ H s->(∀b∈fp,T0 X om H b)->tn i s.heap->J.go i H->
  zq (zz P w) X.A (Yw (.ref it)) (λr s1=>∃u,r=some u/\
   zq (zz P w) X.A (xQ tg (.ref it) u) (λ_ s2=>TIt X om σ J fp tn i H u s2) E s1) E s
 done:∀(X:Cx),X.prog=P->X.w=w->X.K=K->X.calm=true->∀(i:Nat) (om:PNS) (s:zh) (σ:St) (H:Hp) (E:VSP),Inv X om σ H s->(∀b∈fp,T0 X om H b)->tn i s.heap->J.stop i H->
  zq (zz P w) X.A (Yw (.ref it)) (λr s1=>r=none/\Inv X om σ H s1) E s
 self:∀(A:zL) (i:Nat) (s:zh) (Q:VSP) (E:VSP),tn i s.heap->Q (.ref it) s->zq (zz P w) A (pyIter (.ref it)) Q E s
abbrev TI:=St->Hp->(It->Hp->Prop)->Prop
inductive PIE(X:Cx)(om:PNS)(σ:St)(tg:Expr)(R:It->Hp->Prop)(itv:ze)(s2:zh):Prop
|mk (it:Addr) (fp:List Addr) (tn:Nat->Heap->Prop) (J:It) (H':Hp) (e:itv= .ref it) (I:Inv X om σ H' s2) (T:P7 X.prog X.w X.K tg J fp it tn) (st:tn 0 s2.heap) (f:∀b∈fp,T0 X om H' b) (r:R J H')
def PI(X:Cx)(tg iter:Expr)(wi:TI):Prop:=
 ∀(om:PNS) (s:zh) (σ:St) (H:Hp) (R:It->Hp->Prop),Inv X om σ H s->wi σ H R->
  zq (zz X.prog X.w) X.A (eval iter X.env) (λv s1=>zq (zz X.prog X.w) X.A (pyIter v) (PIE X om σ tg R) X.xe s1) X.xe s
theorem cD(ho:s.heap.get? it=some o)(hc:o.cls= .type n)(hd:o.data= .fields vs)
 (hn: ["enumerate", "zip", "dict_itemiterator", "dict_reverseitemiterator", "odict_iterator", "itertools.zip_longest", "itertools.pairwise"].contains n=false) (hQ:Q () s):zq M A (xQ tg (.ref it) u) Q E s:=by
 unfold xQ
 cases tg<;>first
  |exact zm hQ
  | (cases u <;> first
      |exact zm hQ
      | (refine za (wpAny_load ho ?_)
         rw[hc,hd];show zq M A (if (["enumerate", "zip", "dict_itemiterator", "dict_reverseitemiterator", "odict_iterator", "itertools.zip_longest", "itertools.pairwise"].contains n&&vs[0]? == some (yC _))=true then _ else _) Q E s;rw[if_neg (by intro h;rw[hn,Bool.false_and]at h;cases h)];exact zm hQ))
def Itl(K:zc)(a:Addr):It:=
 ⟨λi H=>∃xs x,SqL K H a xs/\xs[i]? =some x,λi H x H'=>H'=H/\∀xs,SqL K H a xs->xs[i]? =some x,λi H=>∃xs,SqL K H a xs/\xs.length<=i⟩
def Itt(K:zc)(a:Addr):It:=
 ⟨λi H=>∃xs x,SqT K H a xs/\xs[i]? =some x,λi H x H'=>H'=H/\∀xs,SqT K H a xs->xs[i]? =some x,λi H=>∃xs,SqT K H a xs/\xs.length<=i⟩
def Itr(lo:Int)(n:Nat):It:=⟨λi _=>i<n,λi H x H'=>H'=H/\x= .int (lo+i),λi _=>n<=i⟩
theorem qf{w:zI}{K:zc}{tg:Expr}(a it:Addr):P7 P w K tg (Itl K a) [it] it (λi h=>h.IsListIter it a i) where
 mem:=by simp
 obj:=λi h st b hb=>by
  have e:b=it:=by simpa using hb
  subst e;obtain⟨o,e,c,d⟩:=st;exact⟨o,e,λv z=>by rw[d]at z;cases z⟩
 keep:=λi h h' st k=>st.at λo e=>k it (by simp) o e
 item:=by intro X hP hw hK hc i om s σ H E I hf st hg;subst hP hw hK;obtain⟨xs,x,hq,hx⟩:=hg;obtain⟨ou,rv,p,hz⟩:=I.list hq;obtain⟨u,hu,ru⟩:=rv.get hx;obtain⟨f0,f1,f2,f3,f4,f5⟩:=hf it (by simp);refine wpAny_pyNext_list_item st p.isList (x:=u) (by simpa using hu) λh' pc sb=>?_;have I1:Inv X om σ H {s with heap:=h'}:=I.turned (t':=s.toks) (λb o hb e=>(sb.2 b hb).trans e) f0 f1 f3 f4 f5;obtain⟨o,e,c,d⟩:=id pc;exact⟨u,rfl,cD (s:={s with heap:=h'}) e c d (by decide) ⟨x,H,I1,ru,⟨rfl,λys hy=>by rw[I.list_inj hy hq];exact hx⟩,pc,λb hb=>(hf b hb).1⟩⟩
 done:=by intro X hP hw hK hc i om s σ H E I hf st hg;subst hP hw hK;obtain⟨xs,hq,hx⟩:=hg;obtain⟨ou,rv,p,hz⟩:=I.list hq;obtain⟨f0,f1,f2,f3,f4,f5⟩:=hf it (by simp);have hl:=rv.length;exact wpAny_pyNext_list_end (I.ok.hd hc) st p.isList (by simp;lia) λh' eb=>⟨rfl,I.turned (t':=s.toks) (λb o hb e=>eb b o hb e) f0 f1 f3 f4 f5⟩
 self:=λ_ _ _ _ _ st h=>wpAny_pyIter_listiter st h
theorem oX{w:zI}{K:zc}{tg:Expr}(a it:Addr):P7 P w K tg (Itt K a) [it] it (λi h=>h.IsTupleIter it a i) where
 mem:=by simp
 obj:=λi h st b hb=>by
  have e:b=it:=by simpa using hb
  subst e;obtain⟨o,e,c,d⟩:=st;exact⟨o,e,λv z=>by rw[d]at z;cases z⟩
 keep:=λi h h' st k=>st.at λo e=>k it (by simp) o e
 item:=by intro X hP hw hK hc i om s σ H E I hf st hg;subst hP hw hK;obtain⟨xs,x,hq,hx⟩:=hg;obtain⟨ou,rv,p,hz⟩:=I.tuple hq;obtain⟨u,hu,ru⟩:=rv.get hx;obtain⟨f0,f1,f2,f3,f4,f5⟩:=hf it (by simp);refine wpAny_pyNext_tuple_item st (show s.heap.IsTuple a ou.toArray from p) (x:=u) (by simpa using hu) λh' pc sb=>?_;have I1:Inv X om σ H {s with heap:=h'}:=I.turned (t':=s.toks) (λb o hb e=>(sb.2 b hb).trans e) f0 f1 f3 f4 f5;obtain⟨o,e,c,d⟩:=id pc;exact⟨u,rfl,cD (s:={s with heap:=h'}) e c d (by decide) ⟨x,H,I1,ru,⟨rfl,λys hy=>by rw[I.tuple_inj hy hq];exact hx⟩,pc,λb hb=>(hf b hb).1⟩⟩
 done:=by intro X hP hw hK hc i om s σ H E I hf st hg;subst hP hw hK;obtain⟨xs,hq,hx⟩:=hg;obtain⟨ou,rv,p,hz⟩:=I.tuple hq;obtain⟨f0,f1,f2,f3,f4,f5⟩:=hf it (by simp);have hl:=rv.length;exact wpAny_pyNext_tuple_end (I.ok.hd hc) st (show s.heap.IsTuple a ou.toArray from p) (by simp;lia) λh' eb=>⟨rfl,I.turned (t':=s.toks) (λb o hb e=>eb b o hb e) f0 f1 f3 f4 f5⟩
 self:=λ_ _ _ _ _ st h=>wpAny_pyIter_tupleiter st h
theorem og{w:zI}{K:zc}{tg:Expr}(it:Addr)(lo:Int)(n:Nat):P7 P w K tg (Itr lo n) [it] it (λi h=>IsRangeIter h it (lo+(i:Nat)*1) ((n:Int)-(i:Nat)) 1) where
 mem:=by simp
 obj:=λi h st b hb=>by
  have e:b=it:=by simpa using hb
  subst e;exact⟨_,st,λv z=>by
   have z':Data.fields _=Data.cell v:=z
   cases z'⟩
 keep:=λi h h' st k=>k it (by simp) _ st
 item:=by intro X hP hw hK hc i om s σ H E I hf st hg;subst hP hw hK;obtain⟨f0,f1,f2,f3,f4,f5⟩:=hf it (by simp);have W:=Walks.range (prog:=X.prog) (w:=X.w) (I.ok.hd hc) it lo 1 n;refine W.item i s _ _ hg st λv h' tk hv pc kk=>?_;obtain⟨t,rfl⟩:=hv;have I1:Inv X om σ H {s with heap:=h',toks:=tk}:=I.turned (λb o hb e=>kk b o (by simpa using hb) e) f0 f1 f3 f4 f5;refine⟨_,rfl,cD (s:={s with heap:=h',toks:=tk}) (n:= "range_iterator") pc rfl rfl (by decide) ⟨.int (lo+i),H,I1,⟨t,?_⟩,⟨rfl,rfl⟩,pc,λb hb=>(hf b hb).1⟩⟩;rw[Int.mul_one]
 done:=by intro X hP hw hK hc i om s σ H E I hf st hg;subst hP hw hK;obtain⟨f0,f1,f2,f3,f4,f5⟩:=hf it (by simp);exact wpAny_pyNext_range_end (I.ok.hd hc) st (by have:n<=i:=hg;lia) λh' eb=>⟨rfl,I.turned (t':=s.toks) (λb o hb e=>eb b o hb e) f0 f1 f3 f4 f5⟩
 self:=λ_ _ _ _ _ st h=>wpAny_pyIter_rangeiter st h
section
theorem Qc{σ:St}{H:Hp}{s:zh}{R:It->Hp->Prop}{lo hi:Int}{t u v:Tok}{tk:Nat}(I:Inv X om σ H s)(h1: -(2 ^ 62)<=lo)(h2:lo<2 ^ 62)(h3: -(2 ^ 62)<=hi)(h4:hi<2 ^ 62)
 (q:R (Itr lo (hi-lo).toNat) H):zq (zz X.prog X.w) X.A (pyIter (.ref s.heap.objs.size)) (PIE X om σ tg R) E {s with heap:=s.heap.push {cls:=.type "range",data:=.fields #[.int lo t,.int hi u,.int 1 v]},toks:=tk}:=by
 refine wpAny_pyIter_range (IsRange.new ..) (small_one h1 h2 h3 h4) ?_;have I1:Inv X om σ H {s with heap:=s.heap.push {cls:=.type "range",data:=.fields #[.int lo t,.int hi u,.int 1 v]},toks:=tk}:=I.kept λb o e=>zf _ e;refine⟨(s.heap.push {cls:=.type "range",data:=.fields #[.int lo t,.int hi u,.int 1 v]}).objs.size, [(s.heap.push {cls:=.type "range",data:=.fields #[.int lo t,.int hi u,.int 1 v]}).objs.size],_,_,H,rfl,
  I1.kept (t':=tk) λb o e=>zf _ e,og _ lo (hi-lo).toNat,?_,λb hb=>?_,q⟩
 ·have e1:lo+((0:Nat):Int)*1=lo:=by simp
  have e2:(((hi-lo).toNat:Nat):Int)-((0:Nat):Int)=Builtin.Range.rangeSize lo hi 1:=by rw[rangeSize_one];split<;>lia
  show IsRangeIter _ _ (lo+((0:Nat):Int)*1) ((((hi-lo).toNat:Nat):Int)-((0:Nat):Int)) 1;rw[e1,e2];exact zy _ rfl
 ·have e:b= (s.heap.push {cls:=.type "range",data:=.fields #[.int lo t,.int hi u,.int 1 v]}).objs.size:=by simpa using hb
  subst e;exact I1.fpOk (zg _) (I1.hok.fresh (zg _))
def vz(ta:TA):TI:=λσ H R=>ta σ H λvs H1=>∃j:Int,vs= [.int j]/\ -(2 ^ 62)<=j/\j<2 ^ 62/\R (Itr 0 j.toNat) H1
theorem UV{ta:TA}(hg:Gl X "range")(hm:X.mg "range" =none)(ha:PA X [a] ta)(hs:zC [a] X.env= [(false,eval a X.env)]):PI X tg (.Call (.Name "range" p) [a] [] pos) (vz ta):=by
 intro om s σ H R I h;refine Call_ (kC I hg hm boot_range (xY (thn (ha pos om s σ H _ I h) λus s1 ph=>ph.elim λvs H1 I1 r1 q1=>?_) hs rfl));obtain⟨j,e,q1,q2,q⟩:=q1;subst e
 cases r1 with
 |cons r rr=>
   cases rr
   obtain⟨t,rfl⟩:=r;exact call_range_1 (Qc I1 (by lia) (by lia) q1 q2 (by simpa using q))
def vm(wi:TI)(g:TG)(tb:TS):TS:=λD σ H=>wi σ H λJ H1=>∃W:Nat->Nat->St->Hp->Prop,(∃m,W 0 m σ H1)/\∀i m σ H,W i m σ H->
 (J.stop i H/\D.nx σ H)\/(J.go i H/\∃N:St->Hp->Prop,(∀ X1 H',N X1 H'->∃m',m'<m/\W (i+1) m' X1 H')/\∀x H',J.yld i H x H'->g x σ H' λWG H2=>tb {D with nx:=N,ct:=N,bk:=D.nx} WG H2)
def HD(fp:List Addr)(h:Heap):PNS:=fp.filterMap λb=>(h.get? b).map λo=>(b,o)
theorem V1(hb:b∈fp)(e:h.get? b=some o):(b,o)∈HD fp h:=List.mem_filterMap.mpr ⟨b,hb,by rw[e];rfl⟩
theorem fj(hp:p∈HD fp h):p.1∈fp/\h.get? p.1=some p.2:=by
 obtain⟨b,hb,e⟩:=List.mem_filterMap.mp hp
 cases q:h.get? b with
 |none=>rw[q]at e;cases e
 |some o=>
   rw[q]at e;have e':(b,o)=p:=jH e;subst e';exact⟨hb,q⟩
theorem Inv.pinned(I:Inv X om σ H s)(hf:∀b∈fp,T0 X om H b)(ho:∀b∈fp,∃o,s.heap.get? b=some o/\∀v,o.data≠ .cell v):Inv X (om++HD fp s.heap) σ H s:=
 I.pins_of λp hp=>(jr.mp hp).elim (λz=>I.pin p (zG _ z)) λz=>by obtain⟨hb,e⟩:=fj z;obtain⟨f0,f1,f2,_⟩:=hf p.1 hb;obtain⟨o,e',d⟩:=ho p.1 hb;rw[e]at e';cases e';exact⟨e,f0,f1,f2,d⟩
theorem Inv.unpinned(I:Inv X (om++pl) σ H s):Inv X om σ H s:=I.pins_of λp hp=>I.pin p (zG _ (yX _ hp))
inductive VJ(X:Cx)(om:PNS)(fp:List Addr)(tn:Nat->Heap->Prop)(W:Nat->Nat->St->Hp->Prop)(n:Nat)(s':zh):Prop
|mk (i:Nat) (X1:St) (H':Hp) (I:Inv X om X1 H' s') (st:tn i s'.heap) (fr:∀b∈fp,H' b=none) (w:W i n X1 H')
theorem Gf{body:List Stmt}{g:TG}{tb:TS}{om:PNS}{D:f8}{it:Addr}{fp:List Addr}{tn:Nat->Heap->Prop}{J:It}(hp:∀e s,X.xe e s->EE e s)(hc:X.calm=true)(hg:PG X tg g)(hb:PSs X body tb)
 (T:P7 X.prog X.w X.K tg J fp it tn) (stat:∀ {H':Hp},(∀b∈fp,H' b=none)->∀b∈fp,T0 X om H' b)
 (turn:∀i m σ H,W i m σ H->
 (J.stop i H/\D.nx σ H)\/(J.go i H/\∃N:St->Hp->Prop,(∀ X1 H',N X1 H'->∃m',m'<m/\W (i+1) m' X1 H')/\∀x H',J.yld i H x H'->g x σ H' λWG H2=>tb {D with nx:=N,ct:=N,bk:=D.nx} WG H2))
   {n:Nat} {s3:zh} (h3:VJ X om fp tn W n s3) {NX:zh->Prop} (nx:∀m s,m<n->VJ X om fp tn W m s->NX s):
   zq (zz X.prog X.w) X.A (Yw (.ref it)) (λr s1=>match r with
    |none=>zq (zz X.prog X.w) X.A (execs [] X.env) (λf s2=>SP X om D f s2) EE s1
    | some v => zq (zz X.prog X.w) X.A (xQ tg (.ref it) v) (λ_ s2 => zq (zz X.prog X.w) X.A (YR tg X.env v) (λ_ s4 => zq (zz X.prog X.w) X.A (execs body X.env) (λf s5 => match f with
       | .next| .cont=>NX s5
       | .brk=>SP X om D .next s5
       | .ret v=>SP X om D (.ret v) s5) EE s4) EE s2) EE s1) EE s3:=by
 obtain⟨i,WH,H3,I3,st3,fr3,w3⟩:=h3;rcases turn i n WH H3 w3 with⟨stop,qn⟩|⟨go,N,hN,step⟩
 ·refine jg (T.done X rfl rfl rfl hc i om s3 WH H3 X.xe I3 (stat fr3) st3 stop) (λr s4 z1=>?_) hp;obtain⟨hr,I4⟩:=z1;subst hr;exact yZ ⟨WH,H3,I4,qn⟩
 ·refine jg (T.item X rfl rfl rfl hc i om s3 WH H3 X.xe I3 (stat fr3) st3 go) (λr s4 z2=>?_) hp;obtain⟨u,hr,h4⟩:=z2;subst hr;refine jg h4 (λ_ s5 z3=>?_) hp;obtain⟨x,H5,I5,r5,y5,st5,fr5⟩:=z3;have I5':=I5.pinned (stat fr5) (T.obj _ _ st5);refine jg (hg _ s5 WH H5 x u _ I5' r5 (step x H5 y5)) (λ_ s6 z4=>?_) hp;obtain⟨WP,H6,I6,q6⟩:=z4;refine jg (hb _ s6 WP H6 _ I6 q6) (λf s7 q7=>?_) hp;have again:∀ {WM:St} {H7:Hp},Inv X (om++HD fp s5.heap) WM H7 s7->N WM H7->NX s7:=λ{WM H7} I7 n7=>by
   obtain⟨m',hm,w7⟩:=hN WM H7 n7;refine nx m' _ hm ⟨i+1,WM,H7,I7.unpinned,T.keep _ _ _ st5 λb hb o e=>(I7.pin (b,o) (zG _ (zG _ (V1 hb e)))).1,λb hb=>?_,w7⟩;obtain⟨o,e,d⟩:=T.obj _ _ st5 b hb;exact(I7.pin (b,o) (zG _ (zG _ (V1 hb e)))).2.1
  cases f with
  |next=>obtain⟨WM,H7,I7,n7⟩:=q7;exact again I7 n7
  |cont=>obtain⟨WM,H7,I7,n7⟩:=q7;exact again I7 n7
  |brk=>obtain⟨WM,H7,I7,q7⟩:=q7;exact⟨WM,H7,I7.unpinned,q7⟩
  |ret v=>obtain⟨x7,WM,H7,I7,r7,q7⟩:=q7;exact⟨x7,WM,H7,I7.unpinned,r7,q7⟩
theorem qV(hp:PassesOwn (zz X.prog X.w) X.A X.env X.xe)(hc:X.calm=true)(hi:PI X tg iter wi)(hg:PG X tg g)(hb:PSs X body tb)
 (hs:∀x,xc iter X.env x=pure x):PS X (.For tg iter body [] pos) (vm wi g tb):=by
 intro om s σ H D I h;refine wpAny_For (thn (hi om s σ H _ I h) λv s1 h1=>thn h1 λitv s2 h2=>?_) hs;obtain⟨it,fp,tn,J,H2,e,I2,T,st2,f2,W,⟨m0,w0⟩,turn⟩:=h2;subst e
 -- what stays true of the iterator's objects through the loop
 have stat:∀ {H':Hp},(∀b∈fp,H' b=none)->∀b∈fp,T0 X om H' b:=λhn b hb=>⟨hn b hb,(f2 b hb).2⟩;exact codeAny_forLoop_any (VJ X om fp tn W) (λn s3 h3=>Gf hp hc hg hb T stat turn h3 λm s h1 h2=>⟨m,h1,h2⟩) m0 ⟨0,σ,H2,I2,st2,λb hb=>(f2 b hb).1,w0⟩
end
abbrev R2:=V->V->Hp->VK->Prop
def OpR(X:Cx)(f:ze->ze->Sem ze)(r:R2):Prop:=
 ∀(om:PNS) (s:zh) (σ:St) (H:Hp) (x y:V) (v u:ze) (Q:VK),Inv X om σ H s->u5 x v->u5 y u->r x y H Q->
  zq (zz X.prog X.w) X.A (f v u) (EP X om σ Q) X.xe s
def UnR(X:Cx)(f:ze->Sem ze)(r:V->Hp->VK->Prop):Prop:=
 ∀(om:PNS) (s:zh) (σ:St) (H:Hp) (x:V) (v:ze) (Q:VK),Inv X om σ H s->u5 x v->r x H Q->
  zq (zz X.prog X.w) X.A (f v) (EP X om σ Q) X.xe s
def R7(X:Cx)(f:ze)(r:List V->Hp->VK->Prop):Prop:=
 ∀(om:PNS) (s:zh) (σ:St) (H:Hp) (xs:List V) (us:List ze) (Q:VK),Inv X om σ H s->m6 xs us->r xs H Q->
  zq (zz X.prog X.w) X.A (call f us) (EP X om σ Q) X.xe s
def bY(X:Cx)(r:V->Hp->(Bool->Hp->Prop)->Prop):Prop:=
 ∀(om:PNS) (s:zh) (σ:St) (H:Hp) (x:V) (v:ze) (Q:Bool->Hp->Prop),Inv X om σ H s->u5 x v->r x H Q->
  zq (zz X.prog X.w) X.A (truthy v) (TP X om σ Q) X.xe s
def tOp(r:R2)(ta tb:TE):TE:=λσ H Q=>ta σ H λx H1=>tb σ H1 λy H2=>r x y H2 Q
def tUn(r:V->Hp->VK->Prop)(ta:TE):TE:=λσ H Q=>ta σ H λx H1=>r x H1 Q
def rI(C:Int->Int->Prop)(g:Int->Int->V):R2:=λx y H Q=>∃i j,x= .int i/\y= .int j/\C i j/\Q (g i j) H
def C9(g:Int->Int->V):R2:=λx y H Q=>∃i j,x= .int i/\y= .int j/\Q (g i j) H
def rU(g:Int->V):V->Hp->VK->Prop:=λx H Q=>∃i,x= .int i/\Q (g i) H
section
theorem DK(ha:PE X a ta)(hb:PE X b tb){om:PNS}{s:zh}{σ:St}{H:Hp}{R:V->V->Hp->Prop}(I:Inv X om σ H s)
 (h:ta σ H λx H1=>tb σ H1 λy H2=>R x y H2) {f:ze->ze->Sem ze}
 (hf:∀v u s2 x y H2,Inv X om σ H2 s2->u5 x v->u5 y u->R x y H2->zq (zz X.prog X.w) X.A (f v u) Q X.xe s2):
 zq (zz X.prog X.w) X.A (eval a X.env) (λv W1=>zq (zz X.prog X.w) X.A (eval b X.env) (λu WQ=>zq (zz X.prog X.w) X.A (f v u) Q X.xe WQ) X.xe W1) X.xe s:=by
 refine thn (ha om s σ H _ I h) λv s1 ph=>ph.elim λx H1 I1 r1 q1=>?_;refine thn (hb om s1 σ H1 _ I1 q1) λu s2 ph=>ph.elim λy H2 I2 r2 q2=>?_;exact hf v u s2 x y H2 I2 r1 r2 q2
theorem oI(ho:OpR X (yh op) r)(ha:PE X a ta)(hb:PE X b tb):PE X (.BinOp a op b pos) (tOp r ta tb):=by intro om s σ H Q I h;exact wpAny_BinOp (DK ha hb I h λv u s2 x y H2 I2 rx ry q=>ho om s2 σ H2 x y v u Q I2 rx ry q)
theorem GU(ho:UnR X (unaryOp op) r)(ha:PE X a ta):PE X (.UnaryOp op a pos) (tUn r ta):=by intro om s σ H Q I h;exact UnaryOp_ (thn (ha om s σ H _ I h) λv s1 ph=>ph.elim λx H1 I1 r1 q1=>ho om s1 σ H1 x v Q I1 r1 q1)
theorem opI{C:Int->Int->Prop}{g:Int->Int->Int}
 (rule:∀(i j:Int) (t u:Tok) (s:zh) Q (E:VSP),C i j->Q (.int (g i j) s.toks) {s with toks:=s.toks+1}->zq (zz X.prog X.w) X.A (f (.int i t) (.int j u)) Q E s):
 OpR X f (rI C λi j=>.int (g i j)):=by
 intro om s σ H x y v u Q I rx ry h;obtain⟨i,j,rfl,rfl,hc,q⟩:=h;obtain⟨t,rfl⟩:=rx;obtain⟨t',rfl⟩:=ry;exact rule i j t t' s _ _ hc ⟨.int (g i j),H,I.tok _,⟨_,rfl⟩,q⟩
theorem DQ{g:Int->Int->Int}
 (rule:∀(i j:Int) (t u:Tok) (s:zh) Q (E:VSP),Q (.int (g i j) s.toks) {s with toks:=s.toks+1}->zq (zz X.prog X.w) X.A (f (.int i t) (.int j u)) Q E s):
 OpR X f (C9 λi j=>.int (g i j)):=by
 intro om s σ H x y v u Q I rx ry h;obtain⟨i,j,rfl,rfl,q⟩:=h;obtain⟨t,rfl⟩:=rx;obtain⟨t',rfl⟩:=ry;exact rule i j t t' s _ _ ⟨.int (g i j),H,I.tok _,⟨_,rfl⟩,q⟩
theorem AJ{g:Int->Int->Bool}
 (rule:∀(i j:Int) (t u:Tok) (s:zh) Q (E:VSP),Q (.bool (g i j)) s->zq (zz X.prog X.w) X.A (f (.int i t) (.int j u)) Q E s):
 OpR X f (C9 λi j=>.bl (g i j)):=by
 intro om s σ H x y v u Q I rx ry h;obtain⟨i,j,rfl,rfl,q⟩:=h;obtain⟨t,rfl⟩:=rx;obtain⟨t',rfl⟩:=ry;exact rule i j t t' s _ _ ⟨.bl (g i j),H,I,rfl,q⟩
def kA(i j:Int):Prop:=0<=j/\j<=1000000/\i.natAbs<2 ^ 64
def C7(i j:Int):Prop:=(-(2 ^ 64)<i/\i<2 ^ 64)\/(-(2 ^ 64)<j/\j<2 ^ 64)
theorem C7.ok(h:C7 i j):IntMulOk i j:=by
 rcases h with⟨h1,h2⟩|⟨h1,h2⟩
 ·exact .of_left (intBits_le_64 h1 h2)
 ·exact .of_right (intBits_le_64 h1 h2)
theorem ko:OpR X (yh .Add) (C9 λi j=>.int (i+j)):=DQ λ_ _ _ _ _ _ _ q=>add_int q
theorem aN:OpR X (yh .Sub) (C9 λi j=>.int (i-j)):=DQ λ_ _ _ _ _ _ _ q=>sub_int q
theorem HU:OpR X (yh .Mult) (rI C7 λi j=>.int (i*j)):=opI λ_ _ _ _ _ _ _ hc q=>mul_int q hc.ok
theorem Bj:OpR X (yh .Mod) (rI (λ_ j=>0<j) λi j=>.int (i % j)):=opI λi j _ _ _ _ _ hc q=>by have h1:(0:Int)<j:=hc;exact mod_int' (by lia) (by rw[Int.fmod_eq_emod_of_nonneg i (by lia)];exact q)
theorem NL:OpR X (yh .Pow) (rI kA λi j=>.int (i ^ j.toNat)):=opI λ_ _ _ _ _ _ _ hc q=>pow_int_small hc.1 hc.2.1 hc.2.2 q
theorem unI{f:ze->Sem ze}{g:Int->Int}
 (rule:∀(i:Int) (t:Tok) (s:zh) Q E,Q (.int (g i) s.toks) {s with toks:=s.toks+1}->zq (zz X.prog X.w) X.A (f (.int i t)) Q E s):
 UnR X f (rU λi=>.int (g i)):=by
 intro om s σ H x v Q I rx h;obtain⟨i,rfl,q⟩:=h;obtain⟨t,rfl⟩:=rx;exact rule i t s _ _ ⟨.int (g i),H,I.tok _,⟨_,rfl⟩,q⟩
theorem bc:UnR X (unaryOp .USub) (rU λi=>.int (-i)):=unI λ_ _ _ _ _ q=>neg_int q
theorem lI(I:Inv X om σ H s)(q:Q (.bl k) H)(e:k=k'):EP X om σ Q (.bool k') s:=by subst e;exact⟨.bl k,H,I,rfl,q⟩
theorem SW:OpR X (zM .LtE) (C9 λi j=>.bl (decide (i<=j))):=AJ λ_ _ _ _ _ _ _ q=>le_int q
theorem fY:OpR X (zM .Gt) (C9 λi j=>.bl (decide (j<i))):=AJ λ_ _ _ _ _ _ _ q=>gt_int q
theorem Sk:OpR X (zM .GtE) (C9 λi j=>.bl (decide (j<=i))):=AJ λ_ _ _ _ _ _ _ q=>ge_int q
theorem eT:OpR X (zM .In) (λx y H Q=>∃i j,x= .str i/\y= .str j/\Q (.bl (!(Zo j i 0 j.length 1).isEmpty)) H):=by intro om s σ H x y v u Q I rx ry h;obtain⟨i,j,rfl,rfl,q⟩:=h;obtain⟨t,rfl⟩:=rx;obtain⟨t',rfl⟩:=ry;exact in_str (lI I q rfl)
theorem ae:OpR X (zM .Is) (λx y H Q=>y= .non/\Q (.bl (decide (x= .non))) H):=by
 intro om s σ H x y v u Q I rx ry h;obtain⟨rfl,q⟩:=h
 cases ry
 refine is_none_gen (lI I q ?_)
 cases x<;>first
  |(cases rx;rfl)
  |(obtain⟨t,rfl⟩:=rx;rfl)
theorem Rv:OpR X (zM .IsNot) (λx y H Q=>y= .non/\Q (.bl (!decide (x= .non))) H):=by
 intro om s σ H x y v u Q I rx ry h;obtain⟨rfl,q⟩:=h
 cases ry
 refine isnot_none_gen (lI I q ?_)
 cases x<;>first
  |(cases rx;rfl)
  |(obtain⟨t,rfl⟩:=rx;rfl)
theorem OpR.or(h:OpR X f r)(h':OpR X f r'):OpR X f (λx y H Q=>r x y H Q\/r' x y H Q):=by
 intro om s σ H x y v u Q I rx ry q;rcases q with q|q
 ·exact h om s σ H x y v u Q I rx ry q
 ·exact h' om s σ H x y v u Q I rx ry q
theorem mU(ho:OpR X (zM op) r)(ha:PE X a ta)(hb:PE X b tb)(hm:Xj op b=false):PE X (.Compare a [op] [b] pos) (tOp r ta tb):=by intro om s σ H Q I h;exact wpAny_Compare1 (DK ha hb I h λv u s2 x y H2 I2 rx ry q=>ho om s2 σ H2 x y v u Q I2 rx ry q) hm
def qP(t:TE):TT:=λσ H Q=>t σ H λx H'=>∃k,x= .bl k/\Q k H'
theorem EV(ho:OpR X (zM op) r)(ha:PE X a ta)(hb:PE X b tb)(hm:Xj op b=false):PT X (.Compare a [op] [b] pos) (qP (tOp r ta tb)):=by
 intro om s σ H Q I h;refine wpAny_isTrue_Compare1 (thn (ha om s σ H _ I h) λv s1 ph=>ph.elim λx H1 I1 r1 q1=>thn (hb om s1 σ H1 _ I1 q1) λu s2 ph=>ph.elim λy H2 I2 r2 q2=>
  thn (ho om s2 σ H2 x y v u _ I2 r1 r2 q2) λc s3 ⟨z,H3,I3,r3,k,e,q3⟩=>?_) hm
 subst e
 cases r3
 exact yH ⟨H3,I3,q3⟩
def RP(r r':R2)(ta tb tc:TE):TE:=λσ H Q=>ta σ H λx H1=>tb σ H1 λy H2=>r x y H2 λz H3=>∃k,z= .bl k/\
 (if k=true then tc σ H3 λw' H4=>r' y w' H4 Q else Q (.bl false) H3)
theorem er(ho:OpR X (zM op) r)(ho':OpR X (zM op') r')(ha:PE X a ta)(hb:PE X b tb)(hc:PE X c tc)
 (hm:lastMarks [op,op'] [b,c]=false):PT X (.Compare a [op,op'] [b,c] pos) (qP (RP r r' ta tb tc)):=by
 intro om s σ H Q I h;refine isTrue_chain (thn (ha om s σ H _ I h) λv s1 ph=>ph.elim λx H1 I1 r1 q1=>test_link (thn (hb om s1 σ H1 _ I1 q1) λu s2 ph=>ph.elim λy H2 I2 r2 q2=>
  thn (ho om s2 σ H2 x y v u _ I2 r1 r2 q2) λd s3 ⟨z,H3,I3,r3,k,e,q3⟩=>?_)) hm
 subst e
 cases r3
 refine yH ?_
 cases k with
 |false=>
   obtain⟨k',e',q'⟩:=q3
   cases e'
   exact ite_ff ⟨H3,I3,q'⟩
 |true=>
   refine ite_tt (test_last (thn (hc om s3 σ H3 _ I3 q3) λw' s4 ⟨z',H4,I4,r4,q4⟩=>thn (ho' om s4 σ H4 y z' u w' _ I4 r2 r4 q4) λd' s5 ⟨z2,H5,I5,r5,k2,e2,q5⟩=>?_));subst e2
   cases r5
   exact yH ⟨H5,I5,q5⟩
def PK(K:zc)(x:V)(H:Hp)(k:Bool):Prop:=
 match x with
 | .non=>k=false
 | .bl b=>k=b
 | .int i=>k= (i != 0)
 | .str y=>y.length<=zi/\k= ((y.length:Int) != 0)
 | .byt y=>y.size<=zi/\k= ((y.size:Int) != 0)
 | .ref p=>(∃xs,SqL K H p xs/\k= !xs.isEmpty)\/(∃xs,SqT K H p xs/\k= !xs.isEmpty)\/∃oq,H p=some (.dK oq)/\k= !oq.isEmpty
 |_=>False
theorem ma(r:KV oq vs):(!vs.isEmpty)= !oq.isEmpty:=by
 cases r<;>rfl
theorem RQ(r:m6 xs ou):(!ou.toArray.isEmpty)= !xs.isEmpty:=by
 cases r<;>simp
theorem pC:(zi:Nat)<2 ^ 63:=by rw[yF];decide
theorem QI:bY X (λx H Q=>∃k,PK X.K x H k/\Q k H):=by
 intro om s σ H x v Q I rx h;obtain⟨k,e,q⟩:=h;have hl:=pC;have hs:zi=16777216:=yF
 cases x with
 |non=>
   cases rx
   have e':k=false:=e;subst e';exact truthy_none ⟨H,I,q⟩
 |bl b=>
   cases rx
   have e':k=b:=e;subst e';exact yH ⟨H,I,q⟩
 |int i=>
   obtain⟨t,rfl⟩:=rx;have e':k= (i != 0):=e;subst e';exact PySem.P.truthy_int ⟨H,I,q⟩
 |str y=>
   obtain⟨t,rfl⟩:=rx;obtain⟨hy,e'⟩:y.length<=zi/\k= ((y.length:Int) != 0):=e;subst e';exact PySem.P.truthy_str (by lia) ⟨H,I.tok _,q⟩
 |byt y=>
   obtain⟨t,rfl⟩:=rx;obtain⟨hy,e'⟩:y.size<=zi/\k= ((y.size:Int) != 0):=e;subst e';exact PySem.W.truthy_bytes (by lia) ⟨H,I.tok _,q⟩
 |ref p=>
   cases rx
   have e':(∃xs,SqL X.K H p xs/\k= !xs.isEmpty)\/(∃xs,SqT X.K H p xs/\k= !xs.isEmpty)\/∃oq,H p=some (.dK oq)/\k= !oq.isEmpty:=e;rcases e' with⟨xs,hx,e'⟩|⟨xs,hx,e'⟩|⟨oq,hx,e'⟩
   ·subst e';obtain⟨ou,r,pl,hz⟩:=I.list hx;have ow:=r.length;exact wpAny_truthy_list pl.isList (by simp only[zn];lia) ⟨H,I.tok _,by rw[RQ r];exact q⟩
   ·subst e';obtain⟨ou,r,pl,hz⟩:=I.tuple hx;have ow:=r.length;exact truthy_tuple pl (by simp only[zn];lia) ⟨H,I.tok _,by rw[RQ r];exact q⟩
   ·subst e';obtain⟨hz,hS,vs,r,m⟩:oq.length<=zi/\(p==xU)=false/\∃vs,KV oq vs/\s.heap.DictOf (O1 X.prog X.w) p vs:=I.hok p _ hx;have ow:oq.length=vs.length:=xH r;exact wpAny_truthy_dict hS m (by lia) ⟨H,I.tok _,by rw[ma r];exact q⟩
 |_=>exact(show False from e).elim
theorem lg(ha:PE X a ta)(he:∀whole,isTrue a X.env whole= (do let v <-whole;standAt a.pos;holding [v] (truthy v))):
 PT X a (λσ H Q=>ta σ H λx H'=>∃k,PK X.K x H' k/\Q k H'):=by
 intro om s σ H Q I h;exact isTrue_plain (thn (ha om s σ H _ I h) λv s1 ph=>ph.elim λx H1 I1 r1 q1=>QI om s1 σ H1 x v Q I1 r1 q1) (he _)
theorem OX:OpR X (yh .Add) (λx y H Q=>∃i j,x= .str i/\y= .str j/\i.length+j.length<=zi/\Q (.str (i++j)) H):=by intro om s σ H x y v u Q I rx ry h;obtain⟨i,j,rfl,rfl,hz,q⟩:=h;obtain⟨t,rfl⟩:=rx;obtain⟨t',rfl⟩:=ry;exact add_str (λt' tk=>⟨.str (i++j),H,I.tok _,⟨_,rfl⟩,q⟩) hz
theorem S3(r:m6 [x] us):∃u,us= [u]/\u5 x u:=by
 cases r with
 |cons r1 r2=>cases r2;exact⟨_,rfl,r1⟩
theorem CA(r:m6 [x,y] us):∃u w',us= [u,w']/\u5 x u/\u5 y w':=by
 cases r with
 |cons r1 r2=>
   cases r2 with
   |cons r3 r4=>cases r4;exact⟨_,_,rfl,r1,r3⟩
theorem cb:R7 X (.builtin "abs") (λxs H Q=>∃i,xs= [.int i]/\Q (.int (if i<0 then -i else i)) H):=by intro om s σ H xs us Q I r h;obtain⟨i,rfl,q⟩:=h;obtain⟨u,rfl,t,rfl⟩:=S3 r;exact call_abs_int λu tk=>⟨.int (if i<0 then -i else i),H,I.tok _,⟨_,rfl⟩,q⟩
theorem Kz(hc:X.calm=true):R7 X (.builtin "min") (λxs H Q=>∃i j,xs= [.int i,.int j]/\Q (.int (if j<i then j else i)) H):=by
 intro om s σ H xs us Q I r h;obtain⟨i,j,rfl,q⟩:=h;obtain⟨u,w',rfl,⟨t,rfl⟩,⟨t',rfl⟩⟩:=CA r;refine min_two_ints (I.ok.hd hc) λh' tk k=>⟨_,H,I.kept k,?_,q⟩;by_cases hj:j<i
 ·rw[if_pos hj,if_pos hj];exact⟨_,rfl⟩
 ·rw[if_neg hj,if_neg hj];exact⟨_,rfl⟩
theorem fU:R7 X (.type "int") (λxs H Q=>(∃i,xs= [.int i]/\Q (.int i) H)\/∃k,xs= [.bl k]/\Q (.int (if k then 1 else 0)) H):=by
 intro om s σ H xs us Q I r h;rcases h with⟨i,rfl,q⟩|⟨k,rfl,q⟩
 ·obtain⟨u,rfl,t,rfl⟩:=S3 r;exact call_int_int ⟨.int i,H,I,⟨_,rfl⟩,q⟩
 ·obtain⟨u,rfl,r1⟩:=S3 r
  cases r1
  exact call_int_bool ⟨.int (if k then 1 else 0),H,I.tok _,⟨_,rfl⟩,q⟩
end
structure ObjM(h:Heap)(x dx C:Addr)(mA:Str->Option ze):Prop where
 obj:h.get? x=some (PySem.W.instObj C dx)
 ns:h.Ns1 dx mA
 ne:dx≠x
section
variable{prog:zB}{w:zI}{A:zL}{E:VSP}{s:zh}{K:zc}{x dx C f:Addr}{mA:Str->Option ze}{name:Str}{v:ze}
end
theorem P6.some_of(r:P6 (some v) o):∃u,o=some u/\u5 v u:=by
 cases o with
 |none=>exact(show False from r).elim
 |some u=>exact⟨u,rfl,r⟩
section
end
structure Cls(K:zc)(C:Addr):Prop where
 pg:PySem.W.plainGet K C Str.empty=true
 hd:PySem.W.hasDictIn K C=true
 po:PySem.W.plainOver K C=true
 sa:jx K (.ref C) "__setattr__" =some (some (.builtin "object.__setattr__"))
theorem Cls.get{K:zc}(c:Cls K C)(f:Str):PySem.W.plainGet K C f=true:=c.pg
structure Con(K:zc)(C:Addr)(f:Str)(v:V)(u:ze):Prop where
 at_:jx K (.ref C) f=some (some u)
 rel:u5 v u
 get:JW K u "__get__" =some none
 cp:PySem.W.copiedNames.contains f=false
structure Meth(K:zc)(C:Addr)(m:Str)(f:Addr):Prop where
 at_:jx K (.ref C) m=some (some (.ref f))
 fn:PySem.W.isFn K (.ref f)=true
 kp:jU K (.ref f)=true
section
inductive r6(K:zc)(H:Hp):V->ze->Prop where
|non:r6 K H .non (.type "NoneType")
|bl (x:Bool):r6 K H (.bl x) (.type "bool")
|int (i:Int):r6 K H (.int i) (.type "int")
|str (x:Str):r6 K H (.str x) (.type "str")
|flt (x:UInt64):r6 K H (.flt x) (.type "float")
|lst {a:Addr} {xs:List V} (e:H a=some (.lst xs)):r6 K H (.ref a) (.type "list")
|frz {a:Addr} {o:Obj} {xs:List V} (e:H a=some (.frz o (.lst xs))):r6 K H (.ref a) (.type "list")
|tup {a:Addr} {xs:List V} (e:H a=some (.tup xs)):r6 K H (.ref a) (.type "tuple")
|dK {a:Addr} {oq:List (Key×V)} (e:H a=some (.dK oq)):r6 K H (.ref a) (.type "dict")
|dT {a:Addr} {oq:List (List Key×V)} (e:H a=some (.dT oq)):r6 K H (.ref a) (.type "dict")
|ins {a C dx:Addr} {fs:List (Str×V)} (e:H a=some (.ins C dx fs)) (cl:Cls K C) (ha:jx K (.ref C) "__class__" =some (some (.builtin "object.__class__")))
   (hn:JW K (.builtin "object.__class__") "__get__" =some (some (.builtin "getset_descriptor.__get__"))) (htk:PySem.W.takesIn K (.builtin "object.__class__")=some true)
   (hm:jB K C (.type "object")=some true):r6 K H (.ref a) (.ref C)
end
structure K8(k:Nat)(A:zL):Prop where
 hd:A.handled=none
 dp:A.depth+3*k+5<recursionLimit
 un:A.units+16*k+200<xL
 gd:A.guards=some []
theorem K8.mono(r:K8 k A)(h:j<=k):K8 j A:=⟨r.hd,by have:=r.dp;lia,by have:=r.un;lia,r.gd⟩
theorem K8.deeper(r:K8 (k+1) A)(env:Env):K8 k (A.deeper env):=
 ⟨r.hd,by have:=r.dp;show A.depth+1+3*k+5<_;lia,by have:=r.un;show A.units+3+16*k+200<_;lia,r.gd⟩
theorem K8.in1(r:K8 (k+1) A):K8 k A.in1:=
 ⟨r.hd,by have:=r.dp;show A.depth+3*k+5<_;lia,by have:=r.un;show A.units+1+16*k+200<_;lia,r.gd⟩
theorem K8.depth(r:K8 k A):A.depth<recursionLimit:=by have:=r.dp;lia
theorem K8.units(r:K8 k A):A.units+64<xL:=by have:=r.un;lia
def KF:TA:=λ_ H Q=>Q [] H
def eC(ta:TE)(tr:TA):TA:=λσ H Q=>ta σ H λx H1=>tr σ H1 λxs H2=>Q (x::xs) H2
section
theorem HB:PA X [] KF:=λ_ _ _ _ H Q I h=>Calls.spliced_nil ⟨[],H,I,.nil,h⟩
theorem T4(ha:PE X e te)(hr:PA X es t)(hs:zC (e::es) X.env= (false,eval e X.env)::zC es X.env):PA X (e::es) (eC te t):=by intro pos om s σ H Q I h;rw[hs];show zq _ _ (spliced ((false,eval e X.env)::yo pos (zC es X.env))) _ _ s;refine Calls.spliced_cons (thn (ha om s σ H _ I h) λu s1 ph=>ph.elim λx H1 I1 r1 q1=>?_);exact thn (hr pos om s1 σ H1 _ I1 q1) λus s2 ph=>ph.elim λxs H2 I2 r2 q2=>⟨x::xs,H2,I2,.cons r1 r2,q2⟩
def pR(t:TA):TE:=λσ H Q=>t σ H λxs H1=>xs.length<=zi/\∀p,H1 p=none->Q (.ref p) (upd H1 p (.tup xs))
def Nw(t:TA):TE:=λσ H Q=>t σ H λxs H1=>xs.length<=zi/\∀p,H1 p=none->Q (.ref p) (upd H1 p (.lst xs))
theorem rP{x1}(h:PA X es t):PE X (.Tuple es x1 pos) (pR t):=by intro om s σ H Q I hq;refine wpAny_Tuple_spliced (thn (h pos om s σ H _ I hq) λus s1 ⟨xs,H1,I1,r,z,q⟩=>⟨by rw[<-r.length];exact z,?_⟩);have hf:H1 s1.heap.objs.size=none:=I1.hok.fresh (zg _);refine⟨.ref s1.heap.objs.size,upd H1 s1.heap.objs.size (.tup xs),I1.laid (t':=s1.toks) (λb u e=>zf _ e) (zg _) ?_,rfl,q _ hf⟩;exact⟨z,us,r,⟨_,zy _ rfl,rfl,_,rfl⟩⟩
theorem GJ(h:PA X es t):PE X (.List es pos) (Nw t):=by intro om s σ H Q I hq;refine wpAny_List_spliced (thn (h pos om s σ H _ I hq) λus s1 ⟨xs,H1,I1,r,z,q⟩=>⟨by rw[<-r.length];exact z,?_⟩);have hf:H1 s1.heap.objs.size=none:=I1.hok.fresh (zg _);refine⟨.ref s1.heap.objs.size,upd H1 s1.heap.objs.size (.lst xs),I1.laid (t':=s1.toks) (λb u e=>zf _ e) (zg _) ?_,rfl,q _ hf⟩;exact⟨z,us,0,r,zy _ rfl⟩
end
abbrev Sp:=List V->Hp->VK->XK->Prop
abbrev CXT:=List Env->Hp->zh->XK->VSP
structure UB(P:zB)(w:zI)(K:zc)(mg:Str->Option ze)(base:Heap)(A:zL)(outer:List Env)(s:zh)(H:Hp):Prop where
 frames:A.frames=some outer
 mod:Mod K mg base
 bs:∀b o,base.get? b=some o->s.heap.get? b=some o/\H b=none
 bsz:base.objs.size<=s.heap.objs.size
 funs:s.heap.FunFrames base outer
 frf:∀b∈frs outer,H b=none
 hok:HOk P w H s.heap
 bare:ZI s.gens
def CE(outer:List Env)(P:zB)(w:zI)(H:Hp)(s:zh)(Q:VK)(u:ze)(s':zh):Prop:=
 ∃v H',s'.os=s.os/\ZI s'.gens/\Un (frs outer) [] H H' s.heap s'.heap/\HOk P w H' s'.heap/\u5 v u/\Q v H'
def CR(CX:CXT)(outer:List Env)(P:zB)(w:zI)(H:Hp)(s:zh)(Q:VK)(E:XK)(r:Jl)(s':zh):Prop:=
 match r with
 | .ok (.ret u)=>CE outer P w H s Q u s'
 | .ok _=>False
 | .error e=>CX outer H s E e s'
structure V2(P:zB)(w:zI)(K:zc)(mg:Str->Option ze)(base:Heap)(CX:CXT)(k:Nat)(f:Addr)(fd:xm)(ps:List Str)(sp:Sp):Prop where
 len:∀vs H Q E,sp vs H Q E->vs.length=ps.length
 run:∀(A:zL) (outer:List Env) (s:zh) (H:Hp) (args:Args) (us:List ze) (vs:List V) (Q:VK) (E:XK),K8 k A->UB P w K mg base A outer s H->Yy s fd args (ps.zip us)->m6 vs us->sp vs H Q E->
  ZC (zz P w) A (.call (.ref f) args) (CR CX outer P w H s Q E) s
theorem V2.mono{P:zB}{w:zI}{K:zc}{base:Heap}{CX:CXT}{j k:Nat}{f:Addr}{fd:xm}{ps:List Str}{sp:Sp}(F:V2 P w K mg base CX j f fd ps sp)(h:j<=k):
 V2 P w K mg base CX k f fd ps sp:=⟨F.len,λA outer s H args us vs Q E hr=>F.run A outer s H args us vs Q E (hr.mono h)⟩
theorem V2.imp{P:zB}{w:zI}{K:zc}{base:Heap}{CX:CXT}{k:Nat}{f:Addr}{fd:xm}{ps:List Str}{sp sp':Sp}(F:V2 P w K mg base CX k f fd ps sp)
 (h:∀vs H Q E,sp' vs H Q E->sp vs H Q E):V2 P w K mg base CX k f fd ps sp':=
 ⟨λvs H Q E q=>F.len vs H Q E (h _ _ _ _ q),λA outer s H args us vs Q E hr he hb hv hs=>F.run A outer s H args us vs Q E hr he hb hv (h _ _ _ _ hs)⟩
theorem UB.in1{P:zB}{w:zI}{K:zc}{base:Heap}{A:zL}{outer:List Env}{s:zh}{H:Hp}(e:UB P w K mg base A outer s H):
 UB P w K mg base A.in1 outer s H:=⟨e.frames,e.mod,e.bs,e.bsz,e.funs,e.frf,e.hok,e.bare⟩
section
theorem Inv.env0(I:Inv X om σ H s):UB X.prog X.w X.K X.mg X.base X.A X.stack s H:=
 ⟨I.ok.frames,I.ok.mod,I.bs,jc I.ok.bsz I.sz,I.stack,I.stkFree,I.hok,I.bare⟩
theorem Inv.after(I:Inv X om σ H s)(h:CE X.stack X.prog X.w H s Q u s'):EP X om σ Q u s':=by obtain⟨v,H',os,bare,un,hok,r,q⟩:=h;obtain⟨hh,g,d,t,os'⟩:=s';obtain rfl:os'=s.os:=os;exact⟨v,H',I.call (h':=hh) (g':=g) (d':=d) (t':=t) (ch:= []) un hok bare (λb z=>absurd z (by simp)),r,q⟩
end
def MN(sp:Sp)(dvs:List V)(E:XK)(t:TA):TE:=λσ H Q=>t σ H λvs H1=>sp (vs++dvs) H1 Q E
def y4(K:zc)(fd:xm)(ps:List Str)(ds:List ze):Prop:=
 ∀(s:zh) (us:List ze),K.In s.heap->(us++ds).length=ps.length->Yy s fd ⟨us, []⟩ (ps.zip (us++ds))
theorem y4.all{K:zc}{ps:List Str}(h:∀us:List ze,us.length=ps.length->bindArgs fd ⟨us, []⟩=pure (ps.zip us)):y4 K fd ps []:=λs us _ hl=>by rw[ji]at hl ⊢;exact .of_eq (h us hl)
def GC(CX:CXT)(X:Cx)(E:XK):Prop:=∀(om:PNS) (σ:St) (H:Hp) (s:zh) (e:ze) (s':zh),Inv X om σ H s->CX X.stack H s E e s'->X.xe e s'
section
theorem TD(F:V2 X.prog X.w X.K X.mg X.base CX k f fd ps sp)(hr:K8 k X.A)(hb:y4 X.K fd ps ds)(hd:m6 dvs ds)(hx:GC CX X E)
 (I:Inv X om σ H s) (r:m6 vs us) (h:sp (vs++dvs) H Q E):zq (zz X.prog X.w) X.A (call (.ref f) us) (EP X om σ Q) X.xe s:=by
 have r2:m6 (vs++dvs) (us++ds):=r.append hd;have hl:(us++ds).length=ps.length:=by rw[<-r2.length];exact F.len _ _ _ _ h
 refine wpAny_call (XB (F.run X.A X.stack s H ⟨us, []⟩ (us++ds) (vs++dvs) Q E hr I.env0 (hb s us I.kIn hl) r2 h) λr s' hq=>?_)
 cases r with
 |error e=>exact hx om σ H s e s' I hq
 |ok fl=>
   cases fl with
   |ret u=>exact I.after hq
   |next=>exact yc hq
   |brk=>exact yc hq
   |cont=>exact yc hq
theorem QM(F:V2 X.prog X.w X.K X.mg X.base CX k f fd ps sp)(hr:K8 k X.A)(hg:Gl X x)(hm:X.mg x=some (.ref f))(hk:jU X.K (.ref f)=true)(hb:y4 X.K fd ps ds)(hd:m6 dvs ds)(hx:GC CX X E)
 (ha:PA X (e::es) t) (hdb:(x==("__debug__" :Str))=false) (he:zC (e::es) X.env= (false,eval e X.env)::zC es X.env) (qu:(yo pos (zC es X.env)).any (·.1)=false):
 PE X (.Call (.Name x p) (e::es) [] pos) (MN sp dvs E t):=by
 intro om s σ H Q I h;refine yB (U9 I hg hm ?_ hdb);refine Zk (h₀:=X.base) I.ok.mod.kin hk (thn (ha pos om s σ H _ I h) λus s1 ph=>ph.elim λvs H1 I1 r q=>⟨I1.kIn,?_⟩) he qu;exact TD F hr hb hd hx I1 r q
theorem pV(F:V2 X.prog X.w X.K X.mg X.base CX k f fd ps sp)(hr:K8 k X.A)(hg:Gl X x)(hm:X.mg x=some (.ref f))(hk:jU X.K (.ref f)=true)(hb:y4 X.K fd ps ds)(hd:m6 dvs ds)(hx:GC CX X E)
 (hdb:(x==("__debug__" :Str))=false):PE X (.Call (.Name x p) [] [] pos) (MN sp dvs E KF):=by
 intro om s σ H Q I h;refine yB (U9 I hg hm ?_ hdb);exact PySem.W.callWith_K0 I.kIn hk (TD (us:= []) F hr hb hd hx I .nil h)
structure Mk(K:zc)(C f:Addr):Prop where
 makes:PySem.W.makesIn K C=true
 init:jx K (.ref C) "__init__" =some (some (.ref f))
 fn:PySem.W.isFn K (.ref f)=true
 kp:jU K (.ref C)=true
structure KBinds(K:zc)(fd:xm)(ps ks:List Str)(g:List ze->List ze->List ze)(gV:List V->List V->List V):Prop where
 to:∀(s:zh) (us ws:List ze),K.In s.heap->(g us ws).length=ps.length->Yy s fd ⟨us,ks.zip ws⟩ (ps.zip (g us ws))
 rel:∀ {vs:List V} {us:List ze} {zs:List V} {ws:List ze},m6 vs us->m6 zs ws->m6 (gV vs zs) (g us ws)
end
structure M4(N P:List Str)(sc:Scope):Prop where
 kind:sc.kind= .function
 co:sc.isCoroutine=false
 gen:sc.isGenerator=false
 nd:N.Nodup
 pre:N.take P.length=P
 par:∀x∈P,sc.names.lookup x=some .local\/sc.names.lookup x=some .cell
 nofree:∀y∈sc.names,y.2≠ .free
theorem UO{xn:Str->Option NameKind}{x:Str}:∀ {binds} {m:Str->Option ze},(∀v,(x,v)∉binds)->bindL xn binds m x=m x
|[],_,_=>rfl
|(n,v)::r,m,h=>by
 unfold bindL;rw[UO λw hw=>h w (zP _ hw)];split
 ·have:x≠n:=by rintro rfl;exact h v jo
  simp[this]
 ·rfl
theorem lM{xn:Str->Option NameKind}{x:Str}:∀ {binds} {m:Str->Option ze},(∀v,(x,v)∉binds)->bindC xn binds m x=m x
|[],_,_=>rfl
|(n,v)::r,m,h=>by
 unfold bindC;rw[lM λw hw=>h w (zP _ hw)];split
 ·rfl
 ·have:x≠n:=by rintro rfl;exact h v jo
  simp[this]
theorem TM{xn:Str->Option NameKind}{x:Str}{v:ze}:∀ {P:List Str} {vs:List ze} {i:Nat} {m},P.Nodup->P[i]? =some x->vs[i]? =some v->xn x=some .local->
 bindL xn (P.zip vs) m x=some v
 |[],_,_,_,_,h,_,_=>by simp at h
 |_::_, [],_,_,_,_,h,_=>by simp at h
 |p::P,w::vs,0,m,nd,h1,h2,hk=>by simp at h1 h2;subst h1;subst h2;show bindL xn ((p,w)::P.zip vs) m p=_;unfold bindL;rw[UO λv hv=>(Yi.mp nd).1 (Yh hv).1,if_pos hk];simp
 |p::P,w::vs,i+1,m,nd,h1,h2,hk=>by show bindL xn ((p,w)::P.zip vs) m x=_;unfold bindL;exact TM (i:=i) (Yi.mp nd).2 (by simpa using h1) (by simpa using h2) hk
theorem sS{xn:Str->Option NameKind}{x:Str}{v:ze}:∀ {P:List Str} {vs:List ze} {i:Nat} {m},P.Nodup->P[i]? =some x->vs[i]? =some v->xn x≠some .local->
 bindC xn (P.zip vs) m x=some v
 |[],_,_,_,_,h,_,_=>by simp at h
 |_::_, [],_,_,_,_,h,_=>by simp at h
 |p::P,w::vs,0,m,nd,h1,h2,hk=>by simp at h1 h2;subst h1;subst h2;show bindC xn ((p,w)::P.zip vs) m p=_;unfold bindC;rw[lM λv hv=>(Yi.mp nd).1 (Yh hv).1,if_neg hk];simp
 |p::P,w::vs,i+1,m,nd,h1,h2,hk=>by show bindC xn ((p,w)::P.zip vs) m x=_;unfold bindC;exact sS (i:=i) (Yi.mp nd).2 (by simpa using h1) (by simpa using h2) hk
def start(N:List Str)(vs:List V):St:=vs.map some++jE (N.length-vs.length) none
def U5(CX:CXT)(P:zB)(w:zI)(K:zc)(mg:Str->Option ze)(base:Heap)(N:List Str)(qual:Str)(scope:Scope)(f:Addr)(cd:ze)(A:zL)(outer:List Env)(s:zh)(H:Hp)(E:XK):Cx where
 prog:=P
 w:=w
 K:=K
 mg:=mg
 base:=base
 A:=A.deeper (yb qual scope s.heap.objs.size f cd)
 N:=N
 WY:=s
 H₀:=H
 env:=yb qual scope s.heap.objs.size f cd
 outer:=outer
 stack:=yb qual scope s.heap.objs.size f cd::outer
 ex:= []
 calm:=true
 fn:=λ_=>true
 pn:= []
 xe:=λe s'=>zq (zz P w) (A.deeper (yb qual scope s.heap.objs.size f cd)) (YU (yb qual scope s.heap.objs.size f cd) e) (λ_ s''=>CX outer H s E e s'') (λe' s''=>CX outer H s E e' s'') s'
theorem EO{sc:Scope}{x:Str}(h:sc.names.lookup x=some .cell):∃c,(cellsFrom n sc.names []).lookup x=some c:=by have q:=Jc sc.names n [] (.inl h);exact yn.mp q
theorem rZ{CX:CXT}{P:zB}{w:zI}{K:zc}{mg:Str->Option ze}{base:Heap}{N ps:List Str}{qual:Str}{scope:Scope}{f:Addr}{cd:ze}{A:zL}{outer:List Env}{s s1:zh}{H:Hp}{E:XK}{us:List ze}{vs:List V}
 (S:M4 N ps scope) (hd:A.handled=none) (gd:A.guards=some []) (e0:UB P w K mg base A outer s H) (hl:vs.length=ps.length) (r:m6 vs us)
 (x:InCallC s s.heap.objs.size (bindL (yb qual scope s.heap.objs.size f cd).kindOf (ps.zip us) λ_=>none) (cellsFrom (s.heap.objs.size+1) scope.names []) (bindC (yb qual scope s.heap.objs.size f cd).kindOf (ps.zip us) λ_=>none) s1):
 Inv (U5 CX P w K mg base N qual scope f cd A outer s H E) [] (start N vs) H s1:=by
 have qu:ps.length<=N.length:=by have:=congrArg List.length S.pre;rw[jL]at this;lia
 obtain⟨h1,tk,rfl,hk⟩:=x.done;have noA:∀b:Addr,b∉(U5 CX P w K mg base N qual scope f cd A outer s H E).ex:=λb z=>absurd (show b∈([]:List Addr)from z) (by simp);refine⟨⟨e0.mod,S.kind,rfl,rfl,zg _,λy z c h1 h2=>?_,λy hy=>?_,λy c _ h=>?_,λ_=>hd,Around.frames_deeper e0.frames,.inr ⟨rfl,rfl⟩,λb z=>absurd z (noA b),e0.bs,e0.bsz,λb _ _=>noA b,λb z=>absurd z (noA b),e0.funs,e0.frf,gd⟩,
  rfl,e0.bare,Un.kept hk,⟨_,x.toInCall.ns,λi y v h1 h2 h3=>?_⟩,λy c h=>⟨_,x.cell y c h⟩,e0.hok.fresh (zg _),λy c h=>?_,λp hp=>absurd (show p∈([]:PNS)from hp) (by simp),e0.hok.kept hk,?_⟩
 ·exact name_of_addr x.apart (xb h1) (xb h2)
 ·have hy:scope.names.lookup y=some .cell\/scope.names.lookup y=some .free:=hy;rcases hy with hy|hy
  ·exact EO hy
  ·exact absurd rfl (S.nofree _ (xb hy))
 ·exact Zq (x.above y c (xb h))
 ·have hi:i<vs.length:=by
   unfold start at h2;by_cases hi:i<vs.length
   ·exact hi
   ·rw[ye (by simpa using hi)]at h2;rw[JA]at h2;split at h2<;>cases h2
  have ha:vs[i]? =some v:=by
   unfold start at h2;rw[zA (by simpa using hi),jW]at h2
   cases e:vs[i]? with
   |none=>rw[e]at h2;cases h2
   |some a=>rw[e]at h2;cases h2;rfl
  obtain⟨u,hu,rv⟩:=r.get ha;have hp:ps[i]? =some y:=by rw[<-S.pre,Ju (by lia)];exact h1
  have ndP:ps.Nodup:=by rw[<-S.pre];exact S.nd.sublist (List.take_sublist _ _)
  refine⟨u,rv,?_⟩;rcases S.par y (yA hp)with k|k
  ·exact .inl ⟨k,TM ndP hp hu k⟩
  ·obtain⟨c,e⟩:=EO (n:=s.heap.objs.size+1) k;refine .inr ⟨.inl k,c,e,?_⟩;have q:=x.cell y c e;rw[sS ndP hp hu (by show scope.names.lookup y≠_;rw[k];decide)]at q;exact q
 ·exact e0.hok.fresh (Zq (x.above y c (xb h)))
 ·unfold start;show _=N.length;rw[zd,zE,List.length_replicate];lia
theorem vP{CX:CXT}{P:zB}{w:zI}{K:zc}{mg:Str->Option ze}{base:Heap}{k:Nat}{f:Addr}{name qual:Str}{params:Arguments}{body:List Stmt}{scope:Scope}{dV kV doc pm pq ct oc:ze}{an od:Option Addr}
 {N ps:List Str} {sp:Sp} (lk:K.lookup f=some ⟨oc,od,.func (yG name qual params body scope dV kV doc pm an pq ct),osl⟩) (hcd:Zj K pq qual=true) (S:M4 N ps scope)
 (len:∀vs H Q E,sp vs H Q E->vs.length=ps.length)
 (hbody:∀(A:zL) (outer:List Env) (s:zh) (H:Hp) (vs:List V) (Q:VK) (E:XK),K8 k (A.deeper (yb qual scope s.heap.objs.size f pq))->sp vs H Q E->
   ∃t,PSs (U5 CX P w K mg base N qual scope f pq A outer s H E) body t/\t {nx:=λ_ H'=>Q .non H',rt:=Q} (start N vs) H):
 V2 P w K mg base CX (k+1) f (yG name qual params body scope dV kV doc pm an pq ct) ps sp:=by
 refine⟨len,λA outer s H args us vs Q E hr e0 hb r hsp=>?_⟩;have hl:=len _ _ _ _ hsp;have KX:K.In s.heap:=e0.mod.kin.keeps λb o e=>(e0.bs b o e).1;have lim:s.heap.NoLimit:=e0.mod.nolimit.keeps λb o e=>(e0.bs b o e).1;have hkind:∀y∈ps.zip us,scope.names.lookup y.1=some .local\/(scope.names.lookup y.1=some .cell/\((cellsFrom (s.heap.objs.size+1) scope.names []).lookup y.1).isSome=true):=fun⟨n,v⟩ hy=>by
  rcases S.par n (Yh hy).1 with q|q
  ·exact .inl q
  ·exact .inr ⟨q,Jc _ _ _ (.inl q)⟩
 refine codeAny_call_function hr.depth (KX _ _ lk) rfl S.co S.gen rfl (PySem.W.codeRec_of KX hcd) (hb _ _ _ _ ?_);refine wpAny_newFunctionEnv_cells S.kind hkind λenv he s1 x=>?_;subst he;refine⟨lim.keeps x.toInCall.keep,codeAny_func ?_⟩;obtain⟨t,ht,hq⟩:=hbody A outer s H vs Q E (hr.deeper _) hsp;have I:Inv (U5 CX P w K mg base N qual scope f pq A outer s H E) [] (start N vs) H s1:=rZ S hr.hd hr.gd e0 hl r x;refine jg (ht [] s1 (start N vs) H _ I hq) (λfl s' hs=>?_) λe s' hs=>hs;have fin:∀ {X1:St} {H':Hp} {v:V} {u:ze},Inv (U5 CX P w K mg base N qual scope f pq A outer s H E) [] X1 H' s'->u5 v u->Q v H'->CE outer P w H s Q u s':=
  λ{X1 H' v u} J rv q=>⟨v,H',J.os,J.bare,J.base,J.hok,rv,q⟩
 cases fl with
 |ret u=>
   obtain⟨v,X1,H',J,rv,q⟩:=hs;exact fin J rv q
 |next=>
   obtain⟨X1,H',J,q⟩:=hs;exact fin (v:=V.non) (u:=Value.none) J rfl q
 |brk=>
   obtain⟨_,_,_,q⟩:=hs;exact yc q
 |cont=>
   obtain⟨_,_,_,q⟩:=hs;exact yc q
section
variable{X:Cx}{x:Str}{p pos:Pos}{e:Expr}{es:List Expr}{t:TA}{id T:String}{r:List V->Hp->VK->Prop}
def tCB(r:List V->Hp->VK->Prop)(t:TA):TE:=λσ H Q=>t σ H λvs H1=>r vs H1 Q
theorem FK(hc:R7 X (.builtin id) r)(hg:Gl X x)(hm:X.mg x=none)(hv:zU x=some (.builtin id))(ha:PA X (e::es) t)(hn:x≠ "__name__")(hdb:(x==("__debug__" :Str))=false)
 (he:zC (e::es) X.env= (false,eval e X.env)::zC es X.env) (qu:(yo pos (zC es X.env)).any (·.1)=false):PE X (.Call (.Name x p) (e::es) [] pos) (tCB r t):=by
 intro om s σ H Q I h;refine yB (kC I hg hm hv ?_ hn hdb);exact PyProof.Rows.callWith_builtin1 (thn (ha pos om s σ H _ I h) λus s1 ph=>ph.elim λvs H1 I1 r1 q1=>hc om s1 σ H1 vs us Q I1 r1 q1) he qu
theorem uY(hc:R7 X (.type T) r)(hg:Gl X x)(hm:X.mg x=none)(hv:zU x=some (.type T))(ha:PA X (e::es) t)(hn:x≠ "__name__")(hdb:(x==("__debug__" :Str))=false)
 (he:zC (e::es) X.env= (false,eval e X.env)::zC es X.env) (qu:(yo pos (zC es X.env)).any (·.1)=false):PE X (.Call (.Name x p) (e::es) [] pos) (tCB r t):=by
 intro om s σ H Q I h;refine yB (kC I hg hm hv ?_ hn hdb);exact xY (thn (ha pos om s σ H _ I h) λus s1 ph=>ph.elim λvs H1 I1 r1 q1=>hc om s1 σ H1 vs us Q I1 r1 q1) he qu
end
end L2
namespace HT
open PySem PyProof.Rows
section
open PySem.SeqAt
open PySem.AutoSeq1 (wpAny_loadPart')
open PySem.MeetsSeq PySem.MeetsSeq2 PySem.MeetsSeq3
end
section
theorem cat_tup(ht:Yr s.heap t vs.toArray)(hb:Yr s.heap b ws.toArray)(hv:vs≠ [])
 (h1:ws= []->Q (.ref t) s) (h2:ws≠ []->Q (.ref s.heap.objs.size) {s with heap:=s.heap.push {cls:=.type "tuple",data:=.seq (vs++ws).toArray}})
 (hsz:vs.length+ws.length<=zi):zq (zz prog w) A (yh .Add (.ref t) (.ref b)) Q E s:=by
 obtain⟨⟨cls,dd,data,sl⟩,ho,hc,n,hd⟩:=id ht;obtain⟨⟨cls2,dd2,data2,sl2⟩,ql,hc2,n2,hd2⟩:=id hb;simp only at hc hd hc2 hd2;subst hc hd hc2 hd2;have e:vs.toArray++ws.toArray= (vs++ws).toArray:=by simp
 by_cases hw:ws= []
 ·exact concat_meets ⟨_,ho,rfl⟩ ⟨_,ql,rfl⟩ Jb seq_tuple_add ZL ZH (Zw _ _)
   (tuple_addW1 t b vs.toArray ws.toArray n n2 dd dd2 sl sl2 (by simpa using hv) (by simp[hw])) ⟨ho,ql,h1 hw⟩
 ·refine concat_meets ⟨_,ho,rfl⟩ ⟨_,ql,rfl⟩ Jb seq_tuple_add ZL ZH (Zw _ _)
   (tuple_addW2 t b vs.toArray ws.toArray n n2 dd dd2 sl sl2 (by simpa using hv) (by simpa using hw) (by rw[zn,zn];exact hsz)) ⟨ho,ql,?_⟩
  rw[e];exact h2 hw
def sIx(n d:Nat):Option Int->Nat
|none=>d
|some v=>if v<0 then (v+(n:Int)).toNat else min v.toNat n
theorem sIx_none(n d:Nat):sIx n d none=d:=rfl
theorem sIx_nat(n d k:Nat):sIx n d (some (k:Int))=min k n:=by show (if (k:Int)<0 then ((k:Int)+(n:Int)).toNat else min (k:Int).toNat n)=min k n;rw[if_neg (by lia),xW]
theorem SS(n d:Nat)(hd:d<=n)(o:Option Int):sIx n d o<=n:=by
 cases o with
 |none=>exact hd
 |some v=>
   show (if v<0 then (v+(n:Int)).toNat else min v.toNat n)<=n;by_cases hv:v<0
   ·rw[if_pos hv];lia
   ·rw[if_neg hv];exact Nat.min_le_right _ _
theorem PL(v:Int)(n d:Nat):(if v<0 then max (v+(n:Int)) 0 else min v (n:Int))= ((sIx n d (some v):Nat):Int):=by
 show (if v<0 then max (v+(n:Int)) 0 else min v (n:Int))= (((if v<0 then (v+(n:Int)).toNat else min v.toNat n):Nat):Int);by_cases hv:v<0
 ·simp only[if_pos hv];lia
 ·simp only[if_neg hv];lia
theorem Qq(lo hi:Option Int)(n:Nat):Zd lo hi 1 (n:Int)= (((sIx n 0 lo:Nat):Int),((sIx n n hi:Nat):Int)):=by
 have h1:¬((1:Int)<0):=by lia
 unfold Zd;simp only[h1,if_false];refine Prod.ext ?_ ?_
 ·cases lo with
  |none=>rfl
  |some v=>exact PL v n 0
 ·cases hi with
  |none=>rfl
  |some v=>exact PL v n n
theorem CU(i j:Nat):xr (i:Int) (j:Int) 1=j-i:=by
 unfold xr;have h1:(1:Int)>0:=by lia
 simp only[h1,if_true,Int.ediv_one];split<;>lia
theorem CM(p:IsPart v o)(h:Q o s):zq (zz prog w) A (Builtin.Slice.slicePartIndex v) Q E s:=by
 cases p with
 |none=>exact slicePart_none h
 |int i t=>exact slicePart_int h
theorem sliceApplied_gen{sl:Addr}{vl vu:ze}{lo hi:Option Int}{n:Nat}(hs:s.heap.IsSliceOf sl vl vu .none)(pl:IsPart vl lo)(pu:IsPart vu hi)
 (h:Q (((sIx n 0 lo:Nat):Int),1,sIx n n hi-sIx n 0 lo) s):zq (zz prog w) A (YH (.ref sl) (pure (n:Int))) Q E s:=by
 obtain⟨os,hos,hcs,hds⟩:=id hs;unfold YH Builtin.Slice.sliceFields;refine za (za (zZ hos hds (x:=vl) rfl (za (zZ hos hds (x:=vu) rfl (za (zZ hos hds (x:=.none) rfl (zm ?_)))))));refine za (slicePart_none ?_);show zq _ _ (if ((1:Int)==0)=true then _ else _) _ _ s;rw[if_neg (by decide)];refine za (CM pl (za (CM pu (za (zm ?_)))));show zq _ _ (match Zd lo hi 1 (n:Int) with|(lo,hi)=>pure (lo,(1:Int),xr lo hi 1)) _ _ s;rw[Qq lo hi n];show zq _ _ (pure (((sIx n 0 lo:Nat):Int),(1:Int),xr ((sIx n 0 lo:Nat):Int) ((sIx n n hi:Nat):Int) 1)) _ _ s;rw[CU];exact zm h
theorem uW(xs:Array ze)(i k:Nat):((zR k).filterMap fun(m:Nat)=>xs[((i:Int)+(m:Int)*1).toNat]?).toArray= ((xs.toList.drop i).take k).toArray:=by
 have e:(fun(m:Nat)=>xs[((i:Int)+(m:Int)*1).toNat]?)=λm=>xs[i+m]? :=by
  funext m;have:((i:Int)+(m:Int)*1).toNat=i+m:=by lia
  rw[this]
 rw[e];have:=pick_run xs i k;rw[xk]at this;have e2:((λx=>xs[x]?)∘λx=>i+x)=λm=>xs[i+m]? :=rfl;rw[e2]at this;rw[this]
theorem getItem_tuple_cut{t sl:Addr}{vl vu:ze}{lo hi:Option Int}(ht:Yr s.heap t items)(hs:s.heap.IsSliceOf sl vl vu .none)(pl:IsPart vl lo)(pu:IsPart vu hi)
 (hw:¬(sIx items.size 0 lo=0/\sIx items.size items.size hi=items.size))
 (h:Q (.ref s.heap.objs.size) {s with heap:=s.heap.push {cls:=.type "tuple",data:=.seq ((items.toList.drop (sIx items.size 0 lo)).take (sIx items.size items.size hi-sIx items.size 0 lo)).toArray}})
 (hsz:items.size<=zi):zq (zz prog w) A (XA (.ref t) (.ref sl)) Q E s:=by
 have htake:sizeOk (.seq ((items.toList.drop (sIx items.size 0 lo)).take (sIx items.size items.size hi-sIx items.size 0 lo)).toArray):=by show ((items.toList.drop (sIx items.size 0 lo)).take (sIx items.size items.size hi-sIx items.size 0 lo)).toArray.size<=zi;rw[zn,jL,Xq,zV];lia
 have hj:sIx items.size items.size hi<=items.size:=SS _ _ (zg _) hi;obtain⟨os,hos,hcs,hds⟩:=id hs;have hTs:s.TypeIs (.ref sl) "slice":=⟨os,hos,hcs⟩;unfold XA
 try with_reducible refine jQ ?_
 first|refine za (zm ?_)|skip
 refine za (wpAny_sequenceKey ht.typeIs (by decide) ?_);refine za (yJ (name:=yw "__getitem__") ht.typeIs jD
  (xK jD ht.typeIs entry_tuple_getitem ?_ (args_tuple_getitem _ _)))
 show zq _ _ (YG (.ref t) >>= _) _ _ s;refine za (tupleItemsOf_ ht ?_);refine za (Yu hTs ?_);rw[if_pos (by decide)];refine za (sliceApplied_gen hs pl pu ?_);have hno:¬((((sIx items.size 0 lo:Nat):Int)==0&&(1:Int)==1&&(sIx items.size items.size hi-sIx items.size 0 lo)==items.size)=true):=by intro q;rw[zS,zS]at q;have q1:((sIx items.size 0 lo:Nat):Int)=0:=eq_of_beq q.1.1;have q2:sIx items.size items.size hi-sIx items.size 0 lo=items.size:=eq_of_beq q.2;exact hw ⟨by lia,by lia⟩
 show zq _ _ (if (((sIx items.size 0 lo:Nat):Int)==0&&(1:Int)==1&&(sIx items.size items.size hi-sIx items.size 0 lo)==items.size)=true then _ else _) _ _ s;rw[if_neg hno,uW]
 first
  |exact za (m:=xw _) (yI (zm ⟨_,rfl,zm h⟩) htake)
  |exact za (m:=xw _) (yI (za (zm (zm ⟨_,rfl,zm h⟩))) htake)
  |exact za (za (m:=xw _) (yI (zm (zm ⟨_,rfl,zm h⟩)) htake))
  |exact za (za (m:=xw _) (yI (zm ⟨_,rfl,zm h⟩) htake))
end
end HT
namespace L2
open PySem PySem.Spec PyProof.Rows
abbrev TO:=St->Hp->(Option Int->Hp->Prop)->Prop
def PO(X:Cx)(e:Option Expr)(t:TO):Prop:=
 ∀(om:PNS) (s:zh) (σ:St) (H:Hp) (Q:Option Int->Hp->Prop),Inv X om σ H s->t σ H Q->
  zq (zz X.prog X.w) X.A (evalPart e X.env) (λu s'=>∃o H',Inv X om σ H' s'/\IsPart u o/\Q o H') X.xe s
def Bm:TO:=λ_ H Q=>Q none H
def lq(t:TE):TO:=λσ H Q=>t σ H λx H1=>∃i,x= .int i/\Q (some i) H1
section
variable{X:Cx}{e:Expr}{te:TE}{lo hi:Option Expr}{tl th:TO}{pos p2:Pos}
theorem Kv:PO X none Bm:=by intro om s σ H Q I h;rw[evalPart_none];exact zm ⟨none,H,I,.none,h⟩
theorem aw(h:PE X e te):PO X (some e) (lq te):=by intro om s σ H Q I hw;rw[evalPart_some];refine thn (h om s σ H _ I hw) λu s1 ph=>ph.elim λx H1 I1 r1 q1=>?_;obtain⟨i,rfl,q⟩:=q1;obtain⟨t,rfl⟩:=r1;exact⟨some i,H1,I1,.int i t,q⟩
def SlR(X:Cx)(r:V->Option Int->Option Int->Hp->VK->Prop):Prop:=
 ∀(om:PNS) (s:zh) (σ:St) (H:Hp) (x:V) (v vl vu:ze) (lo hi:Option Int) (sl:Addr) (Q:VK),Inv X om σ H s->u5 x v->s.heap.IsSliceOf sl vl vu .none->IsPart vl lo->IsPart vu hi->r x lo hi H Q->
  ∃T id,typeLookup (.type T) "__getitem__" =pure (some (.builtin id))/\s.TypeIs v T/\zq (zz X.prog X.w) X.A (XA v (.ref sl)) (EP X om σ Q) X.xe s
theorem SlR.or(h:SlR X r)(h':SlR X r'):SlR X (λx lo hi H Q=>r x lo hi H Q\/r' x lo hi H Q):=by
 intro om s σ H x v vl vu lo hi sl Q I rx hs pl pu q;rcases q with q|q
 ·exact h om s σ H x v vl vu lo hi sl Q I rx hs pl pu q
 ·exact h' om s σ H x v vl vu lo hi sl Q I rx hs pl pu q
def tSl(r:V->Option Int->Option Int->Hp->VK->Prop)(te:TE)(tl th:TO):TE:=λσ H Q=>te σ H λx H1=>tl σ H1 λl H2=>th σ H2 λu H3=>r x l u H3 Q
theorem Pc(hr:SlR X r)(he:PE X e te)(hl:PO X lo tl)(hu:PO X hi th):PE X (.Subscript e (.Slice lo hi none p2) pos) (tSl r te tl th):=by intro om s σ H Q I h;refine Subscript_ (thn (he om s σ H _ I h) λv s1 ph=>ph.elim λx H1 I1 r1 q1=>?_);refine wpAny_Slice (thn (hl om s1 σ H1 _ I1 q1) λvl s2 ⟨l,H2,I2,pl,q2⟩=>thn (hu om s2 σ H2 _ I2 q2) λvu s3 ⟨u,H3,I3,pu,q3⟩=>?_);rw[evalPart_none];refine zm ?_;have I4:Inv X om σ H3 {s3 with heap:=s3.heap.push {cls:=.type "slice",data:=.fields #[vl,vu,.none]}}:=I3.kept (t':=s3.toks) λb ob q=>zf _ q;obtain⟨T,id,hT,ht,hg⟩:=hr om {s3 with heap:=s3.heap.push {cls:=.type "slice",data:=.fields #[vl,vu,.none]}} σ H3 x v vl vu l u s3.heap.objs.size Q I4 r1 (Xw ..) pl pu q3;show zq (zz X.prog X.w) X.A (subscriptTail e (.Slice lo hi none p2) v (.ref s3.heap.objs.size)) (EP X om σ Q) X.xe {s3 with heap:=s3.heap.push {cls:=.type "slice",data:=.fields #[vl,vu,.none]}};exact tail_any (ops:= [.ref s3.heap.objs.size,v]) ht hT hg (by with_unfolding_all rfl)
def B7(xs:List V)(lo hi:Option Int):List V:=(xs.drop (HT.sIx xs.length 0 lo)).take (HT.sIx xs.length xs.length hi-HT.sIx xs.length 0 lo)
theorem ES(xs:List V)(lo hi:Option Int):(B7 xs lo hi).length<=xs.length:=by unfold B7;rw[jL,Xq];lia
def Mx(K:zc):V->Option Int->Option Int->Hp->VK->Prop:=λx lo hi H Q=>∃a xs,x= .ref a/\SqT K H a xs/\
 ¬(HT.sIx xs.length 0 lo=0/\HT.sIx xs.length xs.length hi=xs.length)/\∀p,H p=none->Q (.ref p) (upd H p (.tup (B7 xs lo hi)))
theorem sl_tup:SlR X (Mx X.K):=by
 intro om s σ H x v vl vu lo hi sl Q I rx hs pl pu h;obtain⟨a,xs,rfl,hx,hw,q⟩:=h
 cases rx
 obtain⟨ou,r,ht,hz⟩:=I.tuple hx;have ow:ou.toArray.size=xs.length:=by rw[zn];exact r.length.symm
 refine⟨"tuple",_,jD.lookup,ht.typeIs,?_⟩;refine HT.getItem_tuple_cut ht hs pl pu (by rw[ow];exact hw) ?_ (by rw[ow];exact hz);rw[ow];refine⟨.ref s.heap.objs.size,_,I.laid (t':=s.toks) (o:=.tup (B7 xs lo hi)) (λb ob q=>zf _ q) (zg _) ?_,rfl,q _ (I.hok.fresh (zg _))⟩;exact⟨jc (ES xs lo hi) hz,_,(r.drop (HT.sIx xs.length 0 lo)).take (HT.sIx xs.length xs.length hi-HT.sIx xs.length 0 lo),C5.new _ _⟩
def Bf(K:zc):R2:=λx y H Q=>∃a b xs ys,x= .ref a/\y= .ref b/\SqT K H a xs/\SqT K H b ys/\xs≠ []/\xs.length+ys.length<=zi/\
 (ys= []->Q (.ref a) H)/\(ys≠ []->∀p,H p=none->Q (.ref p) (upd H p (.tup (xs++ys))))
theorem m6.nil_iff(r:m6 xs us):us= []↔xs= []:=by
 cases r with
 |nil=>simp
 |cons _ _=>simp
theorem Gx:OpR X (yh .Add) (Bf X.K):=by
 intro om s σ H x y v u Q I rx ry h;obtain⟨a,b,xs,ys,rfl,rfl,ha,hb,hx,hz,q1,q2⟩:=h
 cases rx
 cases ry
 obtain⟨ou,r1,p1,_⟩:=I.tuple ha;obtain⟨sj,r2,p2,_⟩:=I.tuple hb;refine HT.cat_tup p1 p2 (λz=>hx (r1.nil_iff.mp z)) (λz=>⟨.ref a,H,I,rfl,q1 (r2.nil_iff.mp z)⟩) (λz=>?_) (by rw[<-r1.length,<-r2.length];exact hz);refine⟨.ref s.heap.objs.size,_,I.laid (t':=s.toks) (o:=.tup (xs++ys)) (λb ob q=>zf _ q) (zg _) ?_,rfl,q2 (λw=>z (r2.nil_iff.mpr w)) _ (I.hok.fresh (zg _))⟩;exact⟨by rw[zd];exact hz,_,r1.append r2,C5.new _ _⟩
end
def ixN(n:Nat)(i:Int):Option Nat:=if 0<=i then (if i<n then some i.toNat else none)else if -(n:Int)<=i then some (i+n).toNat else none
def atI{α:Type}(xs:List α)(i:Int):Option α:=(ixN xs.length i).bind λj=>xs[j]?
theorem cv(h:ixN n i=some j):seqIndex? i n=some j/\j<n/\ -(n:Int)<=i/\i<n:=by
 unfold ixN at h;by_cases h0:0<=i
 ·rw[if_pos h0]at h;by_cases h1:i<n
  ·rw[if_pos h1]at h;have e:i.toNat=j:=jH h;exact⟨by rw[seqIndex_of h0 h1,e],by lia,by lia,h1⟩
  ·rw[if_neg h1]at h;cases h
 ·rw[if_neg h0]at h;by_cases h1: -(n:Int)<=i
  ·rw[if_pos h1]at h;have e:(i+n).toNat=j:=jH h;exact⟨by rw[seqIndex_neg (by lia) h1,e],by lia,h1,by lia⟩
  ·rw[if_neg h1]at h;cases h
theorem dL(h:atI xs i=some v):∃j,seqIndex? i xs.length=some j/\xs[j]? =some v/\j<xs.length/\ -(xs.length:Int)<=i/\i<xs.length:=by
 unfold atI at h
 cases e:ixN xs.length i with
 |none=>rw[e]at h;cases h
 |some j=>
   rw[e]at h;obtain⟨h1,h2,h3,h4⟩:=cv e;exact⟨j,h1,h,h2,h3,h4⟩
theorem atI_nat{xs:List α}{j:Nat}{v:α}(h:xs[j]? =some v):atI xs (j:Int)=some v:=by
 have hj:j<xs.length:=(jI.mp h).1;have e:ixN xs.length (j:Int)=some j:=by unfold ixN;rw[if_pos (by lia),if_pos (by lia)];simp
 unfold atI;rw[e];exact h
def vH(b:Expr):Prop:=∀o i,subscripted b false o i=operate [o,i] (XA o i)
def IxR(X:Cx)(r:R2):Prop:=
 ∀(value slice:Expr) (om:PNS) (s:zh) (σ:St) (H:Hp) (x y:V) (v u:ze) (Q:VK),Inv X om σ H s->u5 x v->u5 y u->r x y H Q->
  subscripted slice false v u=operate [v,u] (XA v u)->zq (zz X.prog X.w) X.A (subscriptTail value slice v u) (EP X om σ Q) X.xe s
def MtR(X:Cx)(id:String)(r:V->List V->Hp->VK->Prop):Prop:=
 ∀(om:PNS) (s:zh) (σ:St) (H:Hp) (x:V) (xs:List V) (v:ze) (us:List ze) (Q:VK),Inv X om σ H s->u5 x v->m6 xs us->r x xs H Q->
  zq (zz X.prog X.w) X.A (call (.builtin id) (v::us)) (EP X om σ Q) X.xe s
section
variable{X:Cx}
theorem IxR.or(h:IxR X r)(h':IxR X r'):IxR X (λx y H Q=>r x y H Q\/r' x y H Q):=by
 intro value slice om s σ H x y v u Q I rx ry q hs;rcases q with q|q
 ·exact h value slice om s σ H x y v u Q I rx ry q hs
 ·exact h' value slice om s σ H x y v u Q I rx ry q hs
theorem MtR.or{id:String}(h:MtR X id r)(h':MtR X id r'):MtR X id (λx xs H Q=>r x xs H Q\/r' x xs H Q):=by
 intro om s σ H x xs v us Q I rx rs q;rcases q with q|q
 ·exact h om s σ H x xs v us Q I rx rs q
 ·exact h' om s σ H x xs v us Q I rx rs q
theorem cj(hr:IxR X r)(ha:PE X a ta)(hb:PE X b tb)(hs:vH b):PE X (.Subscript a b pos) (tOp r ta tb):=by intro om s σ H Q I h;exact Subscript_ (DK ha hb I h λv u s2 x y H2 I2 rx ry q=>hr a b om s2 σ H2 x y v u Q I2 rx ry q (hs _ _))
def ki(K:zc):R2:=λx y H Q=>∃p xs i v,x= .ref p/\y= .int i/\SqL K H p xs/\atI xs i=some v/\Q v H
def bu(K:zc):R2:=λx y H Q=>∃p xs i v,x= .ref p/\y= .int i/\SqT K H p xs/\atI xs i=some v/\Q v H
def gp:R2:=λx y H Q=>∃z i c,x= .str z/\y= .int i/\z.length<=zi/\atI z.cps.toList i=some c/\Q (.str ⟨#[c]⟩) H
theorem ar:IxR X (ki X.K):=by
 intro value slice om s σ H x y v u Q I rx ry h hs;obtain⟨p,xs,i,z,rfl,rfl,hq,he,q⟩:=h
 cases rx
 obtain⟨t,rfl⟩:=ry;obtain⟨ou,r,pl,hz⟩:=I.list hq;obtain⟨j,h1,h2,h3,h4,h5⟩:=dL he;obtain⟨w,ew,rw'⟩:=r.get h2;have hl:=r.length;have hn:=pC;have fin:EP X om σ Q w s:=⟨z,H,I,rw',q⟩;by_cases h0:0<=i
 ·have hj:i.toNat=j:=by
   rw[seqIndex_of h0 h5]at h1;exact jH h1
  exact item_listR pl.isList h0 (by lia) (by rw[hj];simpa using ew) fin hs
 ·have hj:(i+(ou.toArray.size:Int)).toNat=j:=by
   rw[seqIndex_neg (by lia) h4]at h1;rw[zn,<-hl];exact jH h1
  exact subscriptTail_builtinR (x:=w) pl.isList.typeIs Xz.lookup
   (wpAny_getItem_list_neg (Q:=λr s'=>r=w/\EP X om σ Q r s') pl.isList (by lia) (by rw[zn]<;>lia) (by lia) (by rw[hj];simpa using ew) ⟨rfl,fin⟩) hs
theorem ix_tup:IxR X (bu X.K):=by
 intro value slice om s σ H x y v u Q I rx ry h hs;obtain⟨p,xs,i,z,rfl,rfl,hq,he,q⟩:=h
 cases rx
 obtain⟨t,rfl⟩:=ry;obtain⟨ou,r,pl,hz⟩:=I.tuple hq;obtain⟨j,h1,h2,h3,h4,h5⟩:=dL he;obtain⟨w,ew,rw'⟩:=r.get h2;have hl:=r.length;have hn:=pC;have fin:EP X om σ Q w s:=⟨z,H,I,rw',q⟩;exact subscriptTail_builtinR (x:=w) pl.typeIs jD.lookup
  (getItem_tuple (j:=j) (Q:=λr s'=>r=w/\EP X om σ Q r s') pl (by lia) (by lia) (by rw[zn,<-hl];exact h1) (by simpa using ew) ⟨rfl,fin⟩) hs
theorem qm:IxR X gp:=by
 intro value slice om s σ H x y v u Q I rx ry h hs;obtain⟨z,i,c,rfl,rfl,hz,he,q⟩:=h;obtain⟨t,rfl⟩:=rx;obtain⟨t',rfl⟩:=ry;obtain⟨j,h1,h2,h3,h4,h5⟩:=dL he;have hl:z.cps.toList.length=z.length:=by simp[Str.length]
 rw[hl]at h1 h4 h5;have hn:=pC;exact tail_any (Xs s z t) slot_str_getitem.lookup (getItem_str (c:=c) (by have e1:decide (i < -(2 ^ 63:Int))=false:=decide_eq_false (by lia);have e2:decide (i>=2 ^ 63)=false:=decide_eq_false (by lia);rw[e1,e2,Bool.or_false]) (by rw[h1];simpa using h2) ⟨.str ⟨#[c]⟩,H,I.tok _,⟨_,rfl⟩,q⟩) hs
theorem Inv.lst(I:Inv X om σ H s)(h:H p=some (.lst xs)):
 ∃(ou:List ze) (n:Nat),m6 xs ou/\s.heap.get? p=some {cls:=.type "list",data:=.seq ou.toArray n}/\xs.length<=zi:=by
 obtain⟨z,ou,n,r,e⟩:=I.hok p _ h;exact⟨ou,n,r,e,z⟩
theorem mX(lo hi:Option Int)(n:Nat):(yR lo hi none n).1= ((HT.sIx n 0 lo:Nat):Int)/\(yR lo hi none n).2.1= ((HT.sIx n n hi:Nat):Int)/\(yR lo hi none n).2.2=1:=by
 refine⟨?_,?_,rfl⟩
 ·cases lo with
  |none=>simp[yR,HT.sIx]
  |some i=>
    simp only[yR,HT.sIx,Option.getD_none,show (1:Int)>0 by decide,if_true];by_cases h:i<0
    ·simp only[h,if_true]<;>lia
    ·simp only[h,if_false]<;>lia
 ·cases hi with
  |none=>simp[yR,HT.sIx]
  |some i=>
    simp only[yR,HT.sIx,Option.getD_none,show (1:Int)>0 by decide,if_true];by_cases h:i<0
    ·simp only[h,if_true]<;>lia
    ·simp only[h,if_false]<;>lia
theorem nU(ou:List ze)(lo hi:Option Int):slicePick ou.toArray lo hi none= ((ou.drop (HT.sIx ou.length 0 lo)).take (HT.sIx ou.length ou.length hi-HT.sIx ou.length 0 lo)).toArray:=by obtain⟨h1,h2,h3⟩:=mX lo hi ou.toArray.size;unfold slicePick;rw[h1,h2,h3];simp only[sliceRange_one,pick_run,zn]<;>rfl
def IW(K:zc):V->Option Int->Option Int->Hp->VK->Prop:=λx lo hi H Q=>∃a xs,x= .ref a/\SqL K H a xs/\∀p,H p=none->Q (.ref p) (upd H p (.lst (B7 xs lo hi)))
theorem Tf:SlR X (IW X.K):=by
 intro om s σ H x v vl vu lo hi sl Q I rx hs pl pu h;obtain⟨a,xs,rfl,hx,q⟩:=h
 cases rx
 obtain⟨ou,r,ht,hz⟩:=I.list hx;have ow:=r.length;refine⟨"list",_,Xz.lookup,ht.isList.typeIs,?_⟩;refine wpAny_getItem_list_slice ht.isList hs pl pu .none (by simp) ?_ (by rw[zn]<;>lia);rw[nU,<-ow];refine⟨.ref s.heap.objs.size,_,I.laid (t':=s.toks) (o:=.lst (B7 xs lo hi)) (λb ob q=>zf _ q) (zg _) ?_,rfl,q _ (I.hok.fresh (zg _))⟩;exact⟨jc (ES xs lo hi) hz,_,0,(r.drop (HT.sIx xs.length 0 lo)).take (HT.sIx xs.length xs.length hi-HT.sIx xs.length 0 lo),zy _ rfl⟩
def F7:V->Bool
| .non=>true
| .bl _=>true
| .int _=>true
| .str _=>true
|_=>false
def eqV:V->V->Bool
| .non,.non=>true
| .bl a,.bl b=>a==b
| .bl a,.int b=>(if a then 1 else 0)==b
| .int a,.bl b=>a==(if b then 1 else 0)
| .int a,.int b=>a==b
| .str a,.str b=>a==b
|_,_=>false
theorem Kx(ry:u5 y u)(rx:u5 x v)(fy:F7 y=true)(fx:F7 x=true):jR A s u v (eqV y x):=by
 cases y with
 |non=>
   cases ry
   cases x with
   |non=>cases rx;exact YJ _
   |bl b=>cases rx;exact XM b
   |int b=>obtain⟨t,rfl⟩:=rx;exact Jg b t
   |str b=>obtain⟨t,rfl⟩:=rx;exact Jf b t
   |_=>exact absurd (show false=true from fx) zw
 |bl a=>
   cases ry
   cases x with
   |non=>cases rx;exact XQ a
   |bl b=>cases rx;exact XS a b
   |int b=>obtain⟨t,rfl⟩:=rx;exact Jk a b t
   |str b=>obtain⟨t,rfl⟩:=rx;exact Jj a b t
   |_=>exact absurd (show false=true from fx) zw
 |int a=>
   obtain⟨t',rfl⟩:=ry
   cases x with
   |non=>cases rx;exact Jh a t'
   |bl b=>cases rx;exact Ji a t' b
   |int b=>obtain⟨t,rfl⟩:=rx;exact Jr a t' b t
   |str b=>obtain⟨t,rfl⟩:=rx;exact Yl a t' b t
   |_=>exact absurd (show false=true from fx) zw
 |str a=>
   obtain⟨t',rfl⟩:=ry
   cases x with
   |non=>cases rx;exact Jd a t'
   |bl b=>cases rx;exact Je a t' b
   |int b=>obtain⟨t,rfl⟩:=rx;exact Yk a t' b t
   |str b=>obtain⟨t,rfl⟩:=rx;exact Jq a t' b t
   |_=>exact absurd (show false=true from fx) zw
 |_=>exact absurd (show false=true from fy) zw
def eqU(x:V)(u:ze):Bool:=match u with
| .none=>eqV .non x
| .bool b=>eqV (.bl b) x
| .int i _=>eqV (.int i) x
| .str z _=>eqV (.str z) x
|_=>false
theorem UP(r:u5 y u)(f:F7 y=true):eqU x u=eqV y x:=by
 cases y with
 |non=>cases r;rfl
 |bl b=>cases r;rfl
 |int i=>obtain⟨t,rfl⟩:=r;rfl
 |str z=>obtain⟨t,rfl⟩:=r;rfl
 |_=>exact absurd (show false=true from f) zw
theorem LF(h:m6 xs us)(f:xs.all F7=true):us.any (eqU x)=xs.any λy=>eqV y x:=by
 induction h with
 |nil=>rfl
 |cons r t ih=>
   rw[jC,zS]at f;rw[yt,yt,UP r f.1,ih f.2]
theorem FD(rx:u5 x v)(fx:F7 x=true):∀ {xs} {us},m6 xs us->xs.all F7=true->∀u∈us,jR A s u v (eqU x u)
|_,_,.nil,_=>λu hu=>by cases hu
|y::xs,u::us,.cons r t,f=>λu' hu=>by
  rw[jC,zS]at f;rcases zk.mp hu with rfl|hu
  ·rw[UP r f.1];exact Kx r rx f.1 fx
  ·exact FD rx fx t f.2 u' hu
def inV(x:V)(xs:List V):Bool:=xs.any λy=>eqV y x
def rIn(K:zc)(neg:Bool):R2:=λx y H Q=>∃p xs,y= .ref p/\(SqL K H p xs\/SqT K H p xs)/\F7 x=true/\xs.all F7=true/\Q (.bl (if neg then !inV x xs else inV x xs)) H
theorem Fk:OpR X (zM .In) (rIn X.K false):=by
 intro om s σ H x y v u Q I rx ry h;obtain⟨p,xs,rfl,hq,fx,fs,q⟩:=h
 cases ry
 rcases hq with hq|hq
 ·obtain⟨ou,r,pl,hz⟩:=I.list hq;refine SeqAt.in_listAt (eqU x) pl.isList (λw hw=>FD rx fx r fs w (by simpa using hw)) ⟨.bl _,H,I,rfl,?_⟩;rw[show ou.toArray.any (eqU x)=ou.any (eqU x) by simp,LF r fs];exact q
 ·obtain⟨ou,r,pl,hz⟩:=I.tuple hq;refine SeqAt.in_tupleAt (eqU x) pl (λw hw=>FD rx fx r fs w (by simpa using hw)) ⟨.bl _,H,I,rfl,?_⟩;rw[show ou.toArray.any (eqU x)=ou.any (eqU x) by simp,LF r fs];exact q
theorem Vh:OpR X (zM .NotIn) (rIn X.K true):=by
 intro om s σ H x y v u Q I rx ry h;obtain⟨p,xs,rfl,hq,fx,fs,q⟩:=h
 cases ry
 rcases hq with hq|hq
 ·obtain⟨ou,r,pl,hz⟩:=I.list hq;refine SeqAt.notIn_listAt (eqU x) pl.isList (λw hw=>FD rx fx r fs w (by simpa using hw)) ⟨.bl _,H,I,rfl,?_⟩;rw[show ou.toArray.any (eqU x)=ou.any (eqU x) by simp,LF r fs];exact q
 ·obtain⟨ou,r,pl,hz⟩:=I.tuple hq;refine JZ (eqU x) pl (λw hw=>FD rx fx r fs w (by simpa using hw)) ⟨.bl _,H,I,rfl,?_⟩;rw[show ou.toArray.any (eqU x)=ou.any (eqU x) by simp,LF r fs];exact q
theorem fX:OpR X (zM .NotIn) (λx y H Q=>∃i j,x= .str i/\y= .str j/\Q (.bl (!(!(Zo j i 0 j.length 1).isEmpty))) H):=by intro om s σ H x y v u Q I rx ry h;obtain⟨i,j,rfl,rfl,q⟩:=h;obtain⟨t,rfl⟩:=rx;obtain⟨t',rfl⟩:=ry;exact notIn_str ⟨.bl _,H,I,rfl,q⟩
theorem Mm:R7 X (.builtin "len") (λxs H Q=>∃p ys,xs= [.ref p]/\(SqL X.K H p ys\/SqT X.K H p ys)/\Q (.int ys.length) H):=by
 intro om s σ H xs us Q I r h;obtain⟨p,ys,rfl,hq,q⟩:=h;obtain⟨u,rfl,rx⟩:=S3 r
 cases rx
 have hn:=pC;rcases hq with hq|hq
 ·obtain⟨ou,r',pl,hz⟩:=I.list hq;have ow:=r'.length;exact Calls.call_len_list pl.isList (by simp only[zn]<;>lia) ⟨.int ys.length,H,I.tok _,⟨s.toks+1,by rw[zn,ow]⟩,q⟩
 ·obtain⟨ou,r',pl,hz⟩:=I.tuple hq;have ow:=r'.length;exact len_tuple pl (by simp only[zn]<;>lia) ⟨.int ys.length,H,I.tok _,⟨s.toks+1,by rw[zn,ow]⟩,q⟩
theorem Cf:R7 X (.builtin "len") (λxs H Q=>∃z,xs= [.str z]/\z.length<=zi/\Q (.int z.length) H):=by intro om s σ H xs us Q I r h;obtain⟨z,rfl,hz,q⟩:=h;obtain⟨u,rfl,t,rfl⟩:=S3 r;have hn:=pC;exact len_str (by lia) ⟨.int z.length,H,I.tok _,⟨_,rfl⟩,q⟩
theorem R7.or(h:R7 X f r)(h':R7 X f r'):R7 X f (λxs H Q=>r xs H Q\/r' xs H Q):=by
 intro om s σ H xs us Q I rs q;rcases q with q|q
 ·exact h om s σ H xs us Q I rs q
 ·exact h' om s σ H xs us Q I rs q
theorem Mb:R7 X (.type "list") (λxs H Q=>∃p ys,xs= [.ref p]/\(SqL X.K H p ys\/SqT X.K H p ys)/\∀l,H l=none->Q (.ref l) (upd H l (.lst ys))):=by
 intro om s σ H xs us Q I r h;obtain⟨p,ys,rfl,hq,q⟩:=h;obtain⟨u,rfl,rx⟩:=S3 r
 cases rx
 have fin:∀(ou:List ze),m6 ys ou->ys.length<=zi->∀(h':Heap) (c':Nat),(∀b o',s.heap.get? b=some o'->h'.get? b=some o')->
  h'.get? s.heap.objs.size=some {cls:=.type "list",dict:=none,data:=.seq ou.toArray c',slots:= #[]}->EP X om σ Q (.ref s.heap.objs.size) {s with heap:=h'}:=λou r' hz h' c' kp e=>
  ⟨.ref s.heap.objs.size,_,I.laid (t':=s.toks) kp (zg _) (show R0 X.prog X.w _ h' _ (.lst ys) from⟨hz,ou,c',r',e⟩),rfl,q _ (I.hok.fresh (zg _))⟩
 rcases hq with hq|hq
 ·obtain⟨ou,r',pl,hz⟩:=I.list hq;have ow:=r'.length;obtain⟨o,ho,hc,n,hd⟩:=pl.isList;exact call_list_seq p (.inl rfl) ho hc hd (λh' c' kp e=>fin ou r' hz h' c' kp e) (by simp only[zn]<;>lia)
 ·obtain⟨ou,r',pl,hz⟩:=I.tuple hq;have ow:=r'.length;obtain⟨o,ho,hc,n,hd⟩:=pl;exact call_list_seq p (.inr rfl) ho hc hd (λh' c' kp e=>fin ou r' hz h' c' kp e) (by simp only[zn]<;>lia)
theorem Nv:R7 X (.type "tuple") (λxs H Q=>∃p ys,xs= [.ref p]/\((SqL X.K H p ys/\∀l,H l=none->Q (.ref l) (upd H l (.tup ys)))\/(SqT X.K H p ys/\Q (.ref p) H))):=by
 intro om s σ H xs us Q I r h;obtain⟨p,ys,rfl,h⟩:=h;obtain⟨u,rfl,rx⟩:=S3 r
 cases rx
 rcases h with⟨hq,q⟩|⟨hq,q⟩
 ·obtain⟨ou,r',pl,hz⟩:=I.list hq;have ow:=r'.length;refine call_tuple_list pl.isList (λh' kp=>?_) (by simp only[zn]<;>lia);have I1:Inv X om σ H {s with heap:=h'}:=I.kept (t':=s.toks) kp;have I2:Inv X om σ (upd H h'.objs.size (.tup ys)) {s with heap:=h'.push {cls:=.type "tuple",data:=.seq ou.toArray}}:=
   I1.laid (t':=s.toks) (λb o e=>zf _ e) (zg _) (show R0 X.prog X.w _ _ _ (.tup ys) from⟨hz,ou,r',C5.new _ _⟩)
  exact⟨.ref h'.objs.size,_,I2,rfl,q _ (I1.hok.fresh (zg _))⟩
 ·obtain⟨ou,r',pl,hz⟩:=I.tuple hq;exact call_tuple_same pl ⟨.ref p,H,I,rfl,q⟩
def tyV(K:zc)(T:String)(x:V)(H:Hp):Prop:=match x with
| .str _=>T= "str"
| .int _=>T= "int"
| .ref p=>(T= "list"/\∃xs,SqL K H p xs)\/(T= "tuple"/\∃o,K.lookup p=some o/\o.cls= .type "tuple"/\o.dict=none)\/
   (T= "dict"/\((∃oq,H p=some (.dK oq))\/∃oq,H p=some (.dT oq)))\/(T= "set"/\∃S n,H p=some (.set S n))
|_=>False
theorem ic(I:Inv X om σ H s)(r:u5 x v)(ty:tyV X.K T x H):
 s.TypeIs v T/\∀a,v= .ref a->∃ob,s.heap.get? a=some ob/\ob.dict=none:=by
 cases x with
 |str z=>
   obtain⟨t,rfl⟩:=r
   cases (show T= "str" from ty)
   exact⟨Xs s z t,λ_ e=>nomatch e⟩
 |int i=>
   obtain⟨t,rfl⟩:=r
   cases (show T= "int" from ty)
   exact⟨Xt s i t,λ_ e=>nomatch e⟩
 |ref p=>
   cases r
   rcases ty with⟨rfl,xs,hq⟩|⟨rfl,o,hk,hc,hd⟩|⟨rfl,hk⟩|⟨rfl,S,n,hk⟩
   ·obtain⟨ou,_,pl,_⟩:=I.list hq;refine⟨pl.isList.typeIs,λa e=>?_⟩
    cases e
    obtain⟨o,n,e,c,hd,_⟩:=pl;exact⟨o,e,hd⟩
   ·refine⟨⟨o,I.kIn p o hk,hc⟩,λa e=>?_⟩
    cases e
    exact⟨o,I.kIn _ o hk,hd⟩
   ·have z:∃o,s.heap.get? p=some o/\o.ExactDict:=by
     rcases hk with⟨oq,hk⟩|⟨oq,hk⟩
     ·obtain⟨_,_,_,_,o,_,_,e,ex,_⟩:=I.hok p _ hk;exact⟨o,e,ex⟩
     ·obtain⟨_,_,_,_,o,_,_,e,ex,_⟩:=I.hok p _ hk;exact⟨o,e,ex⟩
    obtain⟨o,e,ex⟩:=z;refine⟨⟨o,e,ex.1⟩,λa e2=>?_⟩
    cases e2
    exact⟨o,e,ex.2.1⟩
   ·obtain⟨o,_,_,_,e,ex,_⟩:=I.hok p _ hk;refine⟨⟨o,e,ex.1⟩,λa e2=>?_⟩
    cases e2
    exact⟨o,e,ex.2.1⟩
 |_=>exact yc ty
def tBM(K:zc)(T:String)(r:V->List V->Hp->VK->Prop)(to:TE)(t:TA):TE:=λσ H Q=>to σ H λx H1=>tyV K T x H1/\t σ H1 λxs H2=>r x xs H2 Q
variable{o e:Expr}{es:List Expr}{to:TE}{t:TA}{name:Str}{apos cpos:Pos}{T id:String}{r:V->List V->Hp->VK->Prop}
theorem eI(pa:PlainAttrs T)(slot:Slot T name id)(hty:typeOf (.builtin id)=pure (.type "method_descriptor"))(hm:MtR X id r)(ho:PE X o to)(ha:PA X (e::es) t)
 (hbase:Yc o name X.env (eval o X.env)=eval o X.env)
 (hfew:((yo cpos (zC (e::es) X.env)).all (λx=> !x.1)&&(JK cpos (YQ [] X.env)).all (λx=>x.1.isSome)
   && decide ((e::es).length+([]:List Keyword).length+(if ([]:List Keyword).isEmpty then 0 else 1)<30))=true)
 (hline:(apos.endLine==cpos.line)=true) (hs:zC (e::es) X.env= (false,eval e X.env)::zC es X.env) (rj:(yo cpos (zC es X.env)).any (·.1)=false):
 PE X (.Call (.Attribute o name apos) (e::es) [] cpos) (tBM X.K T r to t):=by
 intro om s σ H Q I h;refine wpAny_Call_method_late hbase hfew hline rfl (thn (ho om s σ H _ I h) λv s1 ⟨x,H1,I1,r1,ty,q1⟩=>?_);obtain⟨h1,h2⟩:=ic I1 r1 ty;refine⟨T,id,pa,slot,hty,h1,h2,?_⟩;have hA:=ha cpos om s1 σ H1 _ I1 q1;rw[hs]at hA ⊢;refine Calls.callWith_builtin (by show (false||(yo cpos (zC es X.env)).any (·.1))=false;rw[rj]<;>rfl) (Yo ?_);exact thn hA λus s2 ph=>ph.elim λvs H2 I2 r2 q2=>hm om s2 σ H2 x vs v us Q I2 r1 r2 q2
end
def MtM(X:Cx)(id:String)(r:V->List V->Hp->VK->Prop):Prop:=
 ∀(om:PNS) (s:zh) (σ:St) (H:Hp) (x:V) (xs:List V) (v:ze) (us:List ze) (Q:VK),Inv X om σ H s->u5 x v->m6 xs us->r x xs H Q->
  zq (zz X.prog X.w) X.A (call (.builtin id) (v::us)) (EP X om σ Q) X.xe s
theorem m6.one(h:m6 [x] us):∃u,us= [u]/\u5 x u:=by
 cases h with
 |cons r t=>cases t;exact⟨_,rfl,r⟩
theorem m6.two(h:m6 [x,y] us):∃u v,us= [u,v]/\u5 x u/\u5 y v:=by
 cases h with
 |cons r t=>
   obtain⟨v,rfl,q⟩:=m6.one t;exact⟨_,v,rfl,r,q⟩
theorem m6.eraseIdx:∀ {xs} {us} i,m6 xs us->m6 (xs.eraseIdx i) (us.eraseIdx i)
|_,_,_,.nil=>.nil
|_,_,0,.cons _ t=>t
|_,_,i+1,.cons r t=>.cons r (m6.eraseIdx i t)
theorem m6.reverse(h:m6 xs us):m6 xs.reverse us.reverse:=by
 induction h with
 |nil=>exact .nil
 |cons r t ih=>rw[YX,YX];exact m6.append ih (.cons r .nil)
theorem rL:∀(l:List α) (i:Nat),(l.eraseIdx i).length<=l.length
|[],_=>zg _
|_::_,0=>Nat.le_succ _
|_::r,i+1=>Nat.succ_le_succ (rL r i)
section
theorem Inv.lset{ou its':List ze}{n:Nat}{t':Nat}(I:Inv X om σ H s)(hH:H l=some (.lst xs))
 (e:s.heap.get? l=some {cls:=.type "list",data:=.seq ou.toArray n}) (hf:f ou.toArray=its'.toArray) (hv:m6 ys its') (hz:ys.length<=zi):
 Inv X om σ (upd H l (.lst ys)) {s with heap:=s.heap.update l (jV f),toks:=t'}:=by
 have q:=PySem.IsL.update e f;rw[hf]at q;refine I.write (x:=l) (e:=l) (by rw[hH];exact trivial) (.inl rfl) (λb' u hb hu=>(js s.heap (jV f) (Ne.symm hb)).trans hu) ⟨_,q⟩ ?_;exact⟨hz,its',_,hv,q⟩
theorem Inv.lnew(I:Inv X om σ H s)(hv:m6 ys ou)(hz:ys.length<=zi):
 Inv X om σ (upd H s.heap.objs.size (.lst ys)) {s with heap:=s.heap.push {cls:=.type "list",data:=.seq ou.toArray},toks:=t'}:=
 I.laid (λ_ _ q=>zf _ q) (zg _) ⟨hz,ou,0,hv,zy _ rfl⟩
theorem Inv.fresh(I:Inv X om σ H s):H s.heap.objs.size=none:=I.hok.fresh (zg _)
theorem Inv.lstM(I:Inv X om σ H s)(hH:H l=some (.lst xs)):xs.length<=zi/\∃(ou:List ze) (n:Nat),m6 xs ou/\xs.length=ou.length/\s.heap.get? l=some {cls:=.type "list",data:=.seq ou.toArray n}:=by obtain⟨z,ou,n,r,e⟩:=I.hok l _ hH;exact⟨z,ou,n,r,r.length,e⟩
def FY:V->List V->Hp->VK->Prop:=λx vs H Q=>∃l xs y,x= .ref l/\vs= [y]/\H l=some (.lst xs)/\xs.length<zi/\Q .non (upd H l (.lst (xs++[y])))
theorem cI:MtM X "list.append" FY:=by
 intro om s σ H x vs v us Q I rx rv h;obtain⟨l,xs,y,rfl,rfl,hH,hz,q⟩:=h
 cases rx
 obtain⟨u,rfl,ru⟩:=rv.one;obtain⟨z,ou,n,r,hl,e⟩:=I.lstM hH;refine call_meets ZS ⟨_,e,rfl⟩ F.entry_list_append (F.args_list_append_2 _ _) (PySem.list_append l ou.toArray n u (by rw[zn];lia)) ⟨e,?_⟩;refine⟨.non,_,I.lset (its':=ou++[u]) hH e (by simp) (r.append (.cons ru .nil)) ?_,rfl,q⟩;rw[zd,yQ];lia
def RS:V->List V->Hp->VK->Prop:=λx vs H Q=>∃l xs i k y,x= .ref l/\vs= [.int i]/\H l=some (.lst xs)/\ -(2 ^ 63)<=i/\i<2 ^ 63/\seqIndex? i xs.length=some k/\xs[k]? =some y/\Q y (upd H l (.lst (xs.eraseIdx k)))
theorem Tq:MtM X "list.pop" RS:=by
 intro om s σ H x vs v us Q I rx rv h;obtain⟨l,xs,i,k,y,rfl,rfl,hH,h1,h2,hk,hy,q⟩:=h
 cases rx
 obtain⟨u,rfl,ru⟩:=rv.one;obtain⟨t,rfl⟩:=ru;obtain⟨z,ou,n,r,hl,e⟩:=I.lstM hH;obtain⟨w,hw,rw'⟩:=r.get hy;refine call_meets F.slot_list_pop ⟨_,e,rfl⟩ F.entry_list_pop (F.args_list_pop_2 _ _)
  (MeetsSeq.list_pop_at l ou.toArray n i t k w (fitsIndex_both h1 h2) (by rw[zn,<-hl];exact hk) (by rw[<-jd];exact hw) (by rw[zn];lia)) ⟨e,?_⟩
 refine⟨y,_,I.lset (its':=ou.eraseIdx k) hH e ?_ (r.eraseIdx k) ?_,rw',q⟩
 ·show ou.toArray.eraseIdxIfInBounds k= (ou.eraseIdx k).toArray;rw[List.eraseIdxIfInBounds_toArray]
 ·have:=rL xs k;lia
def qX:R2:=λx y H Q=>∃l b xs zs,x= .ref l/\y= .ref b/\H l=some (.lst xs)/\H b=some (.lst zs)/\xs.length+zs.length<=zi/\∀p,H p=none->Q (.ref p) (upd H p (.lst (xs++zs)))
theorem OV:OpR X (yh .Add) qX:=by
 intro om s σ H x y v u Q I rx ry h;obtain⟨l,b,xs,zs,rfl,rfl,hH,hB,hz,q⟩:=h
 cases rx
 cases ry
 obtain⟨z,ou,n,r,hl,e⟩:=I.lstM hH;obtain⟨z2,sj,n2,r2,hl2,e2⟩:=I.lstM hB;refine PySem.P.add_list e e2 ?_ (by rw[zn,zn];lia);have ea:ou.toArray++sj.toArray= (ou++sj).toArray:=by simp
 rw[ea];exact⟨.ref _,_,I.lnew (t':=s.toks) (r.append r2) (by rw[zd];lia),rfl,q _ I.fresh⟩
end
end L2
namespace Att
open PySem PySem.W PySem.Calls PyProof.Rows
theorem PV:∀ns vs,WellAll P h vs (ns.map WData.int)->IntsAre vs ns:=by
 intro ns
 induction ns with
 |nil=>
   intro vs w;rw[ZZ]at w
   cases w
   exact .nil
 |cons n ns ih=>
   intro vs w;rw[zW]at w
   cases w with
   |cons a b=>
     cases a
     exact .cons _ _ (ih _ b)
theorem mr{l:OpenLaw}{n:Nat}(hn:l.most=some n){P:Params}{h:Heap}
 (hpre:l.row.toRowW.claim.pre args=true) (hwl:WellAll P h vals args):
 ∃a vs ns,vals= [Value.ref a]/\args= [WData.list (ns.map WData.int)]/\h.get? a=some {cls:=.type "list",data:=.seq vs.toArray}/\IntsAre vs ns/\ns.length<=n:=by
 have hsh:WShape.hasAll [] args [.list .int]=true:=(pre_splitW hpre).1;have hc:l.pre.holds [] {args:=args}=true:=(pre_splitW hpre).2;obtain⟨d,r,rfl,h1,h2⟩:=hasAllW_cons hsh;obtain rfl:=hasAllW_nil h2;obtain⟨xs,rfl,h3⟩:=hasW_list h1;obtain⟨ns,rfl⟩:=items_int h3;have ow:ns.length<=n:=by
  unfold OpenLaw.pre at hc;have h4:(WTm.not (.lt (.lit (.int (n:Int))) (.len (.arg 0)))).holds [] {args:= [.list (ns.map .int)]}=true:=by have h4:=(holds_andW hc).1;rw[hn]at h4;exact h4
  have h5:=condW_of h4 (w_not (w_lt w_lit (w_len_list (w_arg rfl))));rw[zE]at h5;refine Nat.le_of_not_lt λq=>?_;have q':(n:Int)<((ns.length:Nat):Int):=by lia
  first
   |(rw[decide_eq_true q']at h5;exact absurd h5 (by decide))
   |(simp at h5;lia)
 cases hwl with
 |cons w1 w2=>
   cases w2
   cases w1 with
   |list ho hall=>exact⟨_,_,ns,rfl,rfl,ho,PV ns _ hall,ow⟩
theorem QY(l:OpenLaw)(args:List WData):l.row.toRowW.claim.post args (.bool true) args=true:=
 postW_of (r:=l.row.toRowW) (X:=(true==true))
  (show WShape.has [] (.bool true) .bool=true by first|rfl|decide|simp[WShape.has,WShape.arms,WShape.armsAll])
  (show (WTm.eq .res (.lit (.bool true))).value [] {args:=args,res:=some (.bool true),after:=args}=some (.bool (true==true))from w_eq_bool (w_res rfl) w_lit) rfl
theorem attach_call{l:OpenLaw}{n:Nat}{q:zB}{loose:List Str}{d:DefRec}
 (hn:l.most=some n) (hdf:d.params.defaults= [])
 (call:∀(w:zI) (WY W1:zh) (mg mb:Str->Option ze) (fa:Addr) (o:Obj) (pm cd doc:ze) (a:Addr) (vs:List ze) (ns:List Int),
   Ground q loose [] XP w WY mg mb W1.heap->YP w W1.heap->
   W1.heap.get? fa=some o->o.data= .func (docDef d.name d.params d.body d.scope pm cd doc)->W1.heap.CodeRec cd d.name->mg d.name=some (.ref fa)->
   W1.heap.get? a=some {cls:=.type "list",data:=.seq vs.toArray}->IntsAre vs ns->ns.length<=n->W1.gens= #[]->
   ZC (zz l.prog w) YV (.call (.ref fa) ⟨[.ref a], []⟩) (λr s'=>r= .ok (.ret (.bool true))/\OldK W1.heap s'.heap/\s'.os=W1.os/\ZI s'.gens) W1):
 WalkO q loose XP YP l.row.toRowW d [] (λf vs=>PySem.call f vs):=by
 intro w WY W1 mg mb G Y fa o pm cd doc dV kV ho hd hcd hD hmg hg args vals as hpre hlay hrd hwl hlo;obtain rfl:dV= .none:=Dflts.none hD hdf;obtain rfl:kV= .none:=Dflts.noKw hD;obtain⟨a,vs,ns,rfl,rfl,hobj,hints,ow⟩:=mr hn hpre hwl;refine enter_call (XB (call w WY W1 mg mb fa o pm cd doc a vs ns G Y ho (fd_plain hd) hcd hmg hobj hints ow hg) λr s' hq=>?_);obtain⟨rfl,h2,h3,h4⟩:=hq;exact⟨.inl ⟨.bool true,.bool true, [],rfl,λ_=>rfl,.bool true,QY l _,λ_=>⟨List.Pairwise.nil,λ_ hm=>(nomatch hm)⟩⟩,h2,h3,h4⟩
section
variable{prog:zB}{w:zI}{A:zL}{s:zh}{K:Frag}
end
end Att
namespace L2
open PySem PySem.Spec PyProof.Rows
theorem uQ:∀ {vs} {ns},IntsAre vs ns->m6 (ns.map V.int) vs
|_,_,.nil=>.nil
|_,_,.cons n t h=>.cons ⟨t,rfl⟩ (uQ h)
def iG(H:Hp):Prop:=∀b,H b=none\/∃o xs,H b=some (.frz o (.lst xs))
theorem Vv{P:zB}{w:zI}{K:zc}{CX:CXT}{k:Nat}{fa a:Addr}{fd:xm}{x:Str}{sp:Sp}{W1:zh}{vs:List ze}{ns:List Int}
 (KX:K.In W1.heap) (hns:W1.heap.Ns zF mg) (hb:W1.heap.Ns builtinsNs mb) (hbb:∀x:Str,x≠ "__name__"->mb x=zU x) (hlim:W1.heap.NoLimit) (hg:W1.gens= #[])
 (ha:W1.heap.get? a=some {cls:=.type "list",data:=.seq vs.toArray}) (hi:IntsAre vs ns) (hl:ns.length<=zi) (hr:K8 k YV)
 (F:∀base:Heap,K.In base->base.Ns zF mg->V2 P w K mg base CX k fa fd [x] sp) (hbind:∀(s:zh) (u:ze),Yy s fd ⟨[u], []⟩ [(x,u)])
 (hsp:∀H:Hp,iG H->SqL K H a (ns.map V.int)->sp [.ref a] H (λv _=>v= .bl true) λ_ _ _=>False)
 (hCX:∀H e s',CX [] H W1 (λ_ _ _=>False) e s'->False):
 ZC (zz P w) YV (.call (.ref fa) ⟨[.ref a], []⟩) (λr s'=>r= .ok (.ret (.bool true))/\OldK W1.heap s'.heap/\s'.os=W1.os/\ZI s'.gens) W1:=by
 have rv:=uQ hi;have lenV:=hi.length
 -- from an abstract heap in which nothing but the script may be tracked
 have core:∀H:Hp,iG H->SqL K H a (ns.map V.int)->HOk P w H W1.heap->(∀b,H b≠none->b=a)->(H a≠none->K.lookup a=none)->
  ZC (zz P w) YV (.call (.ref fa) ⟨[.ref a], []⟩) (λr s'=>r= .ok (.ret (.bool true))/\OldK W1.heap s'.heap/\s'.os=W1.os/\ZI s'.gens) W1:=by
  intro H hO hS hok hA hK;have base_of:∀ {b:Addr} {o:Obj},W1.heap.get? b=some o->H b=none->(b9 W1.heap H).get? b=some o:=λe n=>qw e n;have noA:∀ {b:Addr} {o:Obj} {es:Array DictEntry} {ep:Nat},W1.heap.get? b=some o->o.data= .dict es ep->H b=none:=λ{b o es ep} e d=>by
   cases q:H b with
   |none=>rfl
   |some u=>
     have e':b=a:=hA b (by rw[q];simp);subst e';rw[ha]at e;cases e;have d':Data.seq vs.toArray _=Data.dict es ep:=d
     cases d'
  have nsK:∀ {b:Addr} {m:Str->Option ze},W1.heap.Ns b m->(b9 W1.heap H).Ns b m:=λ{b m} ⟨o,es,ep,e,d,r⟩=>⟨o,es,ep,base_of e (noA e d),d,r⟩;have hKb:K.In (b9 W1.heap H):=λb o e=>base_of (KX b o e) (by
   cases q:H b with
   |none=>rfl
   |some u=>
     have e':b=a:=hA b (by rw[q];simp);subst e';rw[hK (by rw[q];simp)]at e;cases e)
  have hM:Mod K mg (b9 W1.heap H):=⟨hKb,nsK hns,⟨mb,nsK hb,hbb⟩,let ⟨mc,h1,h2⟩:=hlim;⟨mc,nsK h1,h2⟩⟩;have e0:UB P w K mg (b9 W1.heap H) YV [] W1 H:=⟨rfl,hM,λb o e=>Wb e,Xf (Kb _ _),trivial,λb hb=>absurd (show b∈([]:List Addr)from hb) (by simp),hok,.of_eq hg⟩;refine XB ((F _ hKb (nsK hns)).run YV [] W1 H ⟨[.ref a], []⟩ [.ref a] [.ref a] _ _ hr e0 (hbind W1 (.ref a)) (.cons rfl .nil) (hsp H hO hS)) λr s' h=>?_
  cases r with
  |error e=>exact(hCX H e s' h).elim
  |ok fl=>
    cases fl with
    |next=>exact yc h
    |brk=>exact yc h
    |cont=>exact yc h
    |ret u=>
      obtain⟨v,H',os,bare,un,hok',r',q⟩:=h;have q':v= .bl true:=q;subst q';obtain rfl:u=Value.bool true:=r';refine⟨rfl,OldK.of_keep λb o e=>?_,os,bare⟩
      cases q:H b with
      |none=>exact un.keep b o e q (by intro z;exact absurd (show b∈([]:List Addr)from z) (by simp)) (by simp)
      |some u=>
        rcases hO b with z|⟨ob,xs,z⟩
        ·rw[q]at z;cases z
        ·have z2:=un.frzs b ob _ z;obtain⟨e1,_⟩:=hok b _ z;obtain⟨e2,_⟩:=hok' b _ z2;rw[e]at e1;cases e1;exact e2
 cases hk:K.lookup a with
 |some o=>
   -- the script is one of the module's own objects
   have e:=KX a o hk;rw[ha]at e
   cases e
   refine core (λ_=>none) (λ_=>.inl rfl) (.inr ⟨_,vs.toArray,_,hk,rfl,rfl,rfl,by rw[zn,lenV];exact hl,by simpa using rv⟩) (λb u z=>by have z':(none:Option HO)=some u:=z;cases z') (λb z=>absurd rfl z) λz=>absurd rfl z
 |none=>
   refine core (λb=>if b=a then some (.frz {cls:=.type "list",data:=.seq vs.toArray} (.lst (ns.map V.int)))else none) (λb=>?_) (.inl (.inr ⟨{cls:=.type "list",data:=.seq vs.toArray},if_pos rfl⟩)) (λb u z=>?_) (λb z=>?_) λ_=>hk
   ·by_cases hb:b=a
    ·exact .inr ⟨_,_,if_pos hb⟩
    ·exact .inl (if_neg hb)
   ·by_cases hb:b=a
    ·have z':=(if_pos hb).symm.trans z
     cases z'
     subst hb;exact⟨ha,by rw[zE];exact hl,vs,_,rv,ha⟩
    ·have z':=(if_neg hb).symm.trans z
     cases z'
   ·by_cases hb:b=a
    ·exact hb
    ·exact absurd (if_neg hb) z
theorem walk_of{l:PySem.W.OpenLaw}{n k:Nat}{q:zB}{loose:List Str}{YP:zI->Heap->Prop}{d:DefRec}{K:Params->zc}{CX:zI->CXT}{sp:zI->Sp}{x:Str}
 (hn:l.most=some n) (hn2:n<=zi) (hdf:d.params.defaults= []) (hr:K8 k YV)
 (hY:∀(w:zI) (h:Heap),YP w h->(K w.params).In h)
 (F:∀(w:zI) (mg:Str->Option ze) (fa:Addr) (h:Heap),(K w.params).In h->h.Ns zF mg->mg d.name=some (.ref fa)->
   ∃fd:xm,(∀(s:zh) (u:ze),Yy s fd ⟨[u], []⟩ [(x,u)])/\
    ∀base:Heap,(K w.params).In base->base.Ns zF mg->V2 l.prog w (K w.params) mg base (CX w) k fa fd [x] (sp w))
 (hsp:∀(w:zI) (H:Hp) (a:Addr) (ns:List Int),ns.length<=n->iG H->SqL (K w.params) H a (ns.map V.int)->sp w [.ref a] H (λv _=>v= .bl true) λ_ _ _=>False)
 (hCX:∀(w:zI) (H:Hp) (s:zh) (e:ze) (s':zh),CX w [] H s (λ_ _ _=>False) e s'->False):
 PySem.W.WalkO q loose XP YP l.row.toRowW d [] (λf vs=>PySem.call f vs):=by
 refine Att.attach_call hn hdf λw WY W1 mg mb fa o pm cd doc a vs ns G Y ho hd hcd hmg hobj hints ow hg=>?_;have KX:=hY w _ Y;obtain⟨fd,hb,hF⟩:=F w mg fa _ KX G.T.g hmg;exact Vv KX G.T.g G.T.b G.T.builtins G.T.nolimit hg hobj hints (jc ow hn2) hr hF hb (λH hO hS=>hsp w H a ns ow hO hS) λH e s'=>hCX w H W1 e s'
def P9(s:Stmt):Arguments:=match s with
| .FunctionDef _ a _ _ _ _ _ _ _ _=>a
|_=>{posonlyargs:= [],args:= [],vararg:=none,kwonlyargs:= [],kw_defaults:= [],kwarg:=none,defaults:= []}
def O9(s:Stmt):List Stmt:=match s with
| .FunctionDef _ _ b _ _ _ _ _ _ _=>b
|_=> []
def o5(s:Stmt):Scope:=match s with
| .FunctionDef _ _ _ _ _ _ sc _ _ _=>sc
|_=>{kind:=.function,names:= [],isGenerator:=false,isCoroutine:=false}
abbrev CX0:CXT:=λ_ _ _ _ _ _=>False
abbrev E0:XK:=λ_ _ _=>False
theorem EF:GC CX0 X E0:=λ_ _ _ _ _ _ _ h=>h.elim
structure Fun(K:zc)(x qual:Str)(st:Stmt)(f:Addr)(fd:xm):Prop where
 ex:∃(oc:ze) (od:Option Addr) (kV doc pm:ze) (an:Option Addr) (pq ct:ze) (osl:Array (Option ze)),
  fd=yG x qual (P9 st) (O9 st) (o5 st) .none kV doc pm an pq ct/\K.lookup f=some ⟨oc,od,.func fd,osl⟩/\Zj K pq qual=true
 kp:jU K (.ref f)=true
section
variable{P:zB}{w:zI}{K:zc}{mg:Str->Option ze}{base:Heap}
theorem Fun.ok{x qual:Str}{st:Stmt}{f:Addr}{k:Nat}{sp:Sp}(F:Fun K x qual st f fd)(S:M4 N ps (o5 st))(len:∀vs H Q E,sp vs H Q E->vs.length=ps.length)
 (hbody:∀(pq:ze) (A:zL) (outer:List Env) (s:zh) (H:Hp) (vs:List V) (Q:VK) (E:XK),K8 k (A.deeper (yb qual (o5 st) s.heap.objs.size f pq))->sp vs H Q E->
   ∃t,PSs (U5 CX0 P w K mg base N qual (o5 st) f pq A outer s H E).nox (O9 st) t/\t {nx:=λ_ H'=>Q .non H',rt:=Q} (start N vs) H):V2 P w K mg base CX0 (k+1) f fd ps sp:=by
 obtain⟨oc,od,kV,doc,pm,an,pq,ct,osl,rfl,lk,hcd⟩:=F.ex;refine vP lk hcd S len λA outer s H vs Q E hr hsp=>?_;obtain⟨t,h,q⟩:=hbody pq A outer s H vs Q E hr hsp;exact⟨t,h.nox,q⟩
theorem Fun.binds{x qual:Str}{st:Stmt}{f:Addr}(F:Fun K x qual st f fd)
 (h:∀(kV doc pm:ze) (an:Option Addr) (pq ct:ze) (us:List ze),us.length=ps.length->bindArgs (yG x qual (P9 st) (O9 st) (o5 st) .none kV doc pm an pq ct) ⟨us, []⟩=pure (ps.zip us)):y4 K fd ps []:=by
 obtain⟨oc,od,kV,doc,pm,an,pq,ct,osl,rfl,lk,hcd⟩:=F.ex;exact .all (h kV doc pm an pq ct)
theorem FG{x qual:Str}{st:Stmt}{f:Addr}{oc:ze}{od an:Option Addr}{kV doc pm pq ct:ze}(l:K.lookup f=some ⟨oc,od,.func (yG x qual (P9 st) (O9 st) (o5 st) .none kV doc pm an pq ct),osl⟩)
 (c:Zj K pq qual=true) (k:jU K (.ref f)=true):Fun K x qual st f (yG x qual (P9 st) (O9 st) (o5 st) .none kV doc pm an pq ct):=⟨⟨oc,od,kV,doc,pm,an,pq,ct,osl,rfl,l,c⟩,k⟩
end
section
theorem pv(i:Nat)(hN:X.N[i]? =some x)(hv:Vis X.env.scope x)(hd:(x==("__debug__" :Str))=false)
 (hcd:(x==("__classdict__" :Str))=false):PE X (.Name x pos) (VA i):=MC hN hv hd hcd
end
def Same(H H':Hp):Prop:=∀b o,H b=some o->H' b=some o
theorem Same.refl(H:Hp):Same H H:=λ_ _ h=>h
theorem Same.trans(a:Same H H1)(b:Same H1 H2):Same H H2:=λc o h=>b c o (a c o h)
theorem Same.free(e:Same H H')(h:H' l=Option.none):H l=Option.none:=by
 cases q:H l with
 |none=>rfl
 |some o=>
   rw[e l o q]at h
   cases h
theorem Same.seq{K:zc}{H H':Hp}{a:Addr}(e:Same H H')(h:SqL K H a xs):SqL K H' a xs:=by
 rcases h with(h|⟨o,h⟩)|h
 ·exact .inl (.inl (e _ _ h))
 ·exact .inl (.inr ⟨o,e _ _ h⟩)
 ·exact .inr h
section
variable[DecidableEq κ]
def u3(oq:List (κ×V))(k:κ):Option V:=(oq.find? λkv=>decide (kv.1=k)).map (·.2)
def P3(oq:List (κ×V))(k:κ)(v:V):List (κ×V):=
 if (oq.any λkv=>decide (kv.1=k))=true then oq.map (λkv=>if kv.1=k then (kv.1,v)else kv)else oq++[(k,v)]
def QQ(oq:List (κ×V))(k:κ):List (κ×V):=oq.filter λkv=>decide (kv.1≠k)
theorem RF{k:κ}(e:p.1=k):u3 (p::r) k=some p.2:=by simp[u3,yU,e]
theorem kH{k:κ}(e:¬p.1=k):u3 (p::r) k=u3 r k:=by simp[u3,yU,e]
theorem FL(k:κ):∀oq:List (κ×V),(oq.any λkv=>decide (kv.1=k))= (u3 oq k).isSome
|[]=>rfl
|p::r=>by
  rw[yt];by_cases e:p.1=k
  ·simp only[RF e,decide_eq_true e,Bool.true_or,Option.isSome_some]
  ·rw[kH e,decide_eq_false e,Bool.false_or];exact FL k r
theorem P6.isSome_eq(r:P6 o u):o.isSome=u.isSome:=by
 cases o with
 |none=>cases u with
   |none=>rfl
   |some _=>exact(show False from r).elim
 |some _=>cases u with
   |none=>exact(show False from r).elim
   |some _=>rfl
theorem P6.getD(r:P6 o u)(rd:u5 d d'):u5 (o.getD d) (u.getD d'):=by
 cases o with
 |none=>cases u with
   |none=>exact rd
   |some _=>exact(show False from r).elim
 |some _=>cases u with
   |none=>exact(show False from r).elim
   |some _=>exact r
theorem KV.val(r:KV oq vs)(k:κ):P6 (u3 oq k) (JB vs k):=by
 unfold KV at r
 induction r with
 |nil=>exact True.intro
 |@cons p q ps qs h t ih=>
   obtain⟨h1,h2⟩:=h;by_cases e:p.1=k
   ·have e':q.1=k:=h1.symm.trans e;have b:JB (q::qs) k=some q.2:=by simp[JB,yU,e']
    rw[RF e,b];exact h2
   ·have e':¬q.1=k:=λz=>e (h1.trans z);have b:JB (q::qs) k=JB qs k:=by simp[JB,yU,e']
    rw[kH e,b];exact ih
theorem KV.any(r:KV oq vs)(k:κ):(oq.any λkv=>decide (kv.1=k))=vs.any λkv=>decide (kv.1=k):=by
 unfold KV at r
 induction r with
 |nil=>rfl
 |cons h t ih=>rw[yt,yt,ih,h.1]
theorem KV.repl(r:KV oq vs)(k:κ)(ry:u5 y u):
 KV (oq.map λkv=>if kv.1=k then (kv.1,y)else kv) (vs.map λkv=>if kv.1=k then (kv.1,u)else kv):=by
 unfold KV at r ⊢
 induction r with
 |nil=>exact .nil
 |@cons p q ps qs h t ih=>
   rw[zW,zW];refine .cons ?_ ih;obtain⟨h1,h2⟩:=h;by_cases e:p.1=k
   ·rw[if_pos e,if_pos (h1.symm.trans e)];exact⟨h1,ry⟩
   ·rw[if_neg e,if_neg (λz=>e (h1.trans z))];exact⟨h1,h2⟩
theorem KV.put(r:KV oq vs)(k:κ)(ry:u5 y u):KV (P3 oq k y) (stored vs k u):=by
 unfold P3 stored;rw[r.any k];by_cases e:(vs.any λkv=>decide (kv.1=k))=true
 ·rw[if_pos e,if_pos e];exact r.repl k ry
 ·rw[if_neg e,if_neg e];exact Paired.snoc r ⟨rfl,ry⟩
theorem KV.drop(r:KV oq vs)(k:κ):KV (QQ oq k) (without vs k):=by
 unfold KV at r ⊢;unfold QQ without
 induction r with
 |nil=>exact .nil
 |@cons p q ps qs h t ih=>
   obtain⟨h1,h2⟩:=h;rw[List.filter_cons,List.filter_cons];by_cases e:p.1=k
   ·have a:¬decide (p.1≠k)=true:=by simp[e]
    have b:¬decide (q.1≠k)=true:=by simp[h1.symm.trans e]
    rw[if_neg a,if_neg b];exact ih
   ·have e':¬q.1=k:=λz=>e (h1.trans z);have a:decide (p.1≠k)=true:=by simp[e]
    have b:decide (q.1≠k)=true:=by simp[e']
    rw[if_pos a,if_pos b];exact .cons ⟨h1,h2⟩ ih
theorem KV.length(r:KV oq vs):oq.length=vs.length:=xH r
end
theorem OG(r:u5 (kV k) u):(O1 P w).is k u=true:=by
 cases k with
 |inl i=>obtain⟨t,e⟩:=(show ∃t,u=Value.int i t from r);subst e;exact ci P w i t
 |inr x=>obtain⟨t,e⟩:=(show ∃t,u=Value.str x t from r);subst e;exact Hm P w x t
theorem UN:∀ {ks} {us},m6 (ks.map kV) us->ItemsAre (O1 P w) ks us
|[],_,r=>by rw[ZZ]at r;cases r;exact .nil
|k::ks,_,r=>by
  rw[zW]at r
  cases r with
  |cons h t=>exact .cons (OG h) (UN t)
abbrev KT(H:Hp):List (List Key×V)->List (List Key×Addr×ze)->Prop:=Paired λp q=>p.1=q.1/\H q.2.1=some (.tup (p.1.map kV))/\u5 p.2 q.2.2
theorem KT.val{H:Hp}(r:KT H oq xs)(k:List Key):P6 (u3 oq k) ((atKey xs k).map (·.2)):=by
 induction r with
 |nil=>exact True.intro
 |@cons p q ps qs h t ih=>
   obtain⟨h1,_,h2⟩:=h;by_cases e:p.1=k
   ·have e':q.1=k:=h1.symm.trans e;have b:atKey (q::qs) k=some q.2:=by simp[atKey,yU,e']
    rw[RF e,b];exact h2
   ·have e':¬q.1=k:=λz=>e (h1.trans z);have b:atKey (q::qs) k=atKey qs k:=by simp[atKey,yU,e']
    rw[kH e,b];exact ih
theorem KT.repl(r:KT H oq xs)(k:List Key)(ry:u5 y u):
 KT H (oq.map λkv=>if kv.1=k then (kv.1,y)else kv) (xs.map (putAt k u)):=by
 induction r with
 |nil=>exact .nil
 |@cons p q ps qs h t ih=>
   rw[zW,zW];refine .cons ?_ ih;obtain⟨h1,h2,h3⟩:=h;unfold putAt;by_cases e:p.1=k
   ·rw[if_pos e,if_pos (h1.symm.trans e)];exact⟨h1,h2,ry⟩
   ·rw[if_neg e,if_neg (λz=>e (h1.trans z))];exact⟨h1,h2,h3⟩
theorem KT.put(r:KT H oq xs)(k:List Key)(hb:H b=some (.tup (k.map kV)))(ry:u5 y u):
 KT H (P3 oq k y) (storedH xs k b u):=by
 have e:(oq.any λkv=>decide (kv.1=k))= (atKey xs k).isSome:=by rw[FL,(r.val k).isSome_eq,Zx]
 unfold P3 storedH;rw[e];by_cases q:(atKey xs k).isSome=true
 ·rw[if_pos q,if_pos q];exact r.repl k ry
 ·rw[if_neg q,if_neg q];exact Paired.snoc r ⟨rfl,hb,ry⟩
theorem KT.keeps(r:KT H oq xs)(ht:∀b ys,H b=some (.tup ys)->H' b=some (.tup ys)):KT H' oq xs:=
 Paired.mapP r λ_ _ z=>⟨z.1,ht _ _ z.2.1,z.2.2⟩
section
theorem iK(ok:HOk P w H h)(e:Rd H a u):R0 P w H h a u:=e.ok ok
theorem GF(ok:HOk P w H h)(e:Rd H a (.dK oq)):oq.length<=zi/\(a==xU)=false/\∃vs,KV oq vs/\h.DictOf (O1 P w) a vs:=
 show R0 P w H h a (.dK oq)from iK ok e
theorem MM(ok:HOk P w H h)(e:H a=some (.dK oq)):oq.length<=zi/\(a==xU)=false/\∃vs,KV oq vs/\h.DictOf (O1 P w) a vs:=GF ok (.inl e)
theorem tK(ok:HOk P w H h)(e:H a=some (.tup (ks.map kV))):(tupleKind (O1 P w)).is h ks a:=by obtain⟨_,ou,r,o,h1,h2,n,h3⟩:=(show R0 P w H h a (.tup (ks.map kV))from ok a _ e);exact⟨o,ou.toArray,n,h1,h2,(xy h3).1,by simpa using UN r⟩
theorem IN(ok:HOk P w H h)(e:Rd H a (.dT oq)):oq.length<=zi/\(a==xU)=false/\
 ∃xs,KT H oq xs/\h.DictOfH (tupleKind (O1 P w)) a xs:=by
 obtain⟨z,y,xs,r,o,es,ep,h1,h2,h3,h4,h5⟩:=(show R0 P w H h a (.dT oq)from iK ok e);refine⟨z,y,xs,r,o,es,ep,h1,h2,h3,h4,λx hx=>?_,h5⟩;have all:∀ {l:List (List Key×V)} {m:List (List Key×Addr×ze)},KT H l m->∀x∈m,(tupleKind (O1 P w)).is h x.1 x.2.1:=by
  intro l m q
  induction q with
  |nil=>intro x hx;exact nomatch hx
  |@cons p q ps qs hq t ih=>
    intro x hx;rcases zk.mp hx with e|hx
    ·subst e;exact tK ok (by rw[<-hq.1];exact hq.2.1)
    ·exact ih x hx
 exact all r x hx
end
def uA(H:Hp)(a:Addr)(y:V)(r:Option V):Prop:=
 (∃oq k,Rd H a (.dK oq)/\y=kV k/\r=u3 oq k)\/∃oq k b,Rd H a (.dT oq)/\y= .ref b/\H b=some (.tup (k.map kV))/\r=u3 oq k
def pG(H:Hp)(a:Addr)(y v:V)(H':Hp):Prop:=
 (∃oq k,H a=some (.dK oq)/\y=kV k/\oq.length<zi/\H'=upd H a (.dK (P3 oq k v)))\/
 ∃oq k b,H a=some (.dT oq)/\y= .ref b/\H b=some (.tup (k.map kV))/\oq.length<zi/\H'=upd H a (.dT (P3 oq k v))
theorem uA.k{k:Key}(e:H a=some (.dK oq)):uA H a (kV k) (u3 oq k):=.inl ⟨oq,k,.inl e,rfl,rfl⟩
theorem uA.t{k:List Key}(e:H a=some (.dT oq))(eb:H b=some (.tup (k.map kV))):uA H a (.ref b) (u3 oq k):=.inr ⟨oq,k,b,.inl e,rfl,eb,rfl⟩
theorem pG.k{k:Key}(e:H a=some (.dK oq))(hl:oq.length<zi):pG H a (kV k) v (upd H a (.dK (P3 oq k v))):=.inl ⟨oq,k,e,rfl,hl,rfl⟩
theorem pG.t{k:List Key}(e:H a=some (.dT oq))(eb:H b=some (.tup (k.map kV)))(hl:oq.length<zi):
 pG H a (.ref b) v (upd H a (.dT (P3 oq k v))):=.inr ⟨oq,k,b,e,rfl,eb,hl,rfl⟩
section
theorem Inv.big(I:Inv X om σ H s):xU<s.heap.objs.size:=by have h:zF<s.heap.objs.size:=(I.mod.glob.keeps I.bk).lt;exact xV (by decide) h
theorem LX(hu:A.units+1<xL)(I:Inv X om σ H s)(g:uA H a y o)(ry:u5 y u)(h:∀s',Inv X om σ H s'->Q (.bool o.isSome) s'):
 zq (zz X.prog X.w) A (zM .In u (.ref a)) Q E s:=by
 rcases g with⟨oq,k,e,ey,l⟩|⟨oq,k,b,e,ey,eb,l⟩
 ·subst ey;obtain⟨z,hd,vs,rel,dd⟩:=GF I.hok e;refine wpAny_in_of (OG ry) hd dd.mapOf ?_;rw[<-(rel.val k).isSome_eq,<-l];exact h _ (I.tok _)
 ·subst ey
  cases (show u=Value.ref b from ry)
  obtain⟨z,hd,xs,rel,dd⟩:=IN I.hok e;refine wpAny_in_heap (tupleKind_room_in1 hu) (tK I.hok eb) hd dd ?_;have q:=(rel.val k).isSome_eq;rw[Zx]at q;rw[<-q,<-l];exact h _ (I.tok _)
theorem wZ(hu:A.units+1<xL)(I:Inv X om σ H s)(g:uA H a y o)(ry:u5 y u)(h:∀s',Inv X om σ H s'->Q (.bool (!o.isSome)) s'):
 zq (zz X.prog X.w) A (zM .NotIn u (.ref a)) Q E s:=by
 rcases g with⟨oq,k,e,ey,l⟩|⟨oq,k,b,e,ey,eb,l⟩
 ·subst ey;obtain⟨z,hd,vs,rel,dd⟩:=GF I.hok e;refine wpAny_notIn_of (OG ry) hd dd.mapOf ?_;rw[<-(rel.val k).isSome_eq,<-l];exact h _ (I.tok _)
 ·subst ey
  cases (show u=Value.ref b from ry)
  obtain⟨z,hd,xs,rel,dd⟩:=IN I.hok e;refine wpAny_notIn_heap (tupleKind_room_in1 hu) (tK I.hok eb) hd dd ?_;have q:=(rel.val k).isSome_eq;rw[Zx]at q;rw[<-q,<-l];exact h _ (I.tok _)
theorem fZ(z:oq.length<=zi)(hd:(a==xU)=false)(rel:KV oq vs)(dd:h'.DictOf (O1 P w) a vs):
 R0 P w H' h' a (.dK oq):=⟨z,hd,vs,rel,dd⟩
theorem Vw(I:Inv X om σ H s)(e:Rd H a (.dK oq))(h:∀t s',Inv X om σ H s'->Q (.int oq.length t) s'):zq (zz X.prog X.w) A (call (.builtin "len") [.ref a]) Q E s:=by obtain⟨z,hd,vs,rel,dd⟩:=GF I.hok e;refine call_len_dict hd dd (by rw[<-rel.length];rw[yF]at z;lia) ?_;rw[<-rel.length];exact h _ _ (I.tok _)
end
def IJ:List (TE×TE)->St->Hp->(List (V×V)->Hp->Prop)->Prop
|[],_,H,Q=>Q [] H
|(tk,tv)::r,σ,H,Q=>tk σ H λx H1=>tv σ H1 λy H2=>IJ r σ H2 λps H3=>Q ((x,y)::ps) H3
abbrev VV:List (V×V)->List (ze×ze)->Prop:=Paired λp q=>u5 p.1 q.1/\u5 p.2 q.2
def PPs(X:Cx)(pos:Pos)(keys:List (Option Expr))(values:List Expr)(trs:List (TE×TE)):Prop:=
 ∀(om:PNS) (s:zh) (σ:St) (H:Hp) (Q:List (V×V)->Hp->Prop),Inv X om σ H s->IJ trs σ H Q->
  zq (zz X.prog X.w) X.A (evalPairs (pairTrees keys values X.env pos)) (λvs s'=>∃ps H',Inv X om σ H' s'/\VV ps vs/\Q ps H') X.xe s
structure M1(X:Cx)(o:Expr)(m:Str)(apos:Pos)(e:Expr)(cpos:Pos):Prop where
 base:Yc o m X.env (eval o X.env)=eval o X.env
 few:((yo cpos (zC [e] X.env)).all (λx=> !x.1)&&(JK cpos (YQ [] X.env)).all (λx=>x.1.isSome)
  && decide (([e]:List Expr).length+([]:List Keyword).length+(if ([]:List Keyword).isEmpty then 0 else 1)<30))=true
 line:(apos.endLine==cpos.line)=true
 trees:yo cpos (zC [e] X.env)= [(false,eval e X.env)]
structure M2(X:Cx)(o:Expr)(m:Str)(apos:Pos)(e f:Expr)(cpos:Pos):Prop where
 base:Yc o m X.env (eval o X.env)=eval o X.env
 few:((yo cpos (zC [e,f] X.env)).all (λx=> !x.1)&&(JK cpos (YQ [] X.env)).all (λx=>x.1.isSome)
  && decide (([e,f]:List Expr).length+([]:List Keyword).length+(if ([]:List Keyword).isEmpty then 0 else 1)<30))=true
 line:(apos.endLine==cpos.line)=true
 trees:yo cpos (zC [e,f] X.env)= [(false,eval e X.env),(false,eval f X.env)]
section
theorem Bq:R7 X (.builtin "len") (λxs H Q=>∃a oq,xs= [V.ref a]/\H a=some (.dK oq)/\Q (.int oq.length) H):=by
 intro om s σ H xs us Q I r h;obtain⟨a,oq,rfl,ha,q⟩:=h;obtain⟨u,rfl,ru⟩:=S3 r
 cases ru
 exact Vw I (.inl ha) λt s' I'=>⟨.int oq.length,H,I',⟨t,rfl⟩,q⟩
end
section
variable[DecidableEq κ]
end
end L2
namespace DL
open PySem PySem.Spec L2
open PyProof.Rows hiding St
inductive D where
|non|bl (b:Bool)|int (i:Int)|str (x:Str)|tup (l:List D)|ref (i:Nat)|fn (x:Str)|ty (n:String)
inductive DO where
|lst (l:List D)|rol (l:List D)|dct (l:List (Key×D))|rod (l:List (Key×D))
abbrev DH:=List DO
abbrev DPP:=D->DH->Prop
abbrev DSt:=List (Option D)
structure Wc where
 K:zc
 mg:Str->Option ze
abbrev wc(X:Cx):Wc:=⟨X.K,X.mg⟩
mutual
def d7(c:Wc)(μ:List Addr)(H:Hp):D->V->Prop
| .non,v=>v= .non
| .bl b,v=>v= .bl b
| .int i,v=>v= .int i
| .str x,v=>v= .str x
| .ty n,v=>v= .ty n
| .fn x,v=>∃a,c.mg x=some (.ref a)/\v= .ref a
| .ref i,v=>∃a,μ[i]? =some a/\v= .ref a
| .tup l,v=>∃a vs,v= .ref a/\SqT c.K H a vs/\g8 c μ H l vs
def g8(c:Wc)(μ:List Addr)(H:Hp):List D->List V->Prop
|[],vs=>vs= []
|d::ds,vs=>∃v r,vs=v::r/\d7 c μ H d v/\g8 c μ H ds r
end
def T8(c:Wc)(μ:List Addr)(H:Hp):List (Key×D)->List (Key×V)->Prop
|[],oq=>oq= []
|(k,d)::r,oq=>∃v t,oq= (k,v)::t/\d7 c μ H d v/\T8 c μ H r t
structure Ext(μ:List Addr)(H:Hp)(X2:List Addr)(H':Hp):Prop where
 pre:μ <+:X2
 new:∀a∈X2,a∉μ->H a=none
 oth:∀b o,H b=some o->b∉μ->H' b=some o
 tup:∀b xs,H b=some (.tup xs)->H' b=some (.tup xs)
 frz:∀b o u,H b=some (.frz o u)->H' b=some (.frz o u)
theorem Ext.refl(μ:List Addr)(H:Hp):Ext μ H μ H:=⟨Xp _,λa h n=>absurd h n,λ_ _ h _=>h,λ_ _ h=>h,λ_ _ _ h=>h⟩
theorem Ext.trans(a:Ext μ H X0 H1)(b:Ext X0 H1 WW H2):Ext μ H WW H2 where
 pre:=a.pre.trans b.pre
 new:=λx h n=>by
  by_cases h1:x∈X0
  ·exact a.new x h1 n
  ·have e1:=b.new x h h1;rcases e:H x with _|o
   ·rfl
   ·rw[a.oth x o e n]at e1;exact BF e1
 oth:=λx o e n=>by refine b.oth x o (a.oth x o e n) λh1=>?_;have:=a.new x h1 n;rw[e]at this;exact BF this
 tup:=λx xs e=>b.tup x xs (a.tup x xs e)
 frz:=λx o u e=>b.frz x o u (a.frz x o u e)
theorem Ext.lay(h:H p=none)(o:HO):Ext μ H μ (upd H p o):=
 ⟨Xp _,λa h n=>absurd h n,λb o' q _=>by rw[m7 (m8 q h)];exact q,λb xs q=>by rw[m7 (m8 q h)];exact q,λb o' u q=>by rw[m7 (m8 q h)];exact q⟩
theorem Ext.add(h:H p=none)(o:HO):Ext μ H (μ++[p]) (upd H p o):=
 ⟨List.prefix_append _ _,λa ha n=>by
  rcases jr.mp ha with z|z
  ·exact absurd z n
  ·rw[zt.mp z];exact h,λb o' q _=>by rw[m7 (m8 q h)];exact q,λb xs q=>by rw[m7 (m8 q h)];exact q,λb o' u q=>by rw[m7 (m8 q h)];exact q⟩
theorem Ext.mut(hp:p∈μ)(h:H p=some o')(n1:∀xs,o'≠ .tup xs)(n2:∀o u,o'≠ .frz o u)(o:HO):Ext μ H μ (upd H p o):=
 ⟨Xp _,λa h n=>absurd h n,λb o2 q n=>by rw[m7 (λe=>n (by rw[e];exact hp))];exact q,λb xs q=>by
  rw[m7 (λe=>by subst e;rw[h]at q;cases q;exact n1 _ rfl)];exact q,
  λb oo u q=>by rw[m7 (λe=>by subst e;rw[h]at q;cases q;exact n2 _ _ rfl)];exact q⟩
theorem Ext.sqT{K:zc}(k:Ext μ H X2 H')(h:SqT K H a xs):SqT K H' a xs:=by
 rcases h with(h|⟨o,h⟩)|h
 ·exact .inl (.inl (k.tup _ _ h))
 ·exact .inl (.inr ⟨o,k.frz _ _ _ h⟩)
 ·exact .inr h
def RoL(K:zc)(H:Hp)(a:Addr)(xs:List V):Prop:=(∃o,H a=some (.frz o (.lst xs)))\/(SqL K (λ_=>none) a xs)
theorem Fx{K:zc}(h:SqL K (λ_=>none) a xs):SqL K H a xs:=by
 rcases h with(h|⟨o,h⟩)|h
 ·exact w6 h
 ·exact w6 h
 ·exact .inr h
theorem RoL.sq{K:zc}(h:RoL K H a xs):SqL K H a xs:=by
 rcases h with⟨o,h⟩|h
 ·exact .inl (.inr ⟨o,h⟩)
 ·exact Fx h
theorem Ext.roL{K:zc}(k:Ext μ H X2 H')(h:RoL K H a xs):RoL K H' a xs:=by
 rcases h with⟨o,h⟩|h
 ·exact .inl ⟨o,k.frz _ _ _ h⟩
 ·exact .inr h
section
variable{μ X2:List Addr}
theorem BH(h:μ <+:X2){i:Nat}(e:μ[i]? =some a):X2[i]? =some a:=by
 obtain⟨t,rfl⟩:=h;have:i<μ.length:=by
  rcases Yg i μ.length with q|q
  ·exact q
  ·rw[zO q]at e;exact w6 e
 rw[zA this];exact e
mutual
theorem d7.mono(x:Ext μ H X2 H'):∀ {d} {v},d7 c μ H d v->d7 c X2 H' d v
| .non,_,h=>h
| .bl _,_,h=>h
| .int _,_,h=>h
| .str _,_,h=>h
| .ty _,_,h=>h
| .fn _,_,h=>h
| .ref i,v,h=>by unfold d7 at h ⊢;obtain⟨a,e,r⟩:=h;exact⟨a,BH x.pre e,r⟩
| .tup l,v,h=>by unfold d7 at h ⊢;obtain⟨a,vs,e,q,r⟩:=h;exact⟨a,vs,e,x.sqT q,g8.mono x r⟩
theorem g8.mono(x:Ext μ H X2 H'):∀ {l} {vs},g8 c μ H l vs->g8 c X2 H' l vs
|[],_,h=>h
|d::ds,vs,h=>by unfold g8 at h ⊢;obtain⟨v,r,e,q,t⟩:=h;exact⟨v,r,e,d7.mono x q,g8.mono x t⟩
end
theorem T8.mono(x:Ext μ H X2 H'):∀ {l} {vs},T8 c μ H l vs->T8 c X2 H' l vs
|[],_,h=>h
|(_,d)::ds,vs,h=>by obtain⟨v,r,e,q,t⟩:=h;exact⟨v,r,e,d7.mono x q,T8.mono x t⟩
theorem g8.nil:g8 c μ H [] []:=rfl
theorem g8.cons(h:d7 c μ H d v)(t:g8 c μ H ds vs):g8 c μ H (d::ds) (v::vs):=⟨v,vs,rfl,h,t⟩
theorem g8.length:∀ {l} {vs},g8 c μ H l vs->l.length=vs.length
|[],_,h=>by cases h;rfl
|_::_,_,h=>by obtain⟨v,r,rfl,_,t⟩:=h;simp[g8.length t]
theorem g8.get:∀ {l} {vs} {i:Nat} {d},g8 c μ H l vs->l[i]? =some d->∃v,vs[i]? =some v/\d7 c μ H d v
|[],_,_,_,_,e=>by simp at e
|_::_,_,0,_,h,e=>by obtain⟨v,r,rfl,q,t⟩:=h;simp at e;subst e;exact⟨v,rfl,q⟩
|_::_,_,i+1,_,h,e=>by obtain⟨v,r,rfl,q,t⟩:=h;simp at e;obtain⟨w,h1,h2⟩:=g8.get t e;exact⟨w,by simpa using h1,h2⟩
theorem g8.append:∀ {l l'} {vs px},g8 c μ H l vs->g8 c μ H l' px->g8 c μ H (l++l') (vs++px)
|[],_,_,_,h,t=>by cases h;exact t
|_::_,_,_,_,h,t=>by obtain⟨v,r,rfl,q,u⟩:=h;exact⟨v,r++_,rfl,q,g8.append u t⟩
theorem g8.take:∀n {l} {vs},g8 c μ H l vs->g8 c μ H (l.take n) (vs.take n)
|0,_,_,_=>rfl
|_+1, [],_,h=>by cases h;rfl
|n+1,_::_,_,h=>by obtain⟨v,r,rfl,q,u⟩:=h;exact⟨v,r.take n,rfl,q,g8.take n u⟩
theorem g8.drop:∀n {l} {vs},g8 c μ H l vs->g8 c μ H (l.drop n) (vs.drop n)
|0,_,_,h=>h
|_+1, [],_,h=>by cases h;rfl
|n+1,_::_,_,h=>by obtain⟨v,r,rfl,q,u⟩:=h;exact g8.drop n u
theorem g8.set(hv:d7 c μ H d v):∀n {l} {vs},g8 c μ H l vs->g8 c μ H (l.set n d) (vs.set n v)
|_, [],_,h=>by cases h;rfl
|0,_::_,_,h=>by obtain⟨w,r,rfl,q,u⟩:=h;exact⟨v,r,rfl,hv,u⟩
|n+1,_::_,_,h=>by obtain⟨w,r,rfl,q,u⟩:=h;exact⟨w,r.set n v,rfl,q,g8.set hv n u⟩
theorem g8.reverse:∀ {l} {vs},g8 c μ H l vs->g8 c μ H l.reverse vs.reverse
|[],_,h=>by cases h;rfl
|_::_,_,h=>by obtain⟨w,r,rfl,q,u⟩:=h;simp only[YX];exact g8.append (g8.reverse u) ⟨w, [],rfl,q,rfl⟩
def o6:Option DO->Prop
|some (.rol _)=>True
|some (.rod _)=>True
|_=>False
def w8(c:Wc)(μ:List Addr)(H:Hp)(a:Addr):DO->Prop
| .lst l=>∃vs,H a=some (.lst vs)/\g8 c μ H l vs
| .rol l=>∃vs,RoL c.K H a vs/\g8 c μ H l vs
| .dct l=>∃oq,H a=some (.dK oq)/\T8 c μ H l oq
| .rod l=>∃oq o,H a=some (.frz o (.dK oq))/\T8 c μ H l oq
structure j9(c:Wc)(μ:List Addr)(G:DH)(H:Hp):Prop where
 len:μ.length=G.length
 inj:∀(i j:Nat) (a:Addr),μ[i]? =some a->μ[j]? =some a->i=j\/o6 G[i]? \/o6 G[j]?
 obj:∀(i:Nat) (o:DO) (a:Addr),G[i]? =some o->μ[i]? =some a->w8 c μ H a o
theorem lt_of_get{α:Type}{l:List α}{x:α}(e:l[i]? =some x):i<l.length:=by
 rcases Yg i l.length with q|q
 ·exact q
 ·rw[zO q]at e;exact w6 e
theorem j9.at(h:j9 c μ G H){i:Nat}(e:G[i]? =some o):∃a,μ[i]? =some a/\w8 c μ H a o:=by
 have q:i<μ.length:=by rw[h.len];exact lt_of_get e
 exact⟨μ[i],zr q,h.obj i o _ e (zr q)⟩
theorem w8.mono(x:Ext μ H X2 H')(h:w8 c μ H a o)(e:H' a=H a\/o6 (some o)):w8 c X2 H' a o:=by
 rcases o with l|l|l|l
 ·
   obtain⟨vs,q,r⟩:=h;rcases e with e|e
   ·exact⟨vs,e.trans q,r.mono x⟩
   ·exact e.elim
 ·obtain⟨vs,q,r⟩:=h;exact⟨vs,x.roL q,r.mono x⟩
 ·
   obtain⟨vs,q,r⟩:=h;rcases e with e|e
   ·exact⟨vs,e.trans q,r.mono x⟩
   ·exact e.elim
 ·obtain⟨vs,o,q,r⟩:=h;exact⟨vs,o,x.frz _ _ _ q,r.mono x⟩
theorem w8.some_of(h:w8 c μ H a o)(n:¬o6 (some o)):∃u,H a=some u/\(∀xs,u≠ .tup xs)/\∀o' u',u≠ .frz o' u':=by
 rcases o with l|l|l|l
 ·obtain⟨vs,q,_⟩:=h;exact⟨_,q,(λ_ z=>nomatch z),(λ_ _ z=>nomatch z)⟩
 ·exact(n trivial).elim
 ·obtain⟨vs,q,_⟩:=h;exact⟨_,q,(λ_ z=>nomatch z),(λ_ _ z=>nomatch z)⟩
 ·exact(n trivial).elim
theorem j9.same(h:j9 c μ G H)(k:Ext μ H μ H')(e:∀a o,H a=some o->(∀xs,o≠ .tup xs)->H' a=some o):j9 c μ G H':=
 ⟨h.len,h.inj,λi o a g m=>by
  have q:=h.obj i o a g m;by_cases hr:o6 (some o)
  ·exact q.mono k (.inr hr)
  ·obtain⟨u,e1,n1,n2⟩:=q.some_of hr;exact q.mono k (.inl ((e a u e1 n1).trans e1.symm))⟩
theorem j9.new{p:Addr}(h:j9 c μ G H)(hp:H p=none)(ho:w8 c (μ++[p]) (upd H p u) p o):j9 c (μ++[p]) (G++[o]) (upd H p u):=by
 have k:Ext μ H (μ++[p]) (upd H p u):=Ext.add hp u;have old:∀(i:Nat) (a:Addr),i<μ.length->(μ++[p])[i]? =some a->μ[i]? =some a:=λi a hi e=>by rw[zA hi]at e;exact e
 refine⟨by simp[h.len],λi j a ei ej=>?_,λi o' a g m=>?_⟩
 ·have li:=lt_of_get ei;have lj:=lt_of_get ej;simp only[zd,yQ]at li lj;by_cases hi:i<μ.length
  ·have mi:=old i a hi ei;have gi:(G++[o])[i]? =G[i]? :=zA (by rw[<-h.len];exact hi);by_cases hj:j<μ.length
   ·have mj:=old j a hj ej;have gj:(G++[o])[j]? =G[j]? :=zA (by rw[<-h.len];exact hj);rw[gi,gj];exact h.inj i j a mi mj
   ·-- j is the new one:a=p
    have ej':j=μ.length:=by lia
    subst ej';have ea:a=p:=by simpa using ej.symm
    subst ea;right;left;rw[gi];have hg:i<G.length:=by rw[<-h.len];exact hi
    have q:=h.obj i G[i] a (zr hg) mi;rw[zr hg];refine yM λn=>?_;obtain⟨u',e1,_⟩:=q.some_of n;rw[hp]at e1;exact w6 e1
  ·have ei':i=μ.length:=by lia
   by_cases hj:j<μ.length
   ·have mj:=old j a hj ej;have gj:(G++[o])[j]? =G[j]? :=zA (by rw[<-h.len];exact hj);subst ei';have ea:a=p:=by simpa using ei.symm
    subst ea;right;right;rw[gj];have hg:j<G.length:=by rw[<-h.len];exact hj
    have q:=h.obj j G[j] a (zr hg) mj;rw[zr hg];refine yM λn=>?_;obtain⟨u',e1,_⟩:=q.some_of n;rw[hp]at e1;exact w6 e1
   ·left;lia
 ·have li:=lt_of_get m;simp only[zd,yQ]at li;by_cases hi:i<μ.length
  ·have mi:=old i a hi m;rw[zA (by rw[<-h.len];exact hi)]at g;have q:=h.obj i o' a g mi;by_cases hr:o6 (some o')
   ·exact q.mono k (.inr hr)
   ·obtain⟨u',e1,_⟩:=q.some_of hr;exact q.mono k (.inl (m7 (m8 e1 hp)))
  ·have ei':i=μ.length:=by lia
   subst ei';have ea:a=p:=by simpa using m.symm
   subst ea;rw[h.len]at g;have eo:o'=o:=by simpa using g.symm
   subst eo;exact ho
theorem j9.set{o o':DO}{u:HO}(h:j9 c μ G H)(g:G[i]? =some o)(n:¬o6 (some o))(m:μ[i]? =some a)(k:Ext μ H μ (upd H a u))(n':¬o6 (some o'))(ho:w8 c μ (upd H a u) a o'):j9 c μ (G.set i o') (upd H a u):=by
 have hi:i<G.length:=lt_of_get g;have get:∀j,(G.set i o')[j]? =if i=j then some o' else G[j]? :=λj=>by
  rw[YY];by_cases e:i=j
  ·subst e;simp[hi]
  ·simp[e]
 refine⟨by simp[h.len],λj l b ej el=>?_,λj o2 b gj mj=>?_⟩
 ·rcases h.inj j l b ej el with e|e|e
  ·exact .inl e
  ·by_cases ij:i=j
   ·subst ij;rw[g]at e;exact(n e).elim
   ·right;left;rw[get,if_neg ij];exact e
  ·by_cases ij:i=l
   ·subst ij;rw[g]at e;exact(n e).elim
   ·right;right;rw[get,if_neg ij];exact e
 ·rw[get]at gj;by_cases ij:i=j
  ·subst ij;rw[if_pos rfl]at gj
   cases gj
   rw[m]at mj
   cases mj
   exact ho
  ·rw[if_neg ij]at gj;have q:=h.obj j o2 b gj mj;by_cases hr:o6 (some o2)
   ·exact q.mono k (.inr hr)
   ·have nb:b≠a:=λe=>by
     subst e;rcases h.inj i j b m mj with e|e|e
     ·exact ij e
     ·rw[g]at e;exact n e
     ·rw[gj]at e;exact hr e
    exact q.mono k (.inl (m7 nb))
def v5(c:Wc)(μ:List Addr)(H:Hp)(X9:DSt)(σ:St):Prop:=X9.length=σ.length/\∀(i:Nat) (d:D),X9[i]? =some (some d)->∃v,σ[i]? =some (some v)/\d7 c μ H d v
theorem v5.mono(x:Ext μ H X2 H')(h:v5 c μ H X9 σ):v5 c X2 H' X9 σ:=
 ⟨h.1,λi d e=>let ⟨v,a,b⟩:=h.2 i d e;⟨v,a,b.mono x⟩⟩
theorem v5.put(h:v5 c μ H X9 σ)(r:d7 c μ H d v)(i:Nat):v5 c μ H (X9.set i (some d)) (σ.set i (some v)):=by
 refine⟨by simp[h.1],λj d' e=>?_⟩;rw[YY]at e ⊢;by_cases ij:i=j
 ·subst ij;rw[if_pos rfl]at e ⊢;rw[<-h.1];split at e
  ·rename_i hl;rw[if_pos hl]
   cases e
   exact⟨v,rfl,r⟩
  ·exact w6 e
 ·rw[if_neg ij]at e ⊢;exact h.2 j d' e
end
def M(α:Type):=DH->Option (Except Str α×DH)
namespace M
def pure{α:Type}(a:α):M α:=λG=>some (.ok a,G)
def bind{α β:Type}(m:M α)(f:α->M β):M β:=λG=>match m G with
|none=>none
|some (.ok a,G1)=>f a G1
|some (.error x,G1)=>some (.error x,G1)
def stuck{α:Type}:M α:=λ_=>none
end M
instance:Monad M:={pure:=M.pure,bind:=M.bind}
theorem M.bind_eq(m:M α)(f:α->M β)(G:DH):(m >>= f) G=match m G with
|none=>none
|some (.ok a,G1)=>f a G1
|some (.error x,G1)=>some (.error x,G1):=rfl
theorem M.bind_ok{f:α->M β}(h:m G=some (.ok a,G1)):(m >>= f) G=f a G1:=by rw[M.bind_eq,h]
theorem M.bind_assoc(m:M α)(f:α->M β)(g:β->M γ):((m >>= f) >>= g)= (m >>= λa=>f a >>= g):=by
 funext G;simp only[M.bind_eq];rcases m G with _|p
 ·rfl
 ·obtain⟨r,G1⟩:=p;cases r<;>rfl
abbrev XC:=Str->List Addr->DH->Hp->Prop
def ZF:XC:=λ_ _ _ _=>False
def c7{α:Type}(c:Wc)(Z:XC)(μ:List Addr)(H:Hp)(r:Option (Except Str α×DH))(K:α->List Addr->DH->Hp->Prop):Prop:=
 match r with
 |none=>False
 |some (.ok a,G')=>∀ X2 H',Ext μ H X2 H'->j9 c X2 G' H'->K a X2 G' H'
 |some (.error x,G')=>∀ X2 H',Ext μ H X2 H'->j9 c X2 G' H'->Z x X2 G' H'
section
theorem c7.mono{K K':α->List Addr->DH->Hp->Prop}(h:c7 c Z μ H r K)
 (k:∀a X2 G' H',Ext μ H X2 H'->j9 c X2 G' H'->K a X2 G' H'->K' a X2 G' H'):c7 c Z μ H r K':=by
 match r,h with
 |some (.ok a,G'),h=>exact λX2 H' p e=>k a X2 G' H' p e (h X2 H' p e)
 |some (.error x,G'),h=>exact h
theorem c7.from{K:α->List Addr->DH->Hp->Prop}(h:c7 c Z μ H r K)(p:Ext μ H X2 H'):c7 c Z X2 H' r K:=by
 match r,h with
 |some (.ok a,G'),h=>exact λWW H2 p2 e=>h WW H2 (p.trans p2) e
 |some (.error x,G'),h=>exact λWW H2 p2 e=>h WW H2 (p.trans p2) e
theorem c7.bind{m:M α}{K:β->List Addr->DH->Hp->Prop}(h:c7 c Z μ H ((m >>= f) G) K):
 c7 c Z μ H (m G) (λa X2 G' H'=>c7 c Z X2 H' (f a G') K):=by
 rw[M.bind_eq]at h
 match m G,h with
 |some (.ok a,G'),h=>exact λX2 H' p e=>c7.from h p
 |some (.error x,G'),h=>exact h
theorem c7.ok{K:α->List Addr->DH->Hp->Prop}(h:c7 c Z μ H (some (.ok a,G)) K)(e:j9 c μ G H):K a μ G H:=h μ H (Ext.refl _ _) e
end
inductive Fl where
|nx (σ:DSt)|rt (d:D)|bk (σ:DSt)|ct (σ:DSt)
section
variable(c:Wc)(Z:XC)
def L3(f:DSt->M D):TE:=λσ H Q=>∃X9 μ G,v5 c μ H X9 σ/\j9 c μ G H/\c7 c Z μ H (f X9 G) λd X2 _ H'=>∀v,d7 c X2 H' d v->Q v H'
def OB(f:DSt->M Bool):TT:=λσ H Q=>∃X9 μ G,v5 c μ H X9 σ/\j9 c μ G H/\c7 c Z μ H (f X9 G) λb X2 _ H'=>Q b H'
def eF(f:DSt->M (List D)):TA:=λσ H Q=>∃X9 μ G,v5 c μ H X9 σ/\j9 c μ G H/\c7 c Z μ H (f X9 G) λds X2 _ H'=>∀vs,g8 c X2 H' ds vs->Q vs H'
def a9(E:f8)(fl:Fl)(μ:List Addr)(H:Hp):Prop:=match fl with
| .nx X9=>∀ σ,v5 c μ H X9 σ->E.nx σ H
| .rt d=>∀v,d7 c μ H d v->E.rt v H
| .bk X9=>∀ σ,v5 c μ H X9 σ->E.bk σ H
| .ct X9=>∀ σ,v5 c μ H X9 σ->E.ct σ H
def AA(f:DSt->M Fl):TS:=λE σ H=>∃X9 μ G,v5 c μ H X9 σ/\j9 c μ G H/\c7 c Z μ H (f X9 G) λfl X2 _ H'=>a9 c E fl X2 H'
end
theorem L3.elim{P:Prop}{H:Hp}{Q:VK}(h:L3 c Z f σ H Q)(k:∀X9 μ G,v5 c μ H X9 σ->j9 c μ G H->c7 c Z μ H (f X9 G) (λd X2 _ H'=>∀v,d7 c X2 H' d v->Q v H')->P):P:=by obtain⟨e0,e1,e2,e3,e4,e5⟩:=h;exact k e0 e1 e2 e3 e4 e5
theorem OB.elim{P:Prop}{σ:St}{H:Hp}(h:OB c Z f σ H Q)(k:∀X9 μ G,v5 c μ H X9 σ->j9 c μ G H->c7 c Z μ H (f X9 G) (λb X2 _ H'=>Q b H')->P):P:=by obtain⟨e0,e1,e2,e3,e4,e5⟩:=h;exact k e0 e1 e2 e3 e4 e5
theorem eF.elim{P:Prop}{σ:St}{H:Hp}(h:eF c Z f σ H Q)(k:∀X9 μ G,v5 c μ H X9 σ->j9 c μ G H->c7 c Z μ H (f X9 G) (λds X2 _ H'=>∀vs,g8 c X2 H' ds vs->Q vs H')->P):P:=by obtain⟨e0,e1,e2,e3,e4,e5⟩:=h;exact k e0 e1 e2 e3 e4 e5
theorem AA.elim{P:Prop}{σ:St}{H:Hp}(h:AA c Z f E σ H)(k:∀X9 μ G,v5 c μ H X9 σ->j9 c μ G H->c7 c Z μ H (f X9 G) (λfl X2 _ H'=>a9 c E fl X2 H')->P):P:=by obtain⟨e0,e1,e2,e3,e4,e5⟩:=h;exact k e0 e1 e2 e3 e4 e5
structure DE(X:Cx)(Z:XC)(e:Expr)(f:DSt->M D):Prop where
 h:PE X e (L3 (wc X) Z f)
structure DT(X:Cx)(Z:XC)(e:Expr)(f:DSt->M Bool):Prop where
 h:PT X e (OB (wc X) Z f)
structure DA(X:Cx)(Z:XC)(e:List Expr)(f:DSt->M (List D)):Prop where
 h:PA X e (eF (wc X) Z f)
structure DS(X:Cx)(Z:XC)(e:Stmt)(f:DSt->M Fl):Prop where
 h:PS X e (AA (wc X) Z f)
structure DB(X:Cx)(Z:XC)(e:List Stmt)(f:DSt->M Fl):Prop where
 h:PSs X e (AA (wc X) Z f)
theorem PE.mono(h:PE X e t)(k:∀ σ H Q,t' σ H Q->t σ H Q):PE X e t':=λom s σ H Q I q=>h om s σ H Q I (k σ H Q q)
theorem PT.mono(h:PT X e t)(k:∀ σ H Q,t' σ H Q->t σ H Q):PT X e t':=λom s σ H Q I q=>h om s σ H Q I (k σ H Q q)
theorem PW.mono(h:PW X e t)(k:∀ σ H Q,t' σ H Q->t σ H Q):PW X e t':=λwh om s σ H Q I q=>h wh om s σ H Q I (k σ H Q q)
theorem PA.mono(h:PA X e t)(k:∀ σ H Q,t' σ H Q->t σ H Q):PA X e t':=λpos om s σ H Q I q=>h pos om s σ H Q I (k σ H Q q)
theorem PS.mono(h:PS X e t)(k:∀E σ H,t' E σ H->t E σ H):PS X e t':=λom s σ H E I q=>h om s σ H E I (k E σ H q)
theorem PSs.mono(h:PSs X e t)(k:∀E σ H,t' E σ H->t E σ H):PSs X e t':=λom s σ H E I q=>h om s σ H E I (k E σ H q)
theorem DE.of(h:PE X e t)(k:∀ σ H Q,L3 (wc X) Z f σ H Q->t σ H Q):DE X Z e f:=⟨PE.mono h k⟩
theorem DT.of(h:PT X e t)(k:∀ σ H Q,OB (wc X) Z f σ H Q->t σ H Q):DT X Z e f:=⟨PT.mono h k⟩
theorem DA.of(h:PA X e t)(k:∀ σ H Q,eF (wc X) Z f σ H Q->t σ H Q):DA X Z e f:=⟨PA.mono h k⟩
theorem DS.of(h:PS X e t)(k:∀E σ H,AA (wc X) Z f E σ H->t E σ H):DS X Z e f:=⟨PS.mono h k⟩
theorem DB.of(h:PSs X e t)(k:∀E σ H,AA (wc X) Z f E σ H->t E σ H):DB X Z e f:=⟨PSs.mono h k⟩
end DL
namespace DL
open PySem PySem.Spec L2
open PyProof.Rows hiding St
def J9:Expr->Bool
| .Starred ..=>false
|_=>true
theorem N0(h:J9 e=true):zC (e::es) env= (false,eval e env)::zC es env:=by
 cases e<;>first
  |rfl
  |exact sE h
theorem RG(h:J9 e=true):zC [e] env= [(false,eval e env)]:=N0 h
theorem Kf(h:J9 a=true)(h':J9 b=true):zC [a,b] env= [(false,eval a env),(false,eval b env)]:=by rw[N0 h,RG h']
abbrev Fe:=DSt->M D
def K9(i:Nat):Fe:=λσ G=>match σ[i]? with
|some (some d)=>some (.ok d,G)
|_=>none
def cE(d:D):Fe:=λ_=>pure d
def binE(o:D->D->M D)(a b:Fe):Fe:=λσ=>do o (<-a σ) (<-b σ)
def unE(o:D->M D)(a:Fe):Fe:=λσ=>do o (<-a σ)
def z0:DSt->M (List D):=λ_=>pure []
def C0(a:Fe)(r:DSt->M (List D)):DSt->M (List D):=λσ=>do
 let x <-a σ
 let xs <-r σ
 pure (x::xs)
def D0(F:List D->M D)(a:DSt->M (List D)):Fe:=λσ=>do F (<-a σ)
def rE:D->M Bool
| .bl b=>pure b
|_=>M.stuck
def mC(a:Fe):Fe:=λσ=>do pure (.bl (!(<-rE (<-a σ))))
def ifE(t:DSt->M Bool)(a b:Fe):Fe:=λσ=>do if <-t σ then a σ else b σ
section
variable(c:Wc)(Z:XC)
def bA(o:D->D->M D):R2:=λx y H Q=>∃dx dy μ G,d7 c μ H dx x/\d7 c μ H dy y/\j9 c μ G H/\c7 c Z μ H (o dx dy G) λd X2 _ H'=>∀v,d7 c X2 H' d v->Q v H'
def uJ(o:D->M D):V->Hp->VK->Prop:=λx H Q=>∃dx μ G,d7 c μ H dx x/\j9 c μ G H/\c7 c Z μ H (o dx G) λd X2 _ H'=>∀v,d7 c X2 H' d v->Q v H'
def QD(F:List D->M D):List V->Hp->VK->Prop:=λxs H Q=>∃ds μ G,g8 c μ H ds xs/\j9 c μ G H/\c7 c Z μ H (F ds G) λd X2 _ H'=>∀v,d7 c X2 H' d v->Q v H'
end
theorem bA.elim{P:Prop}{x:V}{y:V}{Q:VK}(h:bA c Z o x y H Q)(k:∀dx dy μ G,d7 c μ H dx x->d7 c μ H dy y->j9 c μ G H->c7 c Z μ H (o dx dy G) (λd X2 _ H'=>∀v,d7 c X2 H' d v->Q v H')->P):P:=by obtain⟨e0,e1,e2,e3,e4,e5,e6,e7⟩:=h;exact k e0 e1 e2 e3 e4 e5 e6 e7
theorem uJ.elim{P:Prop}{x:V}{Q:VK}(h:uJ c Z o x H Q)(k:∀dx μ G,d7 c μ H dx x->j9 c μ G H->c7 c Z μ H (o dx G) (λd X2 _ H'=>∀v,d7 c X2 H' d v->Q v H')->P):P:=by obtain⟨e0,e1,e2,e3,e4,e5⟩:=h;exact k e0 e1 e2 e3 e4 e5
theorem QD.elim{P:Prop}{H:Hp}{Q:VK}(h:QD c Z F xs H Q)(k:∀ds μ G,g8 c μ H ds xs->j9 c μ G H->c7 c Z μ H (F ds G) (λd X2 _ H'=>∀v,d7 c X2 H' d v->Q v H')->P):P:=by obtain⟨e0,e1,e2,e3,e4,e5⟩:=h;exact k e0 e1 e2 e3 e4 e5
structure OpD(X:Cx)(Z:XC)(f:ze->ze->Sem ze)(o:D->D->M D):Prop where
 h:OpR X f (bA (wc X) Z o)
structure UnD(X:Cx)(Z:XC)(f:ze->Sem ze)(o:D->M D):Prop where
 h:UnR X f (uJ (wc X) Z o)
structure R9(X:Cx)(Z:XC)(f:ze)(F:List D->M D):Prop where
 h:R7 X f (QD (wc X) Z F)
theorem OpR.mono(h:OpR X f r)(k:∀x y H Q,r' x y H Q->r x y H Q):OpR X f r':=λom s σ H x y v u Q I rx ry q=>h om s σ H x y v u Q I rx ry (k x y H Q q)
theorem R7.mono(h:R7 X f r)(k:∀xs H Q,r' xs H Q->r xs H Q):R7 X f r':=λom s σ H xs us Q I rx q=>h om s σ H xs us Q I rx (k xs H Q q)
theorem OpD.of(h:OpR X f r)(k:∀x y H Q,bA (wc X) Z o x y H Q->r x y H Q):OpD X Z f o:=⟨OpR.mono h k⟩
theorem R9.of(h:R7 X f r)(k:∀xs H Q,QD (wc X) Z F xs H Q->r xs H Q):R9 X Z f F:=⟨R7.mono h k⟩
section
variable{X:Cx}{Z:XC}{a b c e:Expr}{pos:Pos}
theorem qG(σ:St)(H:Hp)(Q:VK)(h:L3 cc Z (binE o fa fb) σ H Q):tOp (bA cc Z o) (L3 cc Z fa) (L3 cc Z fb) σ H Q:=by obtain⟨X9,μ,G,s,h,p⟩:=h;exact⟨X9,μ,G,s,h,(c7.bind p).mono λx X0 G1 H1 x' h1 p1 v rv=>⟨X9,X0,G1,s.mono x',h1,(c7.bind p1).mono λy WW G2 H2 x2 h2 p2 u ru=>⟨x,y,WW,G2,rv.mono x2,ru,h2,p2⟩⟩⟩
theorem Np(h:PE X e (VA i)):DE X Z e (K9 i):=DE.of h λσ H Q ov=>ov.elim λX9 μ G s h p=>by
 delta K9 at p;rcases he:X9[i]? with _|_|d
 ·rw[he]at p;exact p.elim
 ·rw[he]at p;exact p.elim
 ·rw[he]at p;obtain⟨v,e1,r⟩:=s.2 i d he;exact⟨v,e1,c7.ok p h v r⟩
theorem bF(h:PE X e (tC v))(r:∀ μ H,d7 (wc X) μ H d v):DE X Z e (cE d):=DE.of h λσ H Q ov=>ov.elim λX9 μ G s h p=>c7.ok p h v (r _ _)
theorem qk{i j pos}:DE X Z (.Constant (.int i) j pos) (cE (.int i)):=bF eQ λ_ _=>by unfold d7;rfl
theorem iY{i j pos}:DE X Z (.Constant (.bool i) j pos) (cE (.bl i)):=bF kg λ_ _=>by unfold d7;rfl
theorem pW{j pos}:DE X Z (.Constant .none j pos) (cE .non):=bF tY λ_ _=>by unfold d7;rfl
theorem Lx{i j pos}:DE X Z (.Constant (.str i) j pos) (cE (.str i)):=bF Cd λ_ _=>by unfold d7;rfl
theorem AX(i:Nat)(hN:X.N[i]? =some x)(hv:Vis X.env.scope x)(hd:(x==("__debug__" :Str))=false)
 (hcd:(x==("__classdict__" :Str))=false):DE X Z (.Name x pos) (K9 i):=Np (MC hN hv hd hcd)
theorem Sd(ho:OpD X Z (yh op) o)(ha:DE X Z a fa)(hb:DE X Z b fb):DE X Z (.BinOp a op b pos) (binE o fa fb):=
 DE.of (oI ho.h ha.h hb.h) qG
theorem Qk(ho:OpD X Z (zM op) o)(ha:DE X Z a fa)(hb:DE X Z b fb)(hm:Xj op b=false):DE X Z (.Compare a [op] [b] pos) (binE o fa fb):=
 DE.of (mU ho.h ha.h hb.h hm) qG
theorem Hj(ho:UnD X Z (unaryOp op) o)(ha:DE X Z a fa):DE X Z (.UnaryOp op a pos) (unE o fa):=
 DE.of (GU ho.h ha.h) λσ H Q ov=>ov.elim λX9 μ G s h p=>⟨X9,μ,G,s,h,(c7.bind p).mono λx X0 G1 H1 x' h1 p1 v rv=>⟨x,X0,G1,rv,h1,p1⟩⟩
theorem uM{H:Hp}{d:D}{f:Bool->M α}{G:DH}{K:α->List Addr->DH->Hp->Prop}(p:c7 cc Z μ H ((rE d >>= f) G) K):∃k,d= .bl k/\c7 cc Z μ H (f k G) K:=by
 cases d with
 |bl k=>exact⟨k,rfl,p⟩
 |_=>exact p.elim
theorem av{op}(h:DE X Z a f):DE X Z (.BoolOp op [a] pos) f:=⟨oV h.h⟩
theorem ao(ha:DE X Z a fa):DE X Z (.UnaryOp .Not a pos) (mC fa):=
 DE.of (Vj ha.h) λσ H Q ov=>ov.elim λX9 μ G s h p=>⟨X9,μ,G,s,h,(c7.bind p).mono λx X0 G1 H1 x' h1 p1 v rv=>by obtain⟨k',rfl,p2⟩:=uM p1;unfold d7 at rv;exact⟨k',rv,c7.ok p2 h1 _ (by unfold d7;rfl)⟩⟩
def g6(f:Fe):DSt->M Bool:=λσ=>do rE (<-f σ)
def w4(a b:DSt->M Bool):DSt->M Bool:=λσ=>do if <-a σ then b σ else pure false
def orT(a b:DSt->M Bool):DSt->M Bool:=λσ=>do if <-a σ then pure true else b σ
def t5(a:DSt->M Bool):DSt->M Bool:=λσ=>do pure (!(<-a σ))
structure DW(X:Cx)(Z:XC)(e:Expr)(f:DSt->M Bool):Prop where
 h:PW X e (OB (wc X) Z f)
theorem DW.of(h:PW X e t)(k:∀ σ H Q,OB (wc X) Z f σ H Q->t σ H Q):DW X Z e f:=⟨PW.mono h k⟩
variable{ta tb:DSt->M Bool}{rest:List Expr}
theorem DW.dt(h:DW X Z a ta):DT X Z a ta:=⟨λom s σ H Q I q=>h.h _ om s σ H Q I q⟩
theorem Nh(ho:OpD X Z (zM op) o)(ha:DE X Z a fa)(hb:DE X Z b fb)(hm:Xj op b=false):DT X Z (.Compare a [op] [b] pos) (g6 (binE o fa fb)):=
 DT.of (EV ho.h ha.h hb.h hm) λσ H Q ov=>ov.elim λX9 μ G s h p=>qG σ H _ ⟨X9,μ,G,s,h,(c7.bind p).mono λx X0 G1 H1 x' h1 p1 v rv=>by
  cases x with
  |bl k'=>unfold d7 at rv;exact⟨k',rv,c7.ok p1 h1⟩
  |_=>exact p1.elim⟩
theorem TU(ha:DT X Z a ta):DW X Z (.BoolOp .And [a] pos) ta:=⟨Lj ha.h⟩
theorem bo(ha:DT X Z a ta):DW X Z (.BoolOp .Or [a] pos) ta:=⟨im ha.h⟩
theorem Cw(ha:DT X Z a ta)(hb:DW X Z (.BoolOp .And (b::rest) pos) tb):DW X Z (.BoolOp .And (a::b::rest) pos) (w4 ta tb):=
 DW.of (iV ha.h hb.h) λσ H Q ov=>ov.elim λX9 μ G s h p=>⟨X9,μ,G,s,h,(c7.bind p).mono λx X0 G1 H1 x' h1 p1=>by
  cases x with
  |true=>exact⟨X9,X0,G1,s.mono x',h1,p1⟩
  |false=>exact c7.ok p1 h1⟩
theorem Vk(ha:DT X Z a ta)(hb:DW X Z (.BoolOp .Or (b::rest) pos) tb):DW X Z (.BoolOp .Or (a::b::rest) pos) (orT ta tb):=
 DW.of (Qf ha.h hb.h) λσ H Q ov=>ov.elim λX9 μ G s h p=>⟨X9,μ,G,s,h,(c7.bind p).mono λx X0 G1 H1 x' h1 p1=>by
  cases x with
  |false=>exact⟨X9,X0,G1,s.mono x',h1,p1⟩
  |true=>exact c7.ok p1 h1⟩
theorem eY(ha:DT X Z a ta):DT X Z (.UnaryOp .Not a pos) (t5 ta):=
 DT.of (Cz ha.h) λσ H Q ov=>ov.elim λX9 μ G s h p=>⟨X9,μ,G,s,h,(c7.bind p).mono λx X0 G1 H1 x' h1 p1=>c7.ok p1 h1⟩
theorem dU(hc:DT X Z c ta)(ha:DE X Z a fa)(hb:DE X Z b fb):DE X Z (.IfExp c a b pos) (ifE ta fa fb):=
 DE.of (MX hc.h ha.h hb.h) λσ H Q ov=>ov.elim λX9 μ G s h p=>⟨X9,μ,G,s,h,(c7.bind p).mono λx X0 G1 H1 x' h1 p1=>by
  cases x with
  |true=>exact⟨X9,X0,G1,s.mono x',h1,p1⟩
  |false=>exact⟨X9,X0,G1,s.mono x',h1,p1⟩⟩
theorem mR:DA X Z [] z0:=DA.of HB λσ H Q ov=>ov.elim λX9 μ G s h p=>c7.ok p h [] rfl
theorem GM(ha:DE X Z e fa)(hr:DA X Z es fs)(hs:zC (e::es) X.env= (false,eval e X.env)::zC es X.env):DA X Z (e::es) (C0 fa fs):=
 DA.of (T4 ha.h hr.h hs) λσ H Q ov=>ov.elim λX9 μ G s h p=>⟨X9,μ,G,s,h,(c7.bind p).mono λx X0 G1 H1 x' h1 p1 v rv=>
  ⟨X9,X0,G1,s.mono x',h1,(c7.bind p1).mono λxs WW G2 H2 x2 h2 p2 vs rvs=>c7.ok p2 h2 (v::vs) ⟨v,vs,rfl,rv.mono x2,rvs⟩⟩⟩
def T9(fs:DSt->M (List D)):Fe:=λσ=>do
 let xs <-fs σ
 if xs.length<=zi then pure (.tup xs)else M.stuck
def K7(o:DO):M D:=λG=>some (.ok (.ref G.length),G++[o])
def E1(fs:DSt->M (List D)):Fe:=λσ=>do
 let xs <-fs σ
 if xs.length<=zi then K7 (.lst xs)else M.stuck
theorem aH{G:DH}{Q:VK}(h:j9 cc μ G H)(r:g8 cc μ H xs vs)
 (p:c7 cc Z μ H (some (Except.ok (.tup xs),G)) λd X2 _ H'=>∀v,d7 cc X2 H' d v->Q v H') (q:Addr) (hq:H q=none):Q (.ref q) (upd H q (.tup vs)):=by
 have k:Ext μ H μ (upd H q (.tup vs)):=Ext.lay hq _;refine p μ _ k (h.same k λa o e n=>?_) _ ?_
 ·rw[m7 (m8 e hq)];exact e
 ·unfold d7;exact⟨q,vs,rfl,SqT.of v9,r.mono k⟩
theorem Z2{G:DH}{Q:VK}(h:j9 cc μ G H)(r:g8 cc μ H xs vs)
 (p:c7 cc Z μ H (K7 (.lst xs) G) λd X2 _ H'=>∀v,d7 cc X2 H' d v->Q v H') (q:Addr) (hq:H q=none):Q (.ref q) (upd H q (.lst vs)):=by
 have k:Ext μ H (μ++[q]) (upd H q (.lst vs)):=Ext.add hq _;refine p (μ++[q]) _ k (h.new hq ⟨vs,v9,r.mono k⟩) _ ?_;unfold d7;exact⟨q,by rw[<-h.len];simp,rfl⟩
theorem kX{x1}(h:DA X Z es fs):DE X Z (.Tuple es x1 pos) (T9 fs):=
 DE.of (rP h.h) λσ H Q ov=>ov.elim λX9 μ G s h p=>⟨X9,μ,G,s,h,(c7.bind p).mono λxs X0 G1 H1 x' h1 p1 vs rv=>by
  split at p1
  ·rename_i hz;exact⟨by rw[<-rv.length];exact hz,λq hq=>aH h1 rv p1 q hq⟩
  ·exact p1.elim⟩
theorem TY(h:DA X Z es fs):DE X Z (.List es pos) (E1 fs):=
 DE.of (GJ h.h) λσ H Q ov=>ov.elim λX9 μ G s h p=>⟨X9,μ,G,s,h,(c7.bind p).mono λxs X0 G1 H1 x' h1 p1 vs rv=>by
  split at p1
  ·rename_i hz;exact⟨by rw[<-rv.length];exact hz,λq hq=>Z2 h1 rv p1 q hq⟩
  ·exact p1.elim⟩
theorem nO(σ:St)(H:Hp)(Q:VK)(h:L3 cc Z (D0 F fs) σ H Q):tCB (QD cc Z F) (eF cc Z fs) σ H Q:=by obtain⟨X9,μ,G,s,h,p⟩:=h;exact⟨X9,μ,G,s,h,(c7.bind p).mono λx X0 G1 H1 x' h1 p1 vs rv=>⟨x,X0,G1,rv,h1,p1⟩⟩
theorem vT{id:String}(hc:R9 X Z (.builtin id) F)(hg:Gl X x)(hm:X.mg x=none)(hv:zU x=some (.builtin id))(ha:DA X Z (e::es) fs)(hn:x≠ "__name__")(hdb:(x==("__debug__" :Str))=false)
 (he:zC (e::es) X.env= (false,eval e X.env)::zC es X.env) (qu:(yo pos (zC es X.env)).any (·.1)=false):DE X Z (.Call (.Name x p) (e::es) [] pos) (D0 F fs):=
 DE.of (FK hc.h hg hm hv ha.h hn hdb he qu) nO
theorem Mj(hc:R9 X Z (.type T) F)(hg:Gl X x)(hm:X.mg x=none)(hv:zU x=some (.type T))(ha:DA X Z (e::es) fs)(hn:x≠ "__name__")(hdb:(x==("__debug__" :Str))=false)
 (he:zC (e::es) X.env= (false,eval e X.env)::zC es X.env) (qu:(yo pos (zC es X.env)).any (·.1)=false):DE X Z (.Call (.Name x p) (e::es) [] pos) (D0 F fs):=
 DE.of (uY hc.h hg hm hv ha.h hn hdb he qu) nO
def spD(c:Wc)(n:Nat)(F:List D->M D):Sp:=λvs H Q _=>vs.length=n/\∃ds μ G,g8 c μ H ds vs/\j9 c μ G H/\c7 c ZF μ H (F ds G) λd X2 _ H'=>∀v,d7 c X2 H' d v->Q v H'
def noX{α:Type}(m:M α):M α:=λG=>match m G with
|some (.ok a,G1)=>some (.ok a,G1)
|_=>none
theorem mJ{H:Hp}{G:DH}{K:α->List Addr->DH->Hp->Prop}(p:c7 cc Z μ H (noX m G) K):c7 cc ZF μ H (m G) K:=by
 unfold noX at p
 match m G,p with
 |some (.ok a,G1),p=>exact p
 |some (.error x,G1),p=>exact p.elim
 |none,p=>exact p.elim
def fnX(n:Nat)(F:List D->M D):List D->M D:=λds=>if ds.length=n then noX (F ds)else M.stuck
theorem UK{H:Hp}{n:Nat}{G:DH}{K:D->List Addr->DH->Hp->Prop}(p:c7 cc Z μ H (fnX n F ds G) K):ds.length=n/\c7 cc ZF μ H (F ds G) K:=by
 unfold fnX at p;split at p
 ·rename_i h;exact⟨h,mJ p⟩
 ·exact p.elim
theorem HZ(hF:V2 X.prog X.w X.K X.mg X.base CX0 k f fd ps (spD (wc X) n F))(hr:K8 k X.A)(hg:Gl X x)(hm:X.mg x=some (.ref f))(hk:jU X.K (.ref f)=true)(hb:y4 X.K fd ps [])
 (ha:DA X Z (e::es) fs)
 (hdb:(x==("__debug__" :Str))=false) (he:zC (e::es) X.env= (false,eval e X.env)::zC es X.env) (qu:(yo pos (zC es X.env)).any (·.1)=false):
 DE X Z (.Call (.Name x p) (e::es) [] pos) (D0 (fnX n F) fs):=
 DE.of (QM hF hr hg hm hk hb .nil EF ha.h hdb he qu) λσ H Q ov=>ov.elim λX9 μ G s h p=>by refine⟨X9,μ,G,s,h,(c7.bind p).mono λds' X0 G1 H1 x' h1 p1 vs rv=>?_⟩;obtain⟨hl,p2⟩:=UK p1;show spD (wc X) n F (vs++[]) H1 Q E0;rw[ji];exact⟨by rw[<-rv.length];exact hl,ds',X0,G1,rv,h1,p2⟩
end
abbrev Fs:=DSt->M Fl
def v4:Fs:=λσ=>pure (.nx σ)
def m5(a b:Fs):Fs:=λσ=>do
 match <-a σ with
 | .nx X1=>b X1
 |r=>pure r
def u9(f:Fe):Fs:=λσ=>do pure (.rt (<-f σ))
def A8(f:Fe):Fs:=λσ=>do
 let _ <-f σ
 pure (.nx σ)
def ifS(t:DSt->M Bool)(a b:Fs):Fs:=λσ=>do if <-t σ then a σ else b σ
abbrev Fg:=D->DSt->M DSt
abbrev Fgs:=List D->DSt->M DSt
def O0(i:Nat):Fg:=λd σ=>pure (σ.set i (some d))
def F4:Fgs:=λds σ=>match ds with
|[]=>pure σ
|_=>M.stuck
def Q4(g:Fg)(r:Fgs):Fgs:=λds σ=>match ds with
|d::t=>do r t (<-g d σ)
|[]=>M.stuck
def E4(n:Nat)(g:Fgs):Fg:=λd σ=>match d with
| .tup l=>if l.length=n then g l σ else M.stuck
|_=>M.stuck
def J4(f:Fe)(g:Fg):Fs:=λσ=>do
 let d <-f σ
 let X1 <-g d σ
 pure (.nx X1)
section
variable(c:Wc)(Z:XC)
def CD(g:Fg):TG:=λv σ H Q=>∃d X9 μ G,d7 c μ H d v/\v5 c μ H X9 σ/\j9 c μ G H/\c7 c Z μ H (g d X9 G) λWV X2 _ H'=>∀ X1,v5 c X2 H' WV X1->Q X1 H'
def bH(g:Fgs):TGs:=λvs σ H Q=>∃ds X9 μ G,g8 c μ H ds vs/\v5 c μ H X9 σ/\j9 c μ G H/\c7 c Z μ H (g ds X9 G) λWV X2 _ H'=>∀ X1,v5 c X2 H' WV X1->Q X1 H'
end
theorem CD.elim{P:Prop}{v:V}{σ:St}{H:Hp}(h:CD c Z g v σ H Q)(k:∀d X9 μ G,d7 c μ H d v->v5 c μ H X9 σ->j9 c μ G H->c7 c Z μ H (g d X9 G) (λWV X2 _ H'=>∀ X1,v5 c X2 H' WV X1->Q X1 H')->P):P:=by obtain⟨e0,e1,e2,e3,e4,e5,e6,e7⟩:=h;exact k e0 e1 e2 e3 e4 e5 e6 e7
theorem bH.elim{Z:XC}{P:Prop}{σ:St}{H:Hp}(h:bH c Z g vs σ H Q)(k:∀ds X9 μ G,g8 c μ H ds vs->v5 c μ H X9 σ->j9 c μ G H->c7 c Z μ H (g ds X9 G) (λWV X2 _ H'=>∀ X1,v5 c X2 H' WV X1->Q X1 H')->P):P:=by obtain⟨e0,e1,e2,e3,e4,e5,e6,e7⟩:=h;exact k e0 e1 e2 e3 e4 e5 e6 e7
structure DG(X:Cx)(Z:XC)(tg:Expr)(g:Fg):Prop where
 h:PG X tg (CD (wc X) Z g)
structure DGs(X:Cx)(Z:XC)(tgs:List Expr)(g:Fgs):Prop where
 h:PGs X tgs (bH (wc X) Z g)
theorem PG.mono(h:PG X e t)(k:∀v σ H Q,t' v σ H Q->t v σ H Q):PG X e t':=λom s σ H v u Q I r q=>h om s σ H v u Q I r (k v σ H Q q)
theorem PGs.mono(h:PGs X e t)(k:∀v σ H Q,t' v σ H Q->t v σ H Q):PGs X e t':=λom s σ H v u Q I r q=>h om s σ H v u Q I r (k v σ H Q q)
theorem DG.of(h:PG X e t)(k:∀v σ H Q,CD (wc X) Z g v σ H Q->t v σ H Q):DG X Z e g:=⟨PG.mono h k⟩
theorem DGs.of(h:PGs X e t)(k:∀v σ H Q,bH (wc X) Z g v σ H Q->t v σ H Q):DGs X Z e g:=⟨PGs.mono h k⟩
section
variable{X:Cx}{Z:XC}{st:Stmt}{rest sa sb:List Stmt}{f g:Fs}
theorem Tz:DB X Z [] v4:=DB.of Gq λE σ H ov=>ov.elim λX9 μ G s h p=>c7.ok p h σ s
theorem Gc(h:j9 cc μ G H)
 (p:c7 cc Z μ H ((match fl with| .nx X1=>g X1|r=>pure r:M Fl) G) λfl X2 _ H'=>a9 cc E fl X2 H'):a9 cc {E with nx:=AA cc Z g E} fl μ H:=by
 cases fl with
 |nx X9=>exact λσ s=>⟨X9,μ,G,s,h,p⟩
 |rt d=>exact c7.ok p h
 |bk X9=>exact c7.ok p h
 |ct X9=>exact c7.ok p h
theorem VM(h1:DS X Z st f)(h2:DB X Z rest g):DB X Z (st::rest) (m5 f g):=
 DB.of (wO h1.h h2.h) λE σ H ov=>ov.elim λX9 μ G s h p=>⟨X9,μ,G,s,h,(c7.bind p).mono λfl X0 G1 H1 x' h1 p1=>Gc h1 p1⟩
theorem vR(h1:DS X Z st f):DB X Z [st] f:=⟨IS h1.h⟩
theorem aa(he:DE X Z e fa)(hs:YT e none pos.line X.env=pure false):DS X Z (.Expr e pos) (A8 fa):=
 DS.of (RN he.h hs) λE σ H ov=>ov.elim λX9 μ G s h p=>⟨X9,μ,G,s,h,(c7.bind p).mono λd X0 G1 H1 x' h1 p1 v rv=>c7.ok p1 h1 σ (s.mono x')⟩
theorem rY(he:DE X Z e fa):DS X Z (.Return (some e) pos) (u9 fa):=
 DS.of (mZ he.h) λE σ H ov=>ov.elim λX9 μ G s h p=>⟨X9,μ,G,s,h,(c7.bind p).mono λd X0 G1 H1 x' h1 p1 v rv=>c7.ok p1 h1 v rv⟩
theorem Rz(hc:DT X Z c t)(ha:DB X Z sa f)(hb:DB X Z sb g):DS X Z (.If c sa sb pos) (ifS t f g):=
 DS.of (tX hc.h ha.h hb.h) λE σ H ov=>ov.elim λX9 μ G s h p=>⟨X9,μ,G,s,h,(c7.bind p).mono λx X0 G1 H1 x' h1 p1=>by
  cases x with
  |true=>exact⟨X9,X0,G1,s.mono x',h1,p1⟩
  |false=>exact⟨X9,X0,G1,s.mono x',h1,p1⟩⟩
theorem bS{x:Str}(hN:X.N.Nodup)(hi:X.N[i]? =some x)(hx:Loc X.env.scope x)(hf:X.fn x=true\/X.env.scope.names.lookup x=some .local):DG X Z (.Name x pos) (O0 i):=
 DG.of (OP hN hi hx hf) λv σ H Q ov=>ov.elim λd X9 μ G r s h p=>c7.ok p h _ (s.put r i)
theorem Cb:DGs X Z [] F4:=DGs.of kr λvs σ H Q ov=>ov.elim λds X9 μ G r s h p=>by
 cases ds with
 |nil=>cases r;exact⟨rfl,c7.ok p h _ s⟩
 |cons _ _=>exact p.elim
theorem Wh(h1:DG X Z e gg)(h2:DGs X Z es gr)(hs:(xh (e::es) X.env).map (·.2)=YR e X.env::(xh es X.env).map (·.2)):DGs X Z (e::es) (Q4 gg gr):=
 DGs.of (RY h1.h h2.h hs) λvs σ H Q ov=>ov.elim λds X9 μ G r s h p=>by
  cases ds with
  |nil=>exact p.elim
  |cons d t=>
    obtain⟨v,vr,rfl,rv,rt⟩:=r;exact⟨v,vr,rfl,d,X9,μ,G,rv,s,h,(c7.bind p).mono λdσ1 X0 G1 H1 x' h1 p1 WX s1=>⟨t,dσ1,X0,G1,rt.mono x',s1,h1,p1⟩⟩
theorem br{gs:Fgs}(hc:X.calm=true)(h:DGs X Z es gs)(hn:(xh es X.env).length=n)(hst:(xh es X.env).findIdx? (·.1)=none):DG X Z (.Tuple es k pos) (E4 n gs):=
 DG.of (CV hc h.h hn hst) λv σ H Q ov=>ov.elim λd X9 μ G r s h p=>by
  cases d with
  |tup l=>
    unfold d7 at r;obtain⟨a,vs,rfl,q,rl⟩:=r;have p':c7 (wc X) Z μ H ((if l.length=n then gs l X9 else M.stuck:M DSt) G) λWV X2 _ H'=>∀ X1,v5 (wc X) X2 H' WV X1->Q X1 H':=p;split at p'
    ·rename_i hl;exact⟨a,vs,rfl,q,by rw[<-rl.length];exact hl,l,X9,μ,G,rl,s,h,p'⟩
    ·exact p'.elim
  |_=>exact p.elim
theorem fg(he:DE X Z e fa)(hg:DG X Z tg gg)(hs:Ya [tg] e pos.line X.env=pure false)(hw:Yb [tg] e X.env=pure none)
 (h1:(xh [tg] X.env).map (·.2)= [YR tg X.env]):DS X Z (.Assign [tg] e pos) (J4 fa gg):=
 DS.of (VI he.h hg.h hs hw h1) λE σ H ov=>ov.elim λX9 μ G s h p=>⟨X9,μ,G,s,h,(c7.bind p).mono λd X0 G1 H1 x' h1 p1 v rv=>
  ⟨d,X9,X0,G1,rv,s.mono x',h1,(c7.bind p1).mono λdσ2 WW G2 H2 x2 h2 p2 WG s2=>c7.ok p2 h2 WG s2⟩⟩
end
def w5:Nat->(DSt->M Bool)->Fs->Fs
|0,_,_=>λ_=>M.stuck
|n+1,t,b=>λσ=>do
  if <-t σ then
   match <-b σ with
   | .nx X1=>w5 n t b X1
   | .ct X1=>w5 n t b X1
   | .bk X1=>pure (.nx X1)
   | .rt d=>pure (.rt d)
  else pure (.nx σ)
open Classical in
def V3(t:DSt->M Bool)(b:Fs):Fs:=λσ G=>if h:∃n,(w5 n t b σ G).isSome=true then w5 (xP h) t b σ G else none
theorem M.bind_mono{f g:α->M β}{r:Except Str β×DH}(h:(m >>= f) G=some r)(k:∀a G',f a G'=some r->g a G'=some r):(m >>= g) G=some r:=by
 rw[M.bind_eq]at h ⊢
 match m G,h with
 |some (.ok a,G'),h=>exact k a G' h
 |some (.error x,G'),h=>exact h
theorem aJ{t:DSt->M Bool}:∀ {n} {σ} {G:DH} {r:Except Str Fl×DH},w5 n t b σ G=some r->w5 (n+1) t b σ G=some r
|0,_,_,_,h=>by exact w6 h
|n+1,σ,G,r,h=>by
  unfold w5 at h ⊢;refine M.bind_mono h λc G1 h1=>?_
  cases c with
  |true=>
    refine M.bind_mono h1 λfl G2 h2=>?_
    cases fl with
    |nx X1=>exact aJ h2
    |ct X1=>exact aJ h2
    |bk X1=>exact h2
    |rt d=>exact h2
  |false=>exact h1
theorem tF(hm:n<=m)(h:w5 n t b σ G=some r):w5 m t b σ G=some r:=by
 induction hm with
 |refl=>exact h
 |step _ ih=>exact aJ ih
section
theorem LR(hp:PassesOwn (zz X.prog X.w) X.A X.env X.xe)(hc:DT X Z c t)(hb:DB X Z body f):DS X Z (.While c body [] pos) (V3 t f):=
 DS.of (DV hp hc.h hb.h) λE σ H ov=>ov.elim λX9 μ G s h p=>by
  unfold V3 at p;split at p
  ·rename_i ex;refine⟨λm σ H=>∃X9 μ G,v5 (wc X) μ H X9 σ/\j9 (wc X) μ G H/\c7 (wc X) Z μ H (w5 m t f X9 G) λfl X2 _ H'=>a9 (wc X) E fl X2 H',⟨_,X9,μ,G,s,h,p⟩,?_⟩;rintro m σ H ⟨X9,μ,G,s,h,p⟩
   cases m with
   |zero=>exact p.elim
   |succ m=>
     refine⟨X9,μ,G,s,h,(c7.bind p).mono λx X0 G1 H1 x' h1 p1=>?_⟩
     cases x with
     |false=>exact c7.ok p1 h1 σ (s.mono x')
     |true=>
       refine⟨λX1 H'=>∃X9 μ G,v5 (wc X) μ H' X9 X1/\j9 (wc X) μ G H'/\c7 (wc X) Z μ H' (w5 m t f X9 G) λfl X2 _ H'=>a9 (wc X) E fl X2 H',λX1 H' w=>⟨m,ZT _,w⟩,X9,X0,G1,s.mono x',h1,(c7.bind p1).mono λfl WW G2 H2 x2 h2 p2=>?_⟩
       cases fl with
       |nx WV=>exact λX1 s'=>⟨WV,WW,G2,s',h2,p2⟩
       |ct WV=>exact λX1 s'=>⟨WV,WW,G2,s',h2,p2⟩
       |bk WV=>exact λX1 s'=>c7.ok p2 h2 X1 s'
       |rt d=>exact λv r=>c7.ok p2 h2 v r
  ·exact p.elim
end
def A1(g:Fg)(b:Fs)(ck:DH->Bool):List D->Fs
|[]=>λσ G=>if ck G then some (.ok (.nx σ),G)else none
| d :: r => λσ G => if ck G then (do
   match <-b (<-g d σ) with
   | .nx X1=>A1 g b ck r X1
   | .ct X1=>A1 g b ck r X1
   | .bk X1=>pure (.nx X1)
   | .rt d=>pure (.rt d):M Fl) G else none
structure Src where
 items:List D
 ck:DH->Bool
def F8(it:DSt->M Src)(g:Fg)(b:Fs):Fs:=λσ=>do
 let s <-it σ
 A1 g b s.ck s.items σ
def ItD(c:Wc)(μ:List Addr)(H:Hp)(J:It)(s:Src):Prop:=∀ X2 G' H',Ext μ H X2 H'->j9 c X2 G' H'->s.ck G'=true->∀i:Nat,
 (∀d,s.items[i]? =some d->J.go i H'/\∀x H2,J.yld i H' x H2->Ext X2 H' X2 H2/\j9 c X2 G' H2/\d7 c X2 H2 d x)/\(s.items.length<=i->J.stop i H')
def qH(c:Wc)(Z:XC)(it:DSt->M Src):TI:=λσ H R=>∃X9 μ G,v5 c μ H X9 σ/\j9 c μ G H/\c7 c Z μ H (it X9 G) λs X2 _ H'=>∀J,ItD c X2 H' J s->R J H'
theorem qH.elim{P:Prop}{σ:St}{H:Hp}(h:qH c Z it σ H R)(k:∀X9 μ G,v5 c μ H X9 σ->j9 c μ G H->c7 c Z μ H (it X9 G) (λs X2 _ H'=>∀J,ItD c X2 H' J s->R J H')->P):P:=by obtain⟨e0,e1,e2,e3,e4,e5⟩:=h;exact k e0 e1 e2 e3 e4 e5
structure DI(X:Cx)(Z:XC)(tg e:Expr)(it:DSt->M Src):Prop where
 h:PI X tg e (qH (wc X) Z it)
theorem PI.mono(h:PI X tg e t)(k:∀ σ H R,t' σ H R->t σ H R):PI X tg e t':=λom s σ H R I q=>h om s σ H R I (k σ H R q)
theorem DI.of(h:PI X tg e t)(k:∀ σ H R,qH (wc X) Z it σ H R->t σ H R):DI X Z tg e it:=⟨PI.mono h k⟩
section
def uT(c:Wc)(E:f8)(fl:Fl)(μ:List Addr)(_:DH)(H:Hp):Prop:=a9 c E fl μ H
inductive CL(c:Wc)(Z:XC)(gg:Fg)(f:Fs)(sr:Src)(E:f8)(X0:List Addr)(H1:Hp)(i:Nat)(σ:St)(H:Hp):Prop
|mk (X9:DSt) (μ:List Addr) (G:DH) (k:Ext X0 H1 μ H) (s:v5 c μ H X9 σ) (h:j9 c μ G H) (p:c7 c Z μ H (A1 gg f sr.ck (sr.items.drop i) X9 G) (uT c E))
theorem wR(hp:PassesOwn (zz X.prog X.w) X.A X.env X.xe)(hc:X.calm=true)(hi:DI X Z tg iter it)(hg:DG X Z tg gg)(hb:DB X Z body f)(hs:∀x,xc iter X.env x=pure x):
 DS X Z (.For tg iter body [] pos) (F8 it gg f):=
 DS.of (qV hp hc hi.h hg.h hb.h hs) λE σ H ov=>ov.elim λX9 μ G s h p=>⟨X9,μ,G,s,h,(c7.bind p).mono λsr X0 G1 H1 x' h1 p1 J hJ=>by
  refine⟨λi m X1 H'=>m=sr.items.length-i/\i<=sr.items.length/\CL (wc X) Z gg f sr E X0 H1 i X1 H',
   ⟨sr.items.length,rfl,jl _,X9,X0,G1,Ext.refl _ _,s.mono x',h1,p1⟩,?_⟩
  rintro i m X1 H' ⟨rfl,hi',WV,X2,G',k',s',h',p'⟩;by_cases pj:i<sr.items.length
  ·rw[xG pj]at p';unfold A1 at p';split at p'
   ·rename_i ck;obtain⟨q1,_⟩:=hJ X2 G' H' k' h' ck i;obtain⟨go,yl⟩:=q1 _ (zr pj);refine .inr ⟨go,λWG H2=>CL (wc X) Z gg f sr E X0 H1 (i+1) WG H2,λWG H2 w=>⟨sr.items.length-(i+1),Yz _ _ pj,rfl,pj,w⟩,λx H2 y=>?_⟩;obtain⟨k2,h2,rx⟩:=yl x H2 y;have p2:=c7.bind (p'.from k2);refine⟨_,WV,X2,G',rx,s'.mono k2,h2,p2.mono λdσ3 WJ G3 H3 x3 h3 p3 WH s3=>?_⟩;refine⟨dσ3,WJ,G3,s3,h3,(c7.bind p3).mono λfl WF G4 H4 x4 h4 p4=>?_⟩
    cases fl with
    |nx dσ4=>exact λσ4 s4=>⟨dσ4,WF,G4,k'.trans (k2.trans (x3.trans x4)),s4,h4,p4⟩
    |ct dσ4=>exact λσ4 s4=>⟨dσ4,WF,G4,k'.trans (k2.trans (x3.trans x4)),s4,h4,p4⟩
    |bk dσ4=>exact λσ4 s4=>c7.ok p4 h4 σ4 s4
    |rt d=>exact λv r=>c7.ok p4 h4 v r
   ·exact p'.elim
  ·have e:i=sr.items.length:=Nat.le_antisymm hi' (Nat.le_of_not_lt pj);subst e;rw[List.drop_length]at p';unfold A1 at p';split at p'
   ·rename_i ck;obtain⟨_,q2⟩:=hJ X2 G' H' k' h' ck sr.items.length;exact .inl ⟨q2 (zg _),c7.ok p' h' X1 s'⟩
   ·exact p'.elim⟩
end
def C4(env:Env):List (Str×NameKind)->List (Str×Addr)->List (Str×Addr)
|[],cs=>cs
|(n,k)::r,cs=>C4 env r (if k == .free then (match env.cells.lookup n with|some c=>(n,c)::cs|none=>cs)else cs)
theorem pO:∀l cs,(∀p∈l,p.2= .free->∃c,env.cells.lookup p.1=some c)->
 (forIn l cs (fun(x:Str×NameKind) (cs:List (Str×Addr))=>(match x with|(name,kind)=>if (kind==NameKind.free)=true then do let c <-cellOf env name;pure (ForInStep.yield ((name,c)::cs))else pure (ForInStep.yield cs):Sem (ForInStep (List (Str×Addr))))):Sem (List (Str×Addr)))=pure (C4 env l cs)
 |[],cs,_=>rfl
 |(n,k)::r,cs,h=>by
  have ih:=λcs'=>pO r cs' λp hp=>h p (zP _ hp);rw[Yj];unfold C4;rcases hk:(k==NameKind.free)with _|_
  ·
    have e:(match ((n,k):Str×NameKind) with|(name,kind)=>if (kind==NameKind.free)=true then do let c <-cellOf env name;pure (ForInStep.yield ((name,c)::cs))else pure (ForInStep.yield cs):Sem (ForInStep (List (Str×Addr))))=pure (ForInStep.yield cs):=by show (if (k==NameKind.free)=true then _ else _)=_;rw[hk];rfl
    rw[e];exact ih cs
  ·
    obtain⟨c,hc⟩:=h (n,k) jo (by simpa using hk);have hcell:cellOf env n=pure c:=by unfold cellOf;rw[hc]
    have e:(match ((n,k):Str×NameKind) with|(name,kind)=>if (kind==NameKind.free)=true then do let c <-cellOf env name;pure (ForInStep.yield ((name,c)::cs))else pure (ForInStep.yield cs):Sem (ForInStep (List (Str×Addr))))=pure (ForInStep.yield ((n,c)::cs)):=by show (if (k==NameKind.free)=true then (do let c <-cellOf env n;pure (ForInStep.yield ((n,c)::cs)))else _)=_;rw[hk,hcell];rfl
    rw[e,hc];exact ih ((n,c)::cs)
theorem LW(h:∀p∈scope.names,p.2= .free->∃c,env.cells.lookup p.1=some c):closureFor scope env=pure (C4 env scope.names []):=by have q:=pO scope.names [] h;unfold closureFor;dsimp only;rw[q];rfl
theorem SL:∀l cs,(cs.lookup x=some c->env.cells.lookup x=some c)->(C4 env l cs).lookup x=some c->env.cells.lookup x=some c
|[],cs,h,e=>h e
|(n,k)::r,cs,h,e=>by
 unfold C4 at e;refine SL r _ (λe1=>?_) e;split at e1
 ·split at e1
  ·rename_i c' hc;rw[yL]at e1;split at e1
   ·rename_i hx;have hx':x=n:=by simpa using hx
    subst hx'
    cases e1
    exact hc
   ·exact h e1
  ·exact h e1
 ·exact h e1
theorem S5(h:(C4 env l []).lookup x=some c):env.cells.lookup x=some c:=SL l [] (λz=>by exact w6 z) h
theorem GS:∀l cs,(∃c,cs.lookup x=some c)->∃c,(C4 env l cs).lookup x=some c
|[],cs,h=>h
|(n,k)::r,cs,h=>by
 unfold C4;refine GS r _ ?_;split
 ·split
  ·rename_i c' hc;rw[yL];split
   ·exact⟨_,rfl⟩
   ·exact h
  ·exact h
 ·exact h
theorem fI(hc:env.cells.lookup x=some c):∀l cs,(x,NameKind.free)∈l->∃c,(C4 env l cs).lookup x=some c
|[],cs,h=>by simp at h
|(n,k)::r,cs,h=>by
 unfold C4;rcases zk.mp h with e|h
 ·cases e
  refine GS r _ ?_;rw[hc];simp
 ·exact fI hc r _ h
section
theorem US(I:Nat->zh->Prop)
 (turn:∀n s,I n s->zq (zz prog w) A (Yw it) (λr W1=>match r with
   |none=>R (.ok .next) W1
   | some v => zq (zz prog w) A (xQ target it v) (λ_ s₁' => zq (zz prog w) A (YR target env v) (λ_ WQ =>
      zq (zz prog w) A (forIn ifs true λc r=>if r=true then do let ok <-isTrue c env (eval c env);pure (ForInStep.yield ok)else pure (ForInStep.yield r)) (λok WN=>
       if ok=true then zq (zz prog w) A (eval elt env) (λx s₄=>
        zq (zz prog w) A (call (.builtin "list.append") [pi,x]) (λ_ s₅=>∃m,m<n/\I m s₅) (λ_ _=>False) s₄) (λ_ _=>False) WN
       else ∃m,m<n/\I m WN) (λ_ _=>False) WQ) (λ_ _=>False) s₁') (λ_ _=>False) W1) (λ_ _=>False) s)
 (n:Nat) (h:I n s):
 ZC (zz prog w) A (.compLoop (.ListComp elt [⟨target,iter,ifs,0⟩] scope pos) 0 it pi env) R s:=by
 refine codeAny_loop rfl I (λn s hI=>?_) n h;show zq _ A ((compTurn (.ListComp elt [⟨target,iter,ifs,0⟩] scope pos) 0 it pi env).onRaise (λx=>do Zi x env;theTreesLotGoes x)) _ _ s;refine wpAny_noted ?_;rw[compTurn_list];refine za (xO (za (jg (turn n s hI) (λr W1 h₁=>?_) λ_ _ h'=>h'.elim)));rcases r with _|v
 ·exact zm h₁
 ·
   refine za (jg h₁ (λ_ s₁' h₁'=>?_) λ_ _ h'=>h'.elim);refine za (jg h₁' (λ_ WQ h₂=>za (jg h₂ (λok WN h₃=>?_) λ_ _ h'=>h'.elim)) λ_ _ h'=>h'.elim);rcases ok with _|_
   ·
     exact zm ⟨rfl,h₃⟩
   ·
     exact za (za (jg h₃ (λx s₄ h₄=>za (jg h₄ (λ_ s₅ h₅=>zm (zm ⟨rfl,h₅⟩)) λ_ _ h'=>h'.elim)) λ_ _ h'=>h'.elim))
end
def O8(X:Cx)(scope:Scope)(N:List Str)(C:Addr)(s:zh)(H:Hp)(ex:List Addr):Cx where
 prog:=X.prog
 w:=X.w
 K:=X.K
 mg:=X.mg
 base:=X.base
 A:=X.A
 N:=N
 WY:=s
 H₀:=H
 env:=compEnvC scope (C4 X.env scope.names []) C X.env
 outer:=X.stack
 stack:=X.stack
 ex:=ex
 fn:=λ_=>false
 calm:=X.calm
 pn:= []
 xe:=λ_ _=>False
structure d5(X:Cx)(scope:Scope)(N:List Str)(caps:List (Option Nat)):Prop where
 kind:scope.kind= .function
 cell:∀y∈scope.names,y.2≠ .cell
 names:∀y∈scope.names,y.2= .local->scope.names.lookup y.1=some .local
 free:∀y∈scope.names,y.2= .free->X.env.kindOf y.1=some .cell\/X.env.kindOf y.1=some .free
 frees:∀y∈scope.names,y.2= .free->scope.names.lookup y.1=some .free
 len:caps.length=N.length
 caps:∀(i j:Nat),caps[i]? =some (some j)->∃x,N[i]? =some x/\X.N[j]? =some x/\(x,NameKind.free)∈scope.names
def U2{α:Type}(caps:List (Option Nat))(σ:List (Option α)):List (Option α):=caps.map λo=>o.bind λj=>(σ[j]?).join
theorem nI{env:Env}:∀names:List (Str×NameKind),(names.map fun(n,k)=>if (k==NameKind.free&&env.scope.kind == .function&&env.kindOf n==some .cell)then (n,NameKind.cell)else (n,k)).lookup x=
 (names.lookup x).map λk=>if (k==NameKind.free&&env.scope.kind == .function&&env.kindOf x==some .cell)then NameKind.cell else k
 |[]=>rfl
 |(n,k)::r=>by
  have ih:=nI (env:=env) (x:=x) r;rw[zW];by_cases hx:x=n
  ·subst hx;dsimp only;split
   ·rename_i h;simp[yL];simp at h;simp[h]
   ·rename_i h;simp[yL];simp at h;intro a b c;exact absurd c (h a b)
  ·have hb:(x==n)=false:=by simpa using hx
   dsimp only;split
   ·rw[yL,yL,hb];exact ih
   ·rw[yL,yL,hb];exact ih
section
variable{X:Cx}{scope:Scope}{N:List Str}{caps:List (Option Nat)}
theorem d5.isFree(k:d5 X scope N caps){x:Str}(h:(relabel scope X.env).names.lookup x=some .cell\/(relabel scope X.env).names.lookup x=some .free):(x,NameKind.free)∈scope.names:=by
 have e:(relabel scope X.env).names.lookup x= (scope.names.lookup x).map λk=>if (k==NameKind.free&&X.env.scope.kind == .function&&X.env.kindOf x==some .cell)then NameKind.cell else k:=nI scope.names;rw[e]at h;rcases hl:scope.names.lookup x with _|kd
 ·rw[hl]at h;rcases h with h|h<;>exact w6 h
 ·
   rw[hl]at h;have hm:=xb hl;have hn:=k.cell _ hm;simp only[Xo]at h
   cases kd with
   |free=>exact hm
   |cell=>exact absurd rfl hn
   |_=>rcases h with h|h<;>simp at h
theorem d5.cells(k:d5 X scope N caps)(ok:X.Ok):∀p∈scope.names,p.2= .free->∃c,X.env.cells.lookup p.1=some c:=λp hp e=>ok.has p.1 (k.free p hp e)
theorem lp(I:Inv X om σ H s)(k:d5 X scope N caps)(hC:s.heap.objs.size<=C)(rn:∀b∈ex,T0 X om H b)(pj:∀b∈ex,b<s.heap.objs.size):(O8 X scope N C s H ex).Ok where
 mod:=I.ok.mod
 kind:=k.kind
 glob:=I.ok.glob
 blt:=I.ok.blt
 above:=hC
 inj:=λx y c h1 h2=>I.ok.inj x y c (S5 h1) (S5 h2)
 has:=λx hx=>by have hm:=k.isFree hx;obtain⟨c,hc⟩:=k.cells I.ok _ hm rfl;exact fI hc _ _ hm
 cab:=λx c h=>by exact sE h
 hd:=I.ok.hd
 frames:=I.ok.frames
 stk:=.inl rfl
 exf:=λb hb=>⟨zu (zQ (pj b hb) hC),λx c e=>(rn b hb).2.2.2.2.1 x c (S5 e)⟩
 bs:=I.bs
 bsz:=jc I.ok.bsz I.sz
 noex:=λb o e hb=>by
  rcases (rn b hb).2.2.2.1 with z|z
  ·exact I.ok.noex b o e z
  ·exact absurd (zQ (zj (I.ok.bs b o e).1) z) (yx _)
 exfs:=λb hb z=>by
  rcases zk.mp (I.stkSub b z)with e|e
  ·exact(rn b hb).2.1 e
  ·exact(rn b hb).2.2.1 e
 funs:=I.stack
 frf:=I.stkFree
 gd:=I.ok.gd
theorem vO{σ:List (Option α)}{i:Nat}(h:(U2 caps σ)[i]? =some (some v)):∃j,caps[i]? =some (some j)/\σ[j]? =some (some v):=by
 unfold U2 at h;rw[jW]at h;rcases e:caps[i]? with _|o
 ·rw[e]at h;exact w6 h
 ·
   rw[e]at h;rcases o with _|j
   ·cases h
   ·
     refine⟨j,rfl,?_⟩;simp only[Xo,Option.bind_some,jf]at h;rcases e2:σ[j]? with _|w
     ·rw[e2]at h;exact w6 h
     ·rw[e2]at h;simp at h;rw[h]
theorem wb{h₁:Heap}{tk:Nat}(I:Inv X om σ H s)(k:d5 X scope N caps)(hC:s.heap.objs.size<C)(rn:∀b∈ex,T0 X om H b)(pj:∀b∈ex,b<s.heap.objs.size)
 (old:∀b o,s.heap.get? b=some o->h₁.get? b=some o) (hns:h₁.Ns C λ_=>none) (su:h₁.get? s.heap.objs.size=some {cls:=.type "list",data:=.seq ([]:List ze).toArray 0}):
 Inv (O8 X scope N C s H ex) [] (U2 caps σ) (upd H s.heap.objs.size (.lst [])) {s with heap:=h₁,toks:=tk}:=by
 have hD:H s.heap.objs.size=none:=I.hok.fresh (zg _);refine⟨lp I k (Zq hC) rn pj,rfl,I.bare,Un.laid old (zg _) hD,⟨_,hns,λi x v h1 h2 h3=>?_⟩,λx c e=>?_,?_,λx c e=>?_,λp hp=>absurd (show p∈([]:PNS)from hp) (by simp),?_,?_⟩
 ·obtain⟨j,e1,e2⟩:=vO h2;obtain⟨y,e3,e4,e5⟩:=k.caps i j e1;have exy:y=x:=by
   have:some y=some x:=e3.symm.trans h1;exact jH this
  subst exy;have hk:=k.free _ e5 rfl;obtain⟨m,hn,hl⟩:=I.loc;obtain⟨u,r,l⟩:=hl j y v e4 e2 (by rcases hk with z|z;exact .inr (.inl z);exact .inr (.inr z));refine⟨u,r,.inr ?_⟩;rcases l with⟨z,_⟩|⟨_,c,ec,hc⟩
  ·rcases hk with z'|z'<;>(rw[z]at z';cases z')
  ·refine⟨?_,c,?_,?_⟩
   ·rcases h3 with h3|h3|h3
    ·exfalso;have e:(relabel scope X.env).names.lookup y= (scope.names.lookup y).map λk=>if (k==NameKind.free&&X.env.scope.kind == .function&&X.env.kindOf y==some .cell)then NameKind.cell else k:=nI scope.names;have h3':(relabel scope X.env).names.lookup y=some .local:=h3;rw[e]at h3';rw[k.frees _ e5 rfl]at h3';simp only[Xo]at h3';split at h3'<;>cases h3'
    ·exact .inl h3
    ·exact .inr h3
   ·obtain⟨c',ec'⟩:=fI ec scope.names [] e5;have:=S5 ec';rw[ec]at this
    cases this
    exact ec'
   ·obtain⟨o,ho,hd⟩:=hc;exact⟨o,old _ _ ho,hd⟩
 ·obtain⟨v,o,ho,hd⟩:=I.cell x c (S5 e);exact⟨v,o,old _ _ ho,hd⟩
 ·show upd H s.heap.objs.size (.lst []) C=none;rw[m7 (xp hC)];exact I.hok.fresh (Zq hC)
 ·obtain⟨v,o,ho,hd⟩:=I.cell x c (S5 e);rw[m7 (zu (zj ho))];exact I.freeC x c (S5 e)
 ·exact I.hok.laid old (zg _) ⟨jl _, [],0,.nil,su⟩
 ·show (U2 caps σ).length=N.length;unfold U2;rw[zE];exact k.len
theorem sY(I:Inv X om σ H s)(rn:∀b∈ex,T0 X om H b)(hC:s.heap.objs.size<C)
 (I':Inv (O8 X scope N C s H ex) pins' X1 H' s') (sb:yV C s'.heap h'):Inv X om σ H' {s' with heap:=h'}:=by
 have hos:s'.os=s.os:=I'.os;have hfree:H' C=none:=I'.free;have neC:∀b o,s.heap.get? b=some o->b≠C:=λb o e z=>by have:=zj e;rw[z]at this;exact absurd (xV hC this) (yx _)
 have hun:Un (frs X.stack) ex H H' s.heap s'.heap:=I'.base;have hun2:Un (frs X.stack) ex H H' s.heap h':=by
  refine⟨λb o e n hb hx=>(sb.2 b (neC b o e)).trans (hun.keep b o e n hb hx),λb o e n hb hx=>?_,hun.free,λb o e hx=>?_,hun.tups,hun.frzs,hun.tbls⟩
  ·obtain⟨sl,q⟩:=hun.slot b o e n hb hx;exact⟨sl,(sb.2 b (neC b o e)).trans q⟩
  ·obtain⟨o',q⟩:=hun.there b o e hx;exact⟨o',(sb.2 b (neC b o e)).trans q⟩
 have hok2:HOk X.prog X.w H' h':=λa o e=>by
  have nc:∀c u,H' c=some u->c≠C:=λc u q z=>by rw[z,hfree]at q;exact w6 q
  refine(I'.hok a o e).stay (λb u hb q=>?_) (λ_ q=>q) λ_ _ q=>q;rcases hb with rfl|hb
  ·exact(sb.2 b (nc b o e)).trans q
  ·exact(sb.2 b (nc b _ hb)).trans q
 obtain⟨hh,g,d,t,os'⟩:=s';obtain rfl:os'=s.os:=hos;have fin:=I.call (d':=d) (t':=t) hun2 hok2 I'.bare λb hb=>⟨(rn b hb).2.2.2.1,(rn b hb).2.1,(rn b hb).2.2.2.2.1,(rn b hb).2.2.2.2.2⟩;exact fin
end
def hide(q:Addr)(H:Hp):Hp:=λb=>if b=q then none else H b
theorem lD:hide q H q=none:=by unfold hide;rw[if_pos rfl]
theorem R1(h:b≠q):hide q H b=H b:=by unfold hide;rw[if_neg h]
theorem O4(h:hide q H b=some o):b≠q/\H b=some o:=by
 by_cases e:b=q
 ·rw[e,lD]at h;exact w6 h
 ·rw[R1 e]at h;exact⟨e,h⟩
theorem Hk(h:H q=some o):upd (hide q H) q o=H:=by
 funext b;by_cases e:b=q
 ·rw[e,v9,h]
 ·rw[m7 e,R1 e]
theorem dF:hide q (upd H q o)=hide q H:=by
 funext b;by_cases e:b=q
 ·rw[e,lD,lD]
 ·rw[R1 e,R1 e,m7 e]
theorem lH(h:H q=none):hide q H=H:=by
 funext b;by_cases e:b=q
 ·rw[e,lD,h]
 ·rw[R1 e]
section
mutual
theorem d7.sq(k:∀a xs,SqT c.K H a xs->SqT c.K H' a xs):∀ {d} {v},d7 c μ H d v->d7 c μ H' d v
| .non,_,h=>h
| .bl _,_,h=>h
| .int _,_,h=>h
| .str _,_,h=>h
| .ty _,_,h=>h
| .fn _,_,h=>h
| .ref i,v,h=>by unfold d7 at h ⊢;exact h
| .tup l,v,h=>by unfold d7 at h ⊢;obtain⟨a,vs,e,q,r⟩:=h;exact⟨a,vs,e,k _ _ q,g8.sq k r⟩
theorem g8.sq(k:∀a xs,SqT c.K H a xs->SqT c.K H' a xs):∀ {l} {vs},g8 c μ H l vs->g8 c μ H' l vs
|[],_,h=>h
|d::ds,vs,h=>by unfold g8 at h ⊢;obtain⟨v,r,e,q,t⟩:=h;exact⟨v,r,e,d7.sq k q,g8.sq k t⟩
end
theorem T8.sq(k:∀a xs,SqT c.K H a xs->SqT c.K H' a xs):∀ {l} {vs},T8 c μ H l vs->T8 c μ H' l vs
|[],_,h=>h
|(_,d)::ds,vs,h=>by obtain⟨v,r,e,q,t⟩:=h;exact⟨v,r,e,d7.sq k q,T8.sq k t⟩
theorem dB(hq:H q=some (.lst vs)){K:zc}(a:Addr)(xs:List V)(h:SqT K H a xs):SqT K (hide q H) a xs:=by
 rcases h with(h|⟨o,h⟩)|h
 ·exact .inl (.inl (by rw[R1 (λe=>by rw[e,hq]at h;cases h)];exact h))
 ·exact .inl (.inr ⟨o,by rw[R1 (λe=>by rw[e,hq]at h;cases h)];exact h⟩)
 ·exact .inr h
theorem aE{K:zc}(a:Addr)(xs:List V)(h:SqT K (hide q H) a xs):SqT K H a xs:=by
 rcases h with(h|⟨o,h⟩)|h
 ·exact .inl (.inl (O4 h).2)
 ·exact .inl (.inr ⟨o,(O4 h).2⟩)
 ·exact .inr h
theorem v5.sq(k:∀a xs,SqT c.K H a xs->SqT c.K H' a xs)(h:v5 c μ H X9 σ):v5 c μ H' X9 σ:=⟨h.1,λi d e=>let ⟨v,a,b⟩:=h.2 i d e;⟨v,a,b.sq k⟩⟩
theorem Ext.hide(x:Ext μ H X2 H')(n:q∉μ)(hq:H q=some (.lst vs)):H' q=some (.lst vs)/\q∉X2/\Ext μ (DL.hide q H) X2 (DL.hide q H'):=by
 refine⟨x.oth q _ hq n,λh=>?_,x.pre,λa h1 h2=>?_,λb o e nb=>?_,λb xs e=>?_,λb o u e=>?_⟩
 ·have:=x.new q h n;rw[hq]at this;exact BF this
 ·by_cases e:a=q
  ·rw[e,lD]
  ·rw[R1 e];exact x.new a h1 h2
 ·obtain⟨e1,e2⟩:=O4 e;rw[R1 e1];exact x.oth b o e2 nb
 ·obtain⟨e1,e2⟩:=O4 e;rw[R1 e1];exact x.tup b xs e2
 ·obtain⟨e1,e2⟩:=O4 e;rw[R1 e1];exact x.frz b o u e2
theorem Ext.unhide(x:Ext μ H X2 (DL.hide q H')):Ext μ H X2 H':=
 ⟨x.pre,x.new,λb o e n=>(O4 (x.oth b o e n)).2,λb xs e=>(O4 (x.tup b xs e)).2,λb o u e=>(O4 (x.frz b o u e)).2⟩
theorem j9.hide(h:j9 c μ G H)(n:q∉μ)(hq:H q=some (.lst vs)):j9 c μ G (DL.hide q H):=
 ⟨h.len,h.inj,λi o a g m=>by
  have na:a≠q:=λe=>n (by rw[<-e];exact yA m);have r:=h.obj i o a g m
  cases o with
  |lst l=>obtain⟨ws,e,r⟩:=r;exact⟨ws,by rw[R1 na];exact e,r.sq (dB hq)⟩
  |dct l=>obtain⟨ws,e,r⟩:=r;exact⟨ws,by rw[R1 na];exact e,r.sq (dB hq)⟩
  |rod l=>obtain⟨ws,o,e,r⟩:=r;exact⟨ws,o,by rw[R1 na];exact e,r.sq (dB hq)⟩
  |rol l=>
    obtain⟨ws,e,r⟩:=r;refine⟨ws,?_,r.sq (dB hq)⟩;rcases e with⟨o,e⟩|e
    ·exact .inl ⟨o,by rw[R1 na];exact e⟩
    ·exact .inr e⟩
theorem j9.unhide(h:j9 c μ G (DL.hide q H)):j9 c μ G H:=
 ⟨h.len,h.inj,λi o a g m=>by
  have r:=h.obj i o a g m
  cases o with
  |lst l=>obtain⟨ws,e,r⟩:=r;exact⟨ws,(O4 e).2,r.sq aE⟩
  |dct l=>obtain⟨ws,e,r⟩:=r;exact⟨ws,(O4 e).2,r.sq aE⟩
  |rod l=>obtain⟨ws,o,e,r⟩:=r;exact⟨ws,o,(O4 e).2,r.sq aE⟩
  |rol l=>
    obtain⟨ws,e,r⟩:=r;refine⟨ws,?_,r.sq aE⟩;rcases e with⟨o,e⟩|e
    ·exact .inl ⟨o,(O4 e).2⟩
    ·exact .inr e⟩
inductive UH{α:Type}(c:Wc)(q:Addr)(vs:List V)(μ:List Addr)(H:Hp)(K:α->List Addr->DH->Hp->Prop)(a:α)(X2:List Addr)(G':DH)(H':Hp):Prop
|mk (e:H' q=some (.lst vs)) (n:q∉X2) (h:j9 c X2 G' (DL.hide q H')) (x:Ext μ (DL.hide q H) X2 (DL.hide q H')) (k:K a X2 G' (DL.hide q H'))
theorem c7.unhide{r:Option (Except Str α×DH)}{K:α->List Addr->DH->Hp->Prop}(n:q∉μ)(hq:H q=some (.lst vs))(p:c7 c ZF μ (DL.hide q H) r K):
 c7 c Z μ H r (UH c q vs μ H K):=by
 match r,p with
 |some (.ok a,G'),p=>
   intro X2 H' x h;obtain⟨e1,e2,e3⟩:=x.hide n hq;have h2:=h.hide e2 e1;exact⟨e1,e2,h2,e3,p X2 _ e3 h2⟩
 |some (.error z,G'),p=>
   intro X2 H' x h;obtain⟨e1,e2,e3⟩:=x.hide n hq;exact(p X2 _ e3 (h.hide e2 e1)).elim
theorem j9.mem_lt(I:Inv X om σ H s)(h:j9 (wc X) μ G H)(ha:a∈μ):a<s.heap.objs.size:=by
 obtain⟨i,hi⟩:=Yt ha;have hl:i<G.length:=by rw[<-h.len];exact lt_of_get hi
 have r:=h.obj i G[i] a (zr hl) hi;rcases e:G[i]with l|l|l|l
 ·rw[e]at r;obtain⟨_,e,_⟩:=r;exact I.hok.lt e
 ·
   rw[e]at r;obtain⟨ws,e,_⟩:=r;rcases e with⟨o,e⟩|e
   ·exact I.hok.lt e
   ·rcases e with(e|⟨o,e⟩)|⟨o,ou,n,e,_⟩
    ·exact w6 e
    ·exact w6 e
    ·exact zj (I.kIn a o e)
 ·rw[e]at r;obtain⟨_,e,_⟩:=r;exact I.hok.lt e
 ·rw[e]at r;obtain⟨_,_,e,_⟩:=r;exact I.hok.lt e
end
def PTs(X:Cx)(ifs:List Expr)(t:TT):Prop:=
 ∀(om:PNS) (s:zh) (σ:St) (H:Hp) (Q:Bool->Hp->Prop),Inv X om σ H s->t σ H Q->
  zq (zz X.prog X.w) X.A (forIn ifs true λc r=>if r=true then do let ok <-isTrue c X.env (eval c X.env);pure (ForInStep.yield ok)else pure (ForInStep.yield r)) (TP X om σ Q) X.xe s
structure DTs(X:Cx)(Z:XC)(ifs:List Expr)(f:DSt->M Bool):Prop where
 h:PTs X ifs (OB (wc X) Z f)
def y6:DSt->M Bool:=λ_=>pure true
theorem Mg:DTs X Z [] y6:=⟨λom s σ H Q I ov=>ov.elim λX9 μ G sr h p=>wpAny_tests_nil ⟨H,I,c7.ok p h⟩⟩
theorem UW(h:DT X Z c t):DTs X Z [c] t:=⟨λom s σ H Q I q=>wpAny_tests_one (h.h om s σ H Q I q)⟩
def N5(g:Fg)(t:DSt->M Bool)(e:Fe)(ck:DH->Bool):List D->DSt->M (List D)
|[]=>λ_ G=>if ck G then some (.ok [],G)else none
| d :: r => λσ G => if ck G then (do
   let WX <-g d σ
   if <-t WX then do
    let y <-e WX
    let ys <-N5 g t e ck r WX
    pure (y::ys)
   else N5 g t e ck r WX:M (List D)) G else none
def U4(it:DSt->M Src)(caps:List (Option Nat))(g:Fg)(t:DSt->M Bool)(e:Fe):Fe:=λσ=>do
 let s <-it σ
 if s.items.length<=zi then do
  let ys <-noX (N5 g t e s.ck s.items (U2 caps σ))
  K7 (.lst ys)
 else M.stuck
theorem UU(h:v5 c μ H X9 σ):v5 c μ H (U2 caps X9) (U2 caps σ):=by refine⟨by simp[U2],λi d e=>?_⟩;obtain⟨j,e1,e2⟩:=vO e;obtain⟨v,e3,r⟩:=h.2 j d e2;refine⟨v,?_,r⟩;unfold U2;rw[jW,e1];simp[e3]
section
set_option maxHeartbeats 1000000 in
def CKV(c:Wc)(Q:VK)(d:D)(X2:List Addr)(_:DH)(H':Hp):Prop:=∀v,d7 c X2 H' d v->Q v H'
def CKR(c:Wc)(Z:XC)(Q:VK)(ys rest:List D)(μ:List Addr)(G:DH)(H:Hp):Prop:=c7 c Z μ H (K7 (.lst (ys++rest)) G) (CKV c Q)
def HS(gg:Fg)(tt:DSt->M Bool)(fe:Fe)(ck:DH->Bool)(items:List D)(σ:DSt)(y:D):M (List D):=do let ys <-N5 gg tt fe ck items σ;pure (y::ys)
def AN(gg:Fg)(tt:DSt->M Bool)(fe:Fe)(ck:DH->Bool)(items:List D)(σ:DSt)(b:Bool):M (List D):=if b=true then (do let y <-fe σ;let ys <-N5 gg tt fe ck items σ;pure (y::ys))else N5 gg tt fe ck items σ
def Qx(gg:Fg)(tt:DSt->M Bool)(fe:Fe)(ck:DH->Bool)(items:List D)(σ:DSt):M (List D):=do if <-tt σ then do {let y <-fe σ;let ys <-N5 gg tt fe ck items σ;pure (y::ys)}else N5 gg tt fe ck items σ
inductive CG(X:Cx)(Z:XC)(Q:VK)(vs:List V)(DD:Addr)(ys:List D)(X2:List Addr)(H5:Hp)(m:DSt->M (List D))(WP:St)(H6:Hp):Prop
|mk (WT:DSt) (μ6:List Addr) (G6:DH) (s:v5 (wc X) μ6 H6 WT WP) (h:j9 (wc X) μ6 G6 H6) (u:UH (wc X) DD vs X2 H5 (λX9 μ G H=>c7 (wc X) ZF μ H (m X9 G) (CKR (wc X) Z Q ys)) WT μ6 G6 H6)
inductive CT(X:Cx)(Z:XC)(Q:VK)(vs:List V)(DD:Addr)(ys:List D)(WT:DSt)(WP:St)(μ6:List Addr)(H6:Hp)(m:Bool->M (List D))(b:Bool)(H7:Hp):Prop
|mk (WI:List Addr) (G7:DH) (s:v5 (wc X) WI H7 WT WP) (h:j9 (wc X) WI G7 H7) (u:UH (wc X) DD vs μ6 H6 (λb μ G H=>c7 (wc X) ZF μ H (m b G) (CKR (wc X) Z Q ys)) b WI G7 H7)
inductive CE(X:Cx)(Z:XC)(Q:VK)(vs:List V)(DD:Addr)(ys:List D)(WT:DSt)(WP:St)(WI:List Addr)(H7:Hp)(m:D->M (List D))(v:V)(H8:Hp):Prop
|mk (y:D) (μ8:List Addr) (G8:DH) (r:d7 (wc X) μ8 H8 y v) (s:v5 (wc X) μ8 H8 WT WP) (h:j9 (wc X) μ8 G8 H8) (u:UH (wc X) DD vs WI H7 (λy μ G H=>c7 (wc X) ZF μ H (m y G) (CKR (wc X) Z Q ys)) y μ8 G8 H8)
inductive BJ(Y:Cx)(Z:XC)(Q:VK)(gg:Fg)(tt:DSt->M Bool)(fe:Fe)(src:Src)(fp:List Addr)(tn:Nat->Heap->Prop)(DD:Addr)(WW:List Addr)(H2:Hp)(n:Nat)(s':zh):Prop
|mk (i:Nat) (ys:List D) (vs:List V) (X1:St) (H':Hp) (WV:DSt) (X2:List Addr) (G':DH) (e:n=src.items.length-i) (hi:i<=src.items.length) (hv:vs.length<=i)
   (I:Inv Y [] X1 H' s') (st:tn i s'.heap) (fr:∀b∈fp,H' b=none) (hs:H' DD=some (.lst vs)) (nD:DD∉X2)
   (x:Ext WW H2 X2 (hide DD H')) (h:j9 (wc Y) X2 G' (hide DD H')) (sr:v5 (wc Y) X2 (hide DD H') WV X1) (rl:g8 (wc Y) X2 (hide DD H') ys vs)
   (p:c7 (wc Y) ZF X2 (hide DD H') (N5 gg tt fe src.ck (src.items.drop i) WV G') (CKR (wc Y) Z Q ys))
theorem Qv{Y:Cx}{Q:VK}{src:Src}{tn:Nat->Heap->Prop}{DD it:Addr}{H2:Hp}{J:It}{R:Jl->zh->Prop}(hcX:Y.calm=true)(hg:DG Y ZF tg gg)(ht:DTs Y ZF ifs tt)(he:DE Y ZF elt fe)(T:P7 Y.prog Y.w Y.K tg J fp it tn)
 (fpX:∀(H':Hp) (b:Addr),b∈fp->H' b=none->T0 Y [] H' b) (hJ:ItD (wc Y) WW H2 J src) (ow:src.items.length<=zi) (fin:∀(H':Hp) (X1:St) (s4:zh),Inv Y [] X1 H' s4->Q (.ref DD) H'->R (.ok .next) s4) (n:Nat) (s':zh) (h:BJ Y Z Q gg tt fe src fp tn DD WW H2 n s') {NX:zh->Prop} (nx:∀m s,m<n->BJ Y Z Q gg tt fe src fp tn DD WW H2 m s->NX s):
 zq (zz Y.prog Y.w) Y.A (Yw (.ref it)) (λr W1=>match r with
  |none=>R (.ok .next) W1
  | some v => zq (zz Y.prog Y.w) Y.A (xQ tg (.ref it) v) (λ_ s₁' => zq (zz Y.prog Y.w) Y.A (YR tg Y.env v) (λ_ WQ =>
     zq (zz Y.prog Y.w) Y.A (forIn ifs true λc r=>if r=true then do let ok <-isTrue c Y.env (eval c Y.env);pure (ForInStep.yield ok)else pure (ForInStep.yield r)) (λok WN=>
      if ok=true then zq (zz Y.prog Y.w) Y.A (eval elt Y.env) (λx s₄=>
       zq (zz Y.prog Y.w) Y.A (call (.builtin "list.append") [.ref DD,x]) (λ_ s₅=>NX s₅) Y.xe s₄) Y.xe WN
      else NX WN) Y.xe WQ) Y.xe s₁') Y.xe W1) Y.xe s':=by
 obtain⟨i,ys,vs,X1,H',WV,X2,G',rfl,hi',hvl,I',pc,fr',hvs,nD',x',h',sr',rl,p'⟩:=h;by_cases pj:i<src.items.length
 ·rw[xG pj]at p';unfold N5 at p';split at p'
  case isFalse=>exact p'.elim
  rename_i ck;obtain⟨q1,_⟩:=hJ X2 G' H' x'.unhide h'.unhide ck i;obtain⟨go,yl⟩:=q1 _ (zr pj);refine thn (T.item (Y) rfl rfl rfl hcX i [] s' X1 H' Y.xe I' (λb hb=>fpX H' b hb (fr' b hb)) pc go) λr s4 z4=>?_;obtain⟨u,rfl,h4⟩:=z4;refine thn h4 λ_ s5 z5=>?_;obtain⟨x,H5,I5,r5,y5,st5,fr5⟩:=z5;obtain⟨k5,h5,rx5⟩:=yl x H5 y5;obtain⟨e5,n5,k5'⟩:=k5.hide nD' hvs;have I5':=I5.pinned (λb hb=>fpX H5 b hb (fr5 b hb)) (T.obj _ _ st5);have keepIt:∀ {WM:St} {H7:Hp} {s7:zh},Inv (Y) ([]++HD fp s5.heap) WM H7 s7->Inv (Y) [] WM H7 s7/\tn (i+1) s7.heap/\∀b∈fp,H7 b=none:=λ{WM H7 s7} I7=>by refine⟨I7.unpinned,T.keep _ _ _ st5 λb hb o e=>(I7.pin (b,o) (zG _ (zG _ (V1 hb e)))).1,λb hb=>?_⟩;obtain⟨o,e,d⟩:=T.obj _ _ st5 b hb;exact(I7.pin (b,o) (zG _ (zG _ (V1 hb e)))).2.1
  have p5:=c7.unhide (Z:=ZF) n5 e5 (c7.bind (p'.from k5'));refine thn (hg.h _ s5 X1 H5 x u _ I5' r5 ⟨_,WV,X2,G',rx5,(sr'.mono k5').sq aE,h5,p5.mono λWT μ6 G6 H6 x6 h6 q6 WP sr6=>(⟨WT,μ6,G6,sr6,h6,q6⟩:CG Y Z Q vs DD ys X2 H5 (Qx gg tt fe src.ck (src.items.drop (i+1))) WP H6)⟩) λ_ s6 z6=>?_;obtain⟨WP,H6,I6,WT,μ6,G6,sr6,h6,e6,n6,hh6,x6,p6⟩:=z6;have p6':=c7.unhide (Z:=ZF) n6 e6 (c7.bind p6);refine thn (ht.h _ s6 WP H6 (CT Y Z Q vs DD ys WT WP μ6 H6 (AN gg tt fe src.ck (src.items.drop (i+1)) WT)) I6 ⟨WT,μ6,G6,sr6,h6,p6'.mono λb WI G7 H7 x7 h7 q7=>⟨WI,G7,sr6.mono x7,h7,q7⟩⟩) λb s7 z7=>?_;obtain⟨H7,I7,WI,G7,sr7,h7,e7,n7,hh7,x7,p7⟩:=z7;unfold AN at p7;have x27:Ext WW H2 WI (hide DD H7):=x'.trans (k5'.trans (x6.trans x7));have rl7:g8 (wc Y) WI (hide DD H7) ys vs:=rl.mono (k5'.trans (x6.trans x7));rcases b with _|_
  ·
    rw[if_neg zw]at p7 ⊢;obtain⟨I8,st8,fr8⟩:=keepIt I7;exact nx _ _ (Yz _ _ pj) ⟨i+1,ys,vs,WP,H7,WT,WI,G7,rfl,pj,Nat.le_succ_of_le hvl,I8,st8,fr8,e7,n7,x27,hh7,sr7.sq (dB e7),rl7,p7⟩
  ·
    rw[if_pos rfl]at p7 ⊢;have p7':=c7.unhide (Z:=ZF) n7 e7 (c7.bind p7);refine thn (he.h _ s7 WP H7 (CE Y Z Q vs DD ys WT WP WI H7 (HS gg tt fe src.ck (src.items.drop (i+1)) WT)) I7 ⟨WT,WI,G7,sr7,h7,p7'.mono λy μ8 G8 H8 x8 h8 q8 v rv=>⟨y,μ8,G8,rv,sr7.mono x8,h8,q8⟩⟩) λyu s8 z8=>?_;obtain⟨yv,H8,I8,ry,y,μ8,G8,ryd,sr8,h8,e8,n8,hh8,x8,p8⟩:=z8;unfold HS at p8;refine thn (cI _ s8 WP H8 (.ref DD) [yv] (.ref DD) [yu] (λ_ H9=>H9=upd H8 DD (.lst (vs++[yv]))) I8 rfl (.cons ry .nil) ⟨DD,vs,yv,rfl,rfl,e8,by lia,rfl⟩) λ_ s9 z9=>?_;obtain⟨_,H9,I9,_,rfl⟩:=z9;obtain⟨I10,st10,fr10⟩:=keepIt I9;have hd9:hide DD (upd H8 DD (.lst (vs++[yv])))=hide DD H8:=dF;refine nx _ _ (Yz _ _ pj) ⟨i+1,ys++[y],vs++[yv],WP,_,WT,μ8,G8,rfl,pj,by rw[zd];exact Nat.succ_le_succ hvl,I10,st10,fr10,v9,n8,?_,?_,?_,?_,?_⟩
    ·rw[hd9];exact x27.trans x8
    ·rw[hd9];exact hh8
    ·rw[hd9];exact sr8.sq (dB e8)
    ·rw[hd9];exact(rl7.mono x8).append ⟨yv, [],rfl,ryd.sq (dB e8),rfl⟩
    ·rw[hd9];refine(c7.bind p8).mono λrest μ'' G'' H'' x'' h'' q''=>?_;have q3:=c7.ok q'' h'';show c7 (wc Y) Z μ'' H'' (K7 (.lst (ys++[y]++rest)) G'') (CKV (wc Y) Q);rw[zo];exact q3
 ·have e:i=src.items.length:=by lia
  subst e;rw[List.drop_length]at p';unfold N5 at p';split at p'
  case isFalse=>exact p'.elim
  rename_i ck;obtain⟨_,q2⟩:=hJ X2 G' H' x'.unhide h'.unhide ck src.items.length;refine thn (T.done (Y) rfl rfl rfl hcX src.items.length [] s' X1 H' Y.xe I' (λb hb=>fpX H' b hb (fr' b hb)) pc (q2 (zg _))) λr s4 ⟨hr,I4⟩=>?_;subst hr;have p9:c7 (wc Y) Z X2 (hide DD H') (K7 (.lst (ys++[])) G') (CKV (wc Y) Q):=c7.ok p' h';rw[ji]at p9;have q9:=Z2 (q:=DD) h' rl p9 lD;rw[Hk hvs]at q9;exact fin H' X1 s4 I4 q9
theorem BQ{use:Option (ze->Sem Unit)}{Q:VK}{ps:Pos}{om:PNS}{s:zh}{σ:St}{H:Hp}{X9:DSt}{G:DH}(hc:X.calm=true)(hi:DI X Z tg iter it)(k:d5 X scope N caps)
 (hg:∀C s H ex,DG (O8 X scope N C s H ex) ZF tg gg) (ht:∀C s H ex,DTs (O8 X scope N C s H ex) ZF ifs tt) (he:∀C s H ex,DE (O8 X scope N C s H ex) ZF elt fe)
 (hs:∀x,xc iter X.env x=pure x) (I:Inv X om σ H s) (sr:v5 (wc X) μ H X9 σ) (hr:j9 (wc X) μ G H) (p:c7 (wc X) Z μ H (U4 it caps gg tt fe X9 G) λd X2 _ H'=>∀v,d7 (wc X) X2 H' d v->Q v H')
 (fin:∀(DD C:Addr) (s4:zh) (H':Hp) m (o:Flow),s4.heap.Ns C m->(∀h'',yV C s4.heap h''->Inv X om σ H' {s4 with heap:=h''})->H' C=none->(∀H9:Hp,H9 C=none->T0 X om H9 C)->Q (.ref DD) H'->compPost (zz X.prog X.w) X.A X.xe use PQ (.ref DD) C (.ok o) s4):
 zq (zz X.prog X.w) X.A (comprehension (.ListComp elt [⟨tg,iter,ifs,0⟩] scope pos) scope X.env ps (newList []) false (eval iter X.env) use) PQ X.xe s:=by
 replace p:c7 (wc X) Z μ H (U4 it caps gg tt fe X9 G) (CKV (wc X) Q):=p;have p1:=c7.bind p;refine wpAny_comprehension_free rfl hs (LW (k.cells I.ok)) k.kind k.names ?_;refine thn (hi.h om s σ H (λJ H1=>∃src X0 G1,Ext μ H X0 H1/\j9 (wc X) X0 G1 H1/\ItD (wc X) X0 H1 J src/\
  c7 (wc X) Z X0 H1 ((if src.items.length<=zi then (do let ys <-noX (N5 gg tt fe src.ck src.items (U2 caps X9));K7 (.lst ys))else M.stuck:M D) G1) (CKV (wc X) Q))
  I ⟨X9,μ,G,sr,hr,p1.mono λsrc X0 G1 H1 x1 h1 p1 J hJ=>⟨src,X0,G1,x1,h1,hJ,p1⟩⟩) λv s1 q1=>thn q1 λitv s2 q2=>?_
 obtain⟨itA,fp,tn,J,H2,rfl,I2,T,st2,f2,src,WW,G2,x2,h2,hJ,p2⟩:=q2;split at p2
 case isFalse=>exact p2.elim
 rename_i ow;have hfp:∀b∈fp,b<s2.heap.objs.size:=λb hb=>by obtain⟨o,e,_⟩:=T.obj _ _ st2 b hb;exact zj e
 refine yI (wpAny_newFunctionEnv k.cell (by intro y hy;simp at hy) (λh₁ hns₁ hsb₁=>?_) k.kind);dsimp only at hns₁ hsb₁ ⊢;generalize hHP:s2.heap.push {cls:=.type "list",dict:=none,data:=.seq ([]:List ze).toArray}=HP at hns₁ hsb₁ ⊢;have hC:HP.objs.size=s2.heap.objs.size+1:=by rw[<-hHP,xg]
 have hCl:s2.heap.objs.size<HP.objs.size:=by rw[hC];exact ZT _
 have hDC:s2.heap.objs.size≠HP.objs.size:=zu hCl;have old:∀b o,s2.heap.get? b=some o->h₁.get? b=some o:=λb o e=>hsb₁.extBut b o (by have:=zj e;exact zu (xV this hCl)) (zf _ (hHP▸zf _ e));have su:h₁.get? s2.heap.objs.size=some {cls:=.type "list",data:=.seq ([]:List ze).toArray 0}:=hsb₁.extBut _ _ hDC (zf _ (hHP▸zy _ rfl));have hD:H2 s2.heap.objs.size=none:=I2.hok.fresh (zg _);have nD:s2.heap.objs.size∉WW:=λz=>yx _ (h2.mem_lt I2 z);have st1:tn 0 h₁:=T.keep _ _ _ st2 λb _ o e=>old b o e;have fpX:∀(H':Hp) (b:Addr),b∈fp->H' b=none->T0 (O8 X scope N HP.objs.size s2 H2 fp) [] H' b:=λH' b hb hn=>
  ⟨hn,zu (xV (hfp b hb) hCl),λz=>by
   rcases zk.mp (I2.stkSub b z)with e|e
   ·exact(f2 b hb).2.1 e
   ·exact(f2 b hb).2.2.1 e,.inl hb,λx c e=>(f2 b hb).2.2.2.2.1 x c (S5 e),λp hp=>absurd (show p∈([]:PNS)from hp) (by simp)⟩
 have hcX:(O8 X scope N HP.objs.size s2 H2 fp).calm=true:=hc;have p3:=mJ (c7.bind p2);generalize hDD:s2.heap.objs.size=DD at *;have loop:∀WN:zh,WN= {s2 with heap:=h₁,toks:=s2.toks+([]:List (Str×ze)).length}->
  ZC (zz X.prog X.w) X.A (.compLoop (.ListComp elt [⟨tg,iter,ifs,0⟩] scope pos) 0 (.ref itA) (.ref DD) (compEnvC scope (C4 X.env scope.names []) HP.objs.size X.env))
   (compPost (zz X.prog X.w) X.A X.xe use PQ (.ref DD) HP.objs.size) WN:=by
  rintro WN rfl;refine US (BJ (O8 X scope N HP.objs.size s2 H2 fp) Z Q gg tt fe src fp tn DD WW H2) (λn s' h=>Qv hcX (hg _ _ _ _) (ht _ _ _ _) (he _ _ _ _) T fpX hJ ow (λH' X1 s4 I4 q9=>?_) n s' h λm s h1 h2=>⟨m,h1,h2⟩) src.items.length
   ⟨0, [], [],U2 caps σ,upd H2 DD (.lst []),U2 caps X9,WW,G2,rfl,jl _,zg _,?_,st1,λb hb=>?_,v9,nD,?_,?_,?_,rfl,?_⟩
  ·obtain⟨m,hn,_⟩:=I4.loc;exact fin DD HP.objs.size s4 H' m _ hn (λh'' sb=>sY I2 (λb hb=>f2 b hb) (by rw[hDD];exact hCl) I4 sb) I4.free (λH9 hn9=>I2.fpOk (by rw[hDD];exact Zq hCl) hn9) q9
  ·have:=wb (tk:=s2.toks+([]:List (Str×ze)).length) I2 k (by rw[hDD];exact hCl) f2 (λb hb=>by rw[hDD];exact hfp b hb) old hns₁ (by rw[hDD];exact su);rw[hDD]at this;exact this
  ·rw[m7 (zu (hfp b hb))];exact(f2 b hb).1
  ·rw[dF,lH hD];exact Ext.refl _ _
  ·rw[dF,lH hD];exact h2
  ·rw[dF,lH hD];exact UU (sr.mono x2)
  ·rw[dF,lH hD,List.drop_zero];exact p3
 exact codeAny_compStart_list (loop _ rfl) (T.self _ 0 _ _ _ st1 (loop _ rfl))
theorem ni(hc:X.calm=true)(hi:DI X Z tg iter it)(k:d5 X scope N caps)
 (hg:∀C s H ex,DG (O8 X scope N C s H ex) ZF tg gg) (ht:∀C s H ex,DTs (O8 X scope N C s H ex) ZF ifs tt) (he:∀C s H ex,DE (O8 X scope N C s H ex) ZF elt fe)
 (hs:∀x,xc iter X.env x=pure x):DE X Z (.ListComp elt [⟨tg,iter,ifs,0⟩] scope pos) (U4 it caps gg tt fe):=⟨by
 intro om s σ H Q I ov;refine ov.elim λX9 μ G sr hr p=>?_;rw[eval_ListComp];exact BQ hc hi k hg ht he hs I sr hr p λDD C s4 H' m o hn fin _ _ q9=>⟨m,hn,λh'' sb=>⟨.ref DD,H',fin h'' sb,rfl,q9⟩⟩⟩
end
def M7(r:Nat):M DO:=λG=>match G[r]? with
|some o=>some (.ok o,G)
|none=>none
def listOf:DO->M (List D)
| .lst l=>pure l
| .rol l=>pure l
| .dct _=>M.stuck
| .rod _=>M.stuck
def Lk:D->M (List D)
| .tup l=>pure l
| .ref r=>M7 r >>= listOf
|_=>M.stuck
def Q1{α:Type}:Option α->M α
|some a=>pure a
|none=>M.stuck
section
theorem IxR.mono(h:IxR X r)(k:∀x y H Q,r' x y H Q->r x y H Q):IxR X r':=λva sl om s σ H x y v u Q I rx ry q hs=>h va sl om s σ H x y v u Q I rx ry (k x y H Q q) hs
theorem Q5{f:DO->M α}{K:α->List Addr->DH->Hp->Prop}(p:c7 c Z μ H ((M7 r >>= f) G) K):∃o,G[r]? =some o/\c7 c Z μ H (f o G) K:=by
 rw[M.bind_eq]at p;unfold M7 at p;rcases e:G[r]? with _|o
 ·rw[e]at p;exact p.elim
 ·rw[e]at p;exact⟨o,rfl,p⟩
theorem uB{r:Option β}{f:β->M α}{K:α->List Addr->DH->Hp->Prop}(p:c7 c Z μ H ((Q1 r >>= f) G) K):∃o,r=some o/\c7 c Z μ H (f o G) K:=by
 rcases r with _|o
 ·exact p.elim
 ·exact⟨o,rfl,p⟩
theorem sF{f:List D->M α}{K:α->List Addr->DH->Hp->Prop}(h:j9 c μ G H)(r:d7 c μ H d v)(p:c7 c Z μ H ((Lk d >>= f) G) K):
 ∃l a vs,v= .ref a/\g8 c μ H l vs/\c7 c Z μ H (f l G) K/\((d= .tup l/\SqT c.K H a vs)\/(∃i,d= .ref i/\μ[i]? =some a/\((G[i]? =some (.lst l)/\H a=some (.lst vs))\/(G[i]? =some (.rol l)/\RoL c.K H a vs)))):=by
 rcases d with _|_|_|_|l|i|_|_<;>try (exact p.elim;done)
 ·
   unfold d7 at r;obtain⟨a,vs,e,q,rl⟩:=r;exact⟨l,a,vs,e,rl,p,.inl ⟨rfl,q⟩⟩
 ·
   unfold d7 at r;obtain⟨a,m,e⟩:=r;have p':c7 c Z μ H ((M7 i >>= λo=>listOf o >>= f) G) K:=by rw[<-M.bind_assoc];exact p
   obtain⟨o,g,p2⟩:=Q5 p';have ro:=h.obj i o a g m;rcases o with l|l|l|l
   ·obtain⟨vs,q,rl⟩:=ro;exact⟨l,a,vs,e,rl,p2,.inr ⟨i,rfl,m,.inl ⟨g,q⟩⟩⟩
   ·obtain⟨vs,q,rl⟩:=ro;exact⟨l,a,vs,e,rl,p2,.inr ⟨i,rfl,m,.inr ⟨g,q⟩⟩⟩
   ·exact p2.elim
   ·exact p2.elim
theorem W0(r:d7 c μ H (.int i) v):v= .int i:=by unfold d7 at r;exact r
theorem S1(r:d7 c μ H (.str i) v):v= .str i:=by unfold d7 at r;exact r
theorem L6(r:d7 c μ H (.bl i) v):v= .bl i:=by unfold d7 at r;exact r
theorem HE(r:d7 c μ H .non v):v= .non:=by unfold d7 at r;exact r
theorem ofI:d7 c μ H (.int i) (.int i):=by unfold d7;rfl
theorem ofS:d7 c μ H (.str i) (.str i):=by unfold d7;rfl
theorem ofB:d7 c μ H (.bl i) (.bl i):=by unfold d7;rfl
theorem ofN:d7 c μ H .non .non:=by unfold d7;rfl
def bB(g:Int->Int->M D):D->D->M D:=λx y=>match x,y with
| .int i,.int j=>g i j
|_,_=>M.stuck
theorem PH[∀i j,Decidable (C i j)]{g:Int->Int->Int}(h:OpR X f (rI C λi j=>.int (g i j))):OpD X Z f (bB λi j=>if C i j then pure (.int (g i j))else M.stuck):=
 OpD.of h λx y H Q ov=>ov.elim λdx dy μ G rx ry hr p=>by
  rcases dx with _|_|_|_|_|_|_|_<;>rcases dy with _|_|_|_|_|_|_|_<;>first
   |exact p.elim
   |skip
  rename_i i j;unfold bB at p;dsimp only at p;split at p
  ·rename_i hc;exact⟨i,j,W0 rx,W0 ry,hc,c7.ok p hr _ ofI⟩
  ·exact p.elim
theorem LV{g:Int->Int->Int}(h:OpR X f (C9 λi j=>.int (g i j))):OpD X Z f (bB λi j=>pure (.int (g i j))):=
 OpD.of h λx y H Q ov=>ov.elim λdx dy μ G rx ry hr p=>by
  rcases dx with _|_|_|_|_|_|_|_<;>rcases dy with _|_|_|_|_|_|_|_<;>first
   |exact p.elim
   |exact⟨_,_,W0 rx,W0 ry,c7.ok p hr _ ofI⟩
def wB:D->D->M D:=bB λi j=>pure (.int (i-j))
theorem mY:OpD X Z (yh .Sub) wB:=LV aN
instance (i j:Int):Decidable (C7 i j):=by unfold C7;infer_instance
def KC(_ j:Int):Prop:=0<j/\j<2 ^ 100
instance (i j:Int):Decidable (KC i j):=by unfold KC;infer_instance
theorem Dz:OpR X (yh .FloorDiv) (rI KC λi j=>.int (i / j)):=opI λi j _ _ _ _ _ hc q=>by
 have h1:(0:Int)<j:=hc.1;have h2:j<2 ^ 100:=hc.2;refine floordiv_int (by lia) (by rw[Int.fdiv_eq_ediv_of_nonneg i (by lia)];exact q) (.inl (PyProof.noPylong_of_log2 ?_));have h3:j.natAbs<2 ^ 100:=by lia
 have h4:j.natAbs≠0:=by lia
 have:=(Nat.log2_lt h4).mpr h3;lia
def LB:D->D->M D:=bB λi j=>if KC i j then pure (.int (i / j))else M.stuck
theorem eW:OpD X Z (yh .FloorDiv) LB:=PH Dz
def t4:D->D->M D:=bB λi j=>if 0<j then pure (.int (i % j))else M.stuck
theorem NT:OpD X Z (yh .Mod) t4:=PH Bj
instance (i j:Int):Decidable (kA i j):=by unfold kA;infer_instance
def PD:D->D->M D:=bB λi j=>if kA i j then pure (.int (i ^ j.toNat))else M.stuck
theorem uV:OpD X Z (yh .Pow) PD:=PH NL
theorem md{w:zI}{s:zh}{t b:Addr}{ws:List ze}(ht:Yr s.heap t #[])(hb:Yr s.heap b ws.toArray)
 (h1:Q (.ref b) s):zq (zz prog w) A (yh .Add (.ref t) (.ref b)) Q E s:=by
 obtain⟨⟨cls,dd,data,sl⟩,ho,hc,n,hd⟩:=id ht;obtain⟨⟨cls2,dd2,data2,sl2⟩,ql,hc2,n2,hd2⟩:=id hb;simp only at hc hd hc2 hd2;subst hc hd hc2 hd2;exact concat_meets ⟨_,ho,rfl⟩ ⟨_,ql,rfl⟩ Jb seq_tuple_add ZL ZH (Zw _ _)
  (tuple_addW0 t b #[] ws.toArray n n2 dd dd2 sl sl2 (by simp)) ⟨ho,ql,h1⟩
def Qh(K:zc):R2:=λx y H Q=>∃a b ys,x= .ref a/\y= .ref b/\SqT K H a []/\SqT K H b ys/\Q (.ref b) H
theorem qZ:OpR X (yh .Add) (Qh X.K):=by
 intro om s σ H x y v u Q I rx ry h;obtain⟨a,b,ys,rfl,rfl,ha,hb,q⟩:=h
 cases rx
 cases ry
 obtain⟨ou,r,p,_⟩:=I.tuple ha;obtain⟨sj,r2,p2,_⟩:=I.tuple hb
 cases r
 exact md p p2 ⟨.ref b,H,I,rfl,q⟩
def addD:D->D->M D:=λx y=>match x,y with
| .int i,.int j=>pure (.int (i+j))
| .str a,.str b=>if a.length+b.length<=zi then pure (.str (a++b))else M.stuck
| .tup a,.tup b=>if a.length+b.length<=zi then pure (.tup (a++b))else M.stuck
| .ref i,.ref j=>do
  match <-M7 i,<-M7 j with
  | .lst a,.lst b=>if a.length+b.length<=zi then K7 (.lst (a++b))else M.stuck
  |_,_=>M.stuck
|_,_=>M.stuck
theorem QJ{Q:VK}(h:j9 c μ G H)(q:SqT c.K H a vs)(r:g8 c μ H xs vs)
 (p:c7 c Z μ H (some (Except.ok (.tup xs),G)) λd X2 _ H'=>∀v,d7 c X2 H' d v->Q v H'):Q (.ref a) H:=c7.ok p h _ (by unfold d7;exact⟨a,vs,rfl,q,r⟩)
theorem Hh:OpD X Z (yh .Add) addD:=
 OpD.of (OpR.or ko (OpR.or OX (OpR.or Gx (OpR.or qZ OV)))) λx y H Q ov=>ov.elim λdx dy μ G rx ry hr p=>by
  rcases dx with _|_|_|_|_|_|_|_<;>rcases dy with _|_|_|_|_|_|_|_<;>first
   |exact p.elim
   |skip
  ·exact .inl ⟨_,_,W0 rx,W0 ry,c7.ok p hr _ ofI⟩
  ·rename_i a b;refine .inr (.inl ?_);unfold addD at p;dsimp only at p;split at p
   ·rename_i hz;exact⟨a,b,S1 rx,S1 ry,hz,c7.ok p hr _ ofS⟩
   ·exact p.elim
  ·rename_i a b;unfold d7 at rx ry;obtain⟨ax,vx,rfl,qx,lx⟩:=rx;obtain⟨ay,vy,rfl,qy,ly⟩:=ry;unfold addD at p;dsimp only at p;split at p
   ·rename_i hz;by_cases hv:vx= []
    ·subst hv;rcases a with _|⟨_,_⟩
     ·exact .inr (.inr (.inr (.inl ⟨ax,ay,vy,rfl,rfl,qx,qy,QJ hr qy ly p⟩)))
     ·obtain⟨_,_,z,_⟩:=lx;cases z
    ·refine .inr (.inr (.inl ⟨ax,ay,vx,vy,rfl,rfl,qx,qy,hv,by rw[<-lx.length,<-ly.length];exact hz,?_⟩));refine⟨λhy=>?_,λhy q hq=>aH hr (lx.append ly) p q hq⟩;subst hy;refine QJ hr qx ?_ p;rcases b with _|⟨_,_⟩
     ·rw[ji];exact lx
     ·obtain⟨_,_,z,_⟩:=ly;cases z
   ·exact p.elim
  ·rename_i i j;unfold d7 at rx ry;obtain⟨ax,mx,rfl⟩:=rx;obtain⟨ay,my,rfl⟩:=ry;obtain⟨ox,gx,p⟩:=Q5 p;obtain⟨oy,gy,p⟩:=Q5 p;have hx:=hr.obj i ox ax gx mx;have hy:=hr.obj j oy ay gy my;rcases ox with _|_|_|_<;>rcases oy with _|_|_|_<;>first
    |exact p.elim
    |skip
   obtain⟨vx,ex,lx⟩:=hx;obtain⟨vy,ey,ly⟩:=hy;dsimp only at p;split at p
   ·rename_i hz;exact .inr (.inr (.inr (.inr ⟨ax,ay,vx,vy,rfl,rfl,ex,ey,by rw[<-lx.length,<-ly.length];exact hz,λq hq=>Z2 hr (lx.append ly) p q hq⟩)))
   ·exact p.elim
end
def F1(G:DH):D->Option (Bool×List D)
| .tup l=>some (true,l)
| .ref i=>match G[i]? with
  |some (.lst l)=>some (false,l)
  |some (.rol l)=>some (false,l)
  |_=>none
|_=>none
def u8:D->Bool
| .non=>true
| .bl _=>true
| .int _=>true
| .str _=>true
|_=>false
def eqS:D->D->Option Bool
| .non,.non=>some true
| .bl a,.bl b=>some (a==b)
| .int a,.int b=>some (a==b)
| .str a,.str b=>some (a==b)
| .bl a,.int b=>some ((if a then (1:Int)else 0)==b)
| .int a,.bl b=>some (a==(if b then (1:Int)else 0))
|x,y=>if u8 x&&u8 y then some false else none
def eqL(f:D->D->Option Bool):List D->List D->Option Bool
|[], []=>some true
|[],_::_=>some false
|_::_, []=>some false
|x::xs,y::ys=>match f x y,eqL f xs ys with
  |some e,some r=>some (e&&r)
  |_,_=>none
def eqN:Nat->DH->D->D->Option Bool
|0,_,_,_=>none
|n+1,G,x,y=>match F1 G x,F1 G y with
  |some (k1,a),some (k2,b)=>if k1=k2 then (if k1=false/\a.length≠b.length then some false else eqL (eqN n G) a b)else some false
  |some _,none=>if u8 y then some false else none
  |none,some _=>if u8 x then some false else none
  |none,none=>eqS x y
theorem qI:eqN (n+1) G x y=match F1 G x,F1 G y with
|some (k1,a),some (k2,b)=>if k1=k2 then (if k1=false/\a.length≠b.length then some false else eqL (eqN n G) a b)else some false
|some _,none=>if u8 y then some false else none
|none,some _=>if u8 x then some false else none
|none,none=>eqS x y:=rfl
theorem A4:eqL f (x::xs) (y::ys)=match f x y,eqL f xs ys with
|some e,some r=>some (e&&r)
|_,_=>none:=rfl
theorem LO:∀a b r,eqL f a b=some r->(∀j x y,a[j]? =some x->b[j]? =some y->f x y=some (e j))->r= ((zR (min a.length b.length)).all e&&a.length==b.length)
|[], [],r,h,_=>by cases h;rfl
|[],_::_,r,h,_=>by cases h;simp
|_::_, [],r,h,_=>by cases h;simp
|x::xs,y::ys,r,h,he=>by
  rw[A4]at h;have h0:=he 0 x y rfl rfl;rw[h0]at h;rcases hr:eqL f xs ys with _|r'
  ·rw[hr]at h;exact w6 h
  ·
    rw[hr]at h;have ih:=LO xs ys r' hr λj x' y' h1 h2=>he (j+1) x' y' (by simpa using h1) (by simpa using h2)
    cases h
    rw[ih];have:min (x::xs).length (y::ys).length=min xs.length ys.length+1:=by simp only[zD];lia
    rw[this,yK,jC,JF];simp[Bool.and_assoc,Zr]
theorem CK:∀a b r,eqL f a b=some r->∀(j:Nat) x y,a[j]? =some x->b[j]? =some y->∃e,f x y=some e
|[],_,_,_,_,_,_,h,_=>by simp at h
|_::_, [],_,_,_,_,_,_,h=>by simp at h
|x::xs,y::ys,r,h,j,x',y',h1,h2=>by
  rw[A4]at h;rcases hf:f x y with _|e
  ·rw[hf]at h;exact w6 h
  ·
    rcases hr:eqL f xs ys with _|r'
    ·rw[hf,hr]at h;exact w6 h
    ·
      cases j with
      |zero=>simp at h1 h2;subst h1 h2;exact⟨e,hf⟩
      |succ j=>exact CK xs ys r' hr j x' y' (by simpa using h1) (by simpa using h2)
section
def ME(s:zh)(k:Bool)(a:Addr)(ou:List ze):Prop:=if k then s.heap.IsTuple a ou.toArray else s.heap.IsList a ou.toArray
theorem L8(I:Inv X om σ H s)(h:j9 (wc X) μ G H)(e:F1 G d=some (k,l))(r:d7 (wc X) μ H d x)(rv:u5 x v):
 ∃a vs ou,x= .ref a/\v= .ref a/\g8 (wc X) μ H l vs/\m6 vs ou/\ME s k a ou/\(if k then SqT X.K H a vs else SqL X.K H a vs):=by
 rcases d with _|_|_|_|l'|i|_|_<;>try (cases e;done)
 ·
   unfold F1 at e
   cases e
   unfold d7 at r;obtain⟨a,vs,rfl,q,rl⟩:=r;obtain⟨ou,rr,p,_⟩:=I.tuple q;exact⟨a,vs,ou,rfl,rv,rl,rr,p,q⟩
 ·
   have e':(match G[i]? with|some (.lst l)=>some (false,l)|some (.rol l)=>some (false,l)|_=>none)=some (k,l):=e;unfold d7 at r;obtain⟨a,m,rfl⟩:=r;have key:∀vs,SqL X.K H a vs->g8 (wc X) μ H l vs->k=false->∃a' vs ou,V.ref a= .ref a'/\v= .ref a'/\g8 (wc X) μ H l vs/\m6 vs ou/\ME s k a' ou/\(if k then SqT X.K H a' vs else SqL X.K H a' vs):=λvs q rl hk=>by subst hk;obtain⟨ou,rr,p,_⟩:=I.list q;exact⟨a,vs,ou,rfl,rv,rl,rr,p.isList,q⟩
   generalize g:G[i]? =o at e';rcases o with _|l'|l'|_|_<;>cases e'
   ·obtain⟨vs,q,rl⟩:=h.obj i _ a g m;exact key vs (SqL.of q) rl rfl
   ·obtain⟨vs,q,rl⟩:=h.obj i _ a g m;exact key vs q.sq rl rfl
theorem rQ(hs:u8 d=true)(r:d7 c μ H d (.ref a)):False:=by
 cases d<;>first
  |exact absurd (show false=true from hs) zw
  |(unfold d7 at r;cases r)
theorem OQ(h:eqS x y=some b):u8 x=true/\u8 y=true:=by
 rcases x with _|_|_|_|_|_|_|_<;>rcases y with _|_|_|_|_|_|_|_<;>first
  |exact⟨rfl,rfl⟩
  |(cases h;done)
theorem FZ(h:eqS x y=some b)(rx:d7 c μ H x v)(ry:d7 c μ H y v):b=true:=by
 obtain⟨s1,s2⟩:=OQ h;rcases x with _|_|_|_|_|_|_|_<;>rcases y with _|_|_|_|_|_|_|_<;>first
  |(cases s1;done)
  |(cases s2;done)
  |(unfold d7 at rx ry;rw[rx]at ry;cases ry;done)
  |(unfold d7 at rx ry;rw[rx]at ry;cases ry;cases h;first|rfl|simp)
theorem Sf(I:Inv X om σ H s)(h1:ME s k a ou)(h2:ME s k' a its'):k=k':=by
 cases k<;>cases k'<;>first
  |rfl
  |exact absurd rfl (Jw h1 h2)
  |exact absurd rfl (Jw h2 h1)
theorem LP:∀l l' vs b,g8 c μ H l vs->g8 c μ H l' vs->(∀d d' v b,v∈vs->d7 c μ H d v->d7 c μ H d' v->f d d'=some b->b=true)->eqL f l l'=some b->b=true
|[], [],_,b,_,_,_,e=>by cases e;rfl
|[],_::_,vs,b,r1,r2,_,_=>by cases r1;obtain⟨_,_,z,_⟩:=r2;exact oG z
|_::_, [],vs,b,r1,r2,_,_=>by cases r2;obtain⟨_,_,z,_⟩:=r1;cases z
|d::ds,d'::ds',vs,b,r1,r2,k,e=>by
  obtain⟨v0,vr,rfl,q0,t0⟩:=r1;obtain⟨v1,vr',e1,q1,t1⟩:=r2
  cases e1
  rw[A4]at e;rcases hf:f d d' with _|e0
  ·rw[hf]at e;exact w6 e
  ·
    rcases hr:eqL f ds ds' with _|r'
    ·rw[hf,hr]at e;exact w6 e
    ·
      rw[hf,hr]at e
      cases e
      have z1:=k d d' v0 e0 jo q0 q1 hf;have z2:=LP ds ds' vr r' t0 t1 (λa a' v b hm=>k a a' v b (zP _ hm)) hr;rw[z1,z2];rfl
theorem uS(I:Inv X om σ H s)(h:j9 (wc X) μ G H):∀n {dx dy} {x} {v} {b},d7 (wc X) μ H dx x->d7 (wc X) μ H dy x->u5 x v->eqN n G dx dy=some b->b=true
|0,_,_,_,_,_,_,_,_,e=>by exact w6 e
|n+1,dx,dy,x,v,b,rx,ry,rv,e=>by
  rw[qI]at e;rcases hx:F1 G dx with _|p
  ·
    rw[hx]at e;rcases hy:F1 G dy with _|p
    ·rw[hy]at e;exact FZ e rx ry
    ·
      obtain⟨k,l⟩:=p;rw[hy]at e;dsimp only at e;split at e
      ·rename_i hs;obtain⟨a,_,_,rfl,_⟩:=L8 I h hy ry rv;exact(rQ hs rx).elim
      ·exact w6 e
  ·
    obtain⟨k,l⟩:=p;rw[hx]at e;rcases hy:F1 G dy with _|p'
    ·
      rw[hy]at e;dsimp only at e;split at e
      ·rename_i hs;obtain⟨a,_,_,rfl,_⟩:=L8 I h hx rx rv;exact(rQ hs ry).elim
      ·exact w6 e
    ·
      obtain⟨k',l'⟩:=p';rw[hy]at e;dsimp only at e;obtain⟨a,vs,ou,rfl,rfl,rl,rr,sq,q⟩:=L8 I h hx rx rv;obtain⟨a',px,its',ea,_,pz,rr',sq',q'⟩:=L8 I h hy ry rv
      cases ea
      have hk:k=k':=Sf I sq sq';subst hk;have hvs:vs=px:=by
       rcases k with _|_
       ·exact I.list_inj q q'
       ·exact I.tuple_inj q q'
      subst hvs;rw[if_pos rfl,if_neg (by rw[rl.length,pz.length];simp)]at e;have hv:∀v∈vs,∃u,u5 v u:=λv hv=>by obtain⟨i,hi⟩:=Yt hv;obtain⟨u,_,ru⟩:=rr.get hi;exact⟨u,ru⟩
      exact LP l l' vs b rl pz (λd d' v b hm r1 r2 ef=>by obtain⟨u,ru⟩:=hv v hm;exact uS I h n r1 r2 ru ef) e
theorem kT(rx:d7 c μ H dx x)(ry:d7 c μ H dy y)(rv:u5 x v)(ru:u5 y u)(e:eqS dx dy=some b):
 YE A s v u b/\ZQ A s v u (!b)/\jR A s v u b:=by
 obtain⟨s1,s2⟩:=OQ e;rcases dx with _|i|i|i|_|_|_|_<;>try (cases s1;done)
 ·
   unfold d7 at rx;subst rx;cases rv;rcases dy with _|j|j|j|_|_|_|_<;>try (cases s2;done)
   ·unfold d7 at ry;subst ry;cases ru;cases e;exact⟨SeqAt.RcAt.none_none,SeqAt.RcNeAt.none_none,YJ _⟩
   ·unfold d7 at ry;subst ry;cases ru;cases e;exact⟨SeqAt.RcAt.none_bool _,SeqAt.RcNeAt.none_bool _,XM _⟩
   ·unfold d7 at ry;subst ry;obtain⟨t,rfl⟩:=ru;cases e;exact⟨SeqAt.RcAt.none_int _ _,SeqAt.RcNeAt.none_int _ _,Jg _ _⟩
   ·unfold d7 at ry;subst ry;obtain⟨t,rfl⟩:=ru;cases e;exact⟨SeqAt.RcAt.none_str _ _,SeqAt.RcNeAt.none_str _ _,Jf _ _⟩
 ·
   unfold d7 at rx;subst rx;cases rv;rcases dy with _|j|j|j|_|_|_|_<;>try (cases s2;done)
   ·unfold d7 at ry;subst ry;cases ru;cases e;exact⟨SeqAt.RcAt.bool_none _,SeqAt.RcNeAt.bool_none _,XQ _⟩
   ·unfold d7 at ry;subst ry;cases ru;cases e;exact⟨SeqAt.RcAt.bool_bool _ _,SeqAt.RcNeAt.bool_bool _ _,XS _ _⟩
   ·unfold d7 at ry;subst ry;obtain⟨t,rfl⟩:=ru;cases e;exact⟨SeqAt.RcAt.bool_int _ _ _,SeqAt.RcNeAt.bool_int _ _ _,Jk _ _ _⟩
   ·unfold d7 at ry;subst ry;obtain⟨t,rfl⟩:=ru;cases e;exact⟨SeqAt.RcAt.bool_str _ _ _,SeqAt.RcNeAt.bool_str _ _ _,Jj _ _ _⟩
 ·
   unfold d7 at rx;subst rx;obtain⟨t,rfl⟩:=rv;rcases dy with _|j|j|j|_|_|_|_<;>try (cases s2;done)
   ·unfold d7 at ry;subst ry;cases ru;cases e;exact⟨SeqAt.RcAt.int_none _ _,SeqAt.RcNeAt.int_none _ _,Jh _ _⟩
   ·unfold d7 at ry;subst ry;cases ru;cases e;exact⟨SeqAt.RcAt.int_bool _ _ _,SeqAt.RcNeAt.int_bool _ _ _,Ji _ _ _⟩
   ·unfold d7 at ry;subst ry;obtain⟨t,rfl⟩:=ru;cases e;exact⟨SeqAt.RcAt.int_int _ _ _ _,SeqAt.RcNeAt.int_int _ _ _ _,Jr _ _ _ _⟩
   ·unfold d7 at ry;subst ry;obtain⟨t,rfl⟩:=ru;cases e;exact⟨SeqAt.RcAt.int_str _ _ _ _,SeqAt.RcNeAt.int_str _ _ _ _,Yl _ _ _ _⟩
 ·
   unfold d7 at rx;subst rx;obtain⟨t,rfl⟩:=rv;rcases dy with _|j|j|j|_|_|_|_<;>try (cases s2;done)
   ·unfold d7 at ry;subst ry;cases ru;cases e;exact⟨SeqAt.RcAt.str_none _ _,SeqAt.RcNeAt.str_none _ _,Jd _ _⟩
   ·unfold d7 at ry;subst ry;cases ru;cases e;exact⟨SeqAt.RcAt.str_bool _ _ _,SeqAt.RcNeAt.str_bool _ _ _,Je _ _ _⟩
   ·unfold d7 at ry;subst ry;obtain⟨t,rfl⟩:=ru;cases e;exact⟨SeqAt.RcAt.str_int _ _ _ _,SeqAt.RcNeAt.str_int _ _ _ _,Yk _ _ _ _⟩
   ·unfold d7 at ry;subst ry;obtain⟨t,rfl⟩:=ru;cases e;exact⟨SeqAt.RcAt.str_str _ _ _ _,SeqAt.RcNeAt.str_str _ _ _ _,Jq _ _ _ _⟩
theorem NQ(hu:A.units<xL)(sq:ME s k a ou)(ry:d7 c μ H dy y)(ru:u5 y u)(hs:u8 dy=true):
 (YE A s (.ref a) u false/\ZQ A s (.ref a) u true/\jR A s (.ref a) u false)/\(YE A s u (.ref a) false/\ZQ A s u (.ref a) true/\jR A s u (.ref a) false):=by
 rcases k with _|_
 ·
   rcases dy with _|j|j|j|_|_|_|_<;>try (cases hs;done)
   ·unfold d7 at ry;subst ry;cases ru;exact⟨⟨.list_none sq hu,.list_none sq hu,.list_none sq hu⟩,.none_list sq hu,.none_list sq hu,.none_list sq hu⟩
   ·unfold d7 at ry;subst ry;cases ru;exact⟨⟨.list_bool _ sq hu,.list_bool _ sq hu,.list_bool _ sq hu⟩,.bool_list _ sq hu,.bool_list _ sq hu,.bool_list _ sq hu⟩
   ·unfold d7 at ry;subst ry;obtain⟨t,rfl⟩:=ru;exact⟨⟨.list_int _ _ sq hu,.list_int _ _ sq hu,.list_int _ _ sq hu⟩,.int_list _ _ sq hu,.int_list _ _ sq hu,.int_list _ _ sq hu⟩
   ·unfold d7 at ry;subst ry;obtain⟨t,rfl⟩:=ru;exact⟨⟨.list_str _ _ sq hu,.list_str _ _ sq hu,.list_str _ _ sq hu⟩,.str_list _ _ sq hu,.str_list _ _ sq hu,.str_list _ _ sq hu⟩
 ·
   rcases dy with _|j|j|j|_|_|_|_<;>try (cases hs;done)
   ·unfold d7 at ry;subst ry;cases ru;exact⟨⟨.tuple_none sq hu,.tuple_none sq hu,.tuple_none sq hu⟩,.none_tuple sq hu,.none_tuple sq hu,.none_tuple sq hu⟩
   ·unfold d7 at ry;subst ry;cases ru;exact⟨⟨.tuple_bool _ sq hu,.tuple_bool _ sq hu,.tuple_bool _ sq hu⟩,.bool_tuple _ sq hu,.bool_tuple _ sq hu,.bool_tuple _ sq hu⟩
   ·unfold d7 at ry;subst ry;obtain⟨t,rfl⟩:=ru;exact⟨⟨.tuple_int _ _ sq hu,.tuple_int _ _ sq hu,.tuple_int _ _ sq hu⟩,.int_tuple _ _ sq hu,.int_tuple _ _ sq hu,.int_tuple _ _ sq hu⟩
   ·unfold d7 at ry;subst ry;obtain⟨t,rfl⟩:=ru;exact⟨⟨.tuple_str _ _ sq hu,.tuple_str _ _ sq hu,.tuple_str _ _ sq hu⟩,.str_tuple _ _ sq hu,.str_tuple _ _ sq hu,.str_tuple _ _ sq hu⟩
theorem WC(I:Inv X om σ H s)(h:j9 (wc X) μ G H):∀n A,A.units+n<xL->∀ {dx dy} {x y:V} {v u} {b:Bool},d7 (wc X) μ H dx x->d7 (wc X) μ H dy y->u5 x v->u5 y u->eqN n G dx dy=some b->
 YE A s v u b/\ZQ A s v u (!b)/\jR A s v u b
 |0,_,_,_,_,_,_,_,_,_,_,_,_,_,e=>by exact w6 e
 |n+1,A,hu,dx,dy,x,y,v,u,b,rx,ry,rv,ru,e=>by
   have hu0:A.units<xL:=by lia
   have hu1:A.in1.units+n<xL:=by show A.units+1+n<xL;lia
   have e0:=e;rw[qI]at e;rcases hx:F1 G dx with _|p
   ·
     rw[hx]at e;rcases hy:F1 G dy with _|p
     ·rw[hy]at e;exact kT rx ry rv ru e
     ·
       obtain⟨k,l⟩:=p;rw[hy]at e;dsimp only at e;split at e
       ·rename_i hs
        cases e
        obtain⟨a,vs,ou,rfl,rfl,_,_,sq,_⟩:=L8 I h hy ry ru;exact(NQ hu0 sq rx rv hs).2
       ·exact w6 e
   ·
     obtain⟨k,l⟩:=p;rw[hx]at e;obtain⟨a,vs,ou,rfl,rfl,rl,rr,sq,q⟩:=L8 I h hx rx rv;rcases hy:F1 G dy with _|p'
     ·
       rw[hy]at e;dsimp only at e;split at e
       ·rename_i hs
        cases e
        exact(NQ hu0 sq ry ru hs).1
       ·exact w6 e
     ·
       obtain⟨k',l'⟩:=p';rw[hy]at e;dsimp only at e;obtain⟨a',px,its',rfl,rfl,pz,rr',sq',q'⟩:=L8 I h hy ry ru
       -- the two at one place
       have main:YE A s (.ref a) (.ref a') b/\ZQ A s (.ref a) (.ref a') (!b):=by
        have len1:ou.toArray.size=l.length:=by rw[zn,<-rr.length,rl.length]
        have len2:its'.toArray.size=l'.length:=by rw[zn,<-rr'.length,pz.length]
        by_cases hk:k=k'
        ·subst hk;rw[if_pos rfl]at e;by_cases ow:k=false/\l.length≠l'.length
         ·rw[if_pos ow]at e
          cases e
          obtain⟨rfl,qo⟩:=ow;have hz:(ou.toArray.size != its'.toArray.size)=true:=by rw[len1,len2];simpa using qo
          exact⟨SeqAt.RcAt.lists_lengths sq sq' hz hu0,SeqAt.RcNeAt.lists_lengths sq sq' hz hu0⟩
         ·rw[if_neg ow]at e;have items:∀j (h1:j<ou.toArray.size) (h2:j<its'.toArray.size),∃e,eqN n G (l.getD j .non) (l'.getD j .non)=some e/\jR A.in1 s ou.toArray[j] its'.toArray[j] e:=λj h1 h2=>by
           have j1:j<l.length:=by rw[<-len1];exact h1
           have j2:j<l'.length:=by rw[<-len2];exact h2
           have g1:l[j]? =some l[j]:=zr j1;have g2:l'[j]? =some l'[j]:=zr j2;obtain⟨e1,he1⟩:=CK l l' b e j _ _ g1 g2;obtain⟨v1,hv1,r1⟩:=rl.get g1;obtain⟨v2,hv2,r2⟩:=pz.get g2;obtain⟨u1,hu1',ru1⟩:=rr.get hv1;obtain⟨u2,hu2',ru2⟩:=rr'.get hv2;have w1:ou.toArray[j]=u1:=by
            have:ou.toArray[j]? =some u1:=by simpa using hu1'
            rw[ja h1]at this;exact jH this
           have w2:its'.toArray[j]=u2:=by
            have:its'.toArray[j]? =some u2:=by simpa using hu2'
            rw[ja h2]at this;exact jH this
           rw[w1,w2];refine⟨e1,?_,(WC I h n A.in1 hu1 r1 r2 ru1 ru2 he1).2.2⟩;rw[zv,zv,g1,g2];exact he1
          have hr:=LO (e:=λj=>(eqN n G (l.getD j .non) (l'.getD j .non)).getD false) l l' b e λj x y g1 g2=>by obtain⟨e1,he1⟩:=CK l l' b e j x y g1 g2;rw[zv,zv,g1,g2];simp only[Option.getD_some];rw[he1];rfl
          have he:∀j (h1:j<ou.toArray.size) (h2:j<its'.toArray.size),jR A.in1 s ou.toArray[j] its'.toArray[j] ((eqN n G (l.getD j .non) (l'.getD j .non)).getD false):=λj h1 h2=>by obtain⟨e1,he1,hh⟩:=items j h1 h2;rw[he1];exact hh
          rcases k with _|_
          ·
            have hl:l.length=l'.length:=yM λz=>ow ⟨rfl,z⟩;have hsz:ou.toArray.size=its'.toArray.size:=by rw[len1,len2,hl]
            have z1:=SeqAt.RcAt.lists sq sq' hsz hu0 he;have z2:=SeqAt.RcNeAt.lists sq sq' hsz hu0 he;have hr2:b= (zR ou.toArray.size).all λj=>(eqN n G (l.getD j .non) (l'.getD j .non)).getD false:=by rw[hr,len1,hl];simp
            rw[<-hr2]at z1 z2;exact⟨z1,z2⟩
          ·
            have z1:=SeqAt.RcAt.tuples sq sq' hu0 he;have z2:=SeqAt.RcNeAt.tuples sq sq' hu0 he;rw[len1,len2,<-hr]at z1 z2;exact⟨z1,z2⟩
        ·rw[if_neg hk]at e
         cases e
         cases k<;>cases k'<;>first
          |exact absurd rfl hk
          |exact⟨SeqAt.RcAt.list_tuple sq sq' hu0,SeqAt.RcNeAt.list_tuple sq sq' hu0⟩
          |exact⟨SeqAt.RcAt.tuple_list sq sq' hu0,SeqAt.RcNeAt.tuple_list sq sq' hu0⟩
       refine⟨main.1,main.2,?_⟩;by_cases ha:a=a'
       ·subst ha;have:b=true:=uS I h (n+1) rx ry rv e0;rw[this];exact YJ _
       ·exact SeqAt.EqAt.of_refs ha main.1
def eqD:D->D->M D:=λx y G=>match eqN 40 G x y with
|some b=>some (.ok (.bl b),G)
|none=>none
def neD:D->D->M D:=λx y G=>match eqN 40 G x y with
|some b=>some (.ok (.bl (!b)),G)
|none=>none
theorem wq(hu:X.A.units+64<xL):OpD X Z (zM .Eq) eqD:=⟨by
 intro om s σ H x y v u Q I rx ry ov;refine ov.elim λdx dy μ G qa qe hr p=>?_;unfold eqD at p;rcases e:eqN 40 G dx dy with _|b
 ·rw[e]at p;exact p.elim
 ·
   rw[e]at p;exact(WC I hr 40 X.A (by lia) qa qe rx ry e).1 X.prog X.w X.xe _ ⟨.bl b,H,I,rfl,c7.ok p hr _ ofB⟩⟩
theorem Hf(hu:X.A.units+64<xL):OpD X Z (zM .NotEq) neD:=⟨by
 intro om s σ H x y v u Q I rx ry ov;refine ov.elim λdx dy μ G qa qe hr p=>?_;unfold neD at p;rcases e:eqN 40 G dx dy with _|b
 ·rw[e]at p;exact p.elim
 ·
   rw[e]at p;exact(WC I hr 40 X.A (by lia) qa qe rx ry e).2.1 X.prog X.w X.xe _ ⟨.bl (!b),H,I,rfl,c7.ok p hr _ ofB⟩⟩
def leD:D->D->M D:=λx y=>match x,y with
| .int i,.int j=>pure (.bl (decide (i<=j)))
| .str i,.str j=>pure (.bl (!decide (j.cps.toList<i.cps.toList)))
|_,_=>M.stuck
def gtD:D->D->M D:=λx y=>match x,y with
| .int i,.int j=>pure (.bl (decide (j<i)))
| .str i,.str j=>pure (.bl (decide (j.cps.toList<i.cps.toList)))
|_,_=>M.stuck
def geD:D->D->M D:=λx y=>match x,y with
| .int i,.int j=>pure (.bl (decide (j<=i)))
| .str i,.str j=>pure (.bl (!decide (i.cps.toList<j.cps.toList)))
|_,_=>M.stuck
theorem eJ{op:CmpOp}{fi:Int->Int->Bool}{fs:Str->Str->Bool}(hi:OpR X (zM op) (C9 λi j=>.bl (fi i j)))
 (hs:∀(i j:Str) (t u:Tok) (s:zh) Q E,Q (.bool (fs i j)) s->zq (zz X.prog X.w) X.A (zM op (.str i t) (.str j u)) Q E s)
 (h1:∀i j,o (.int i) (.int j)=pure (.bl (fi i j))) (h2:∀i j,o (.str i) (.str j)=pure (.bl (fs i j)))
 (h3:∀x y,(∀i j,¬(x= .int i/\y= .int j))->(∀i j,¬(x= .str i/\y= .str j))->o x y=M.stuck):OpD X Z (zM op) o:=⟨by
 intro om s σ H x y v u Q I rx ry ov;refine ov.elim λdx dy μ G qa qe hr p=>?_;by_cases c1:∃i j,dx= .int i/\dy= .int j
 ·obtain⟨i,j,rfl,rfl⟩:=c1;rw[h1]at p;exact hi om s σ H x y v u Q I rx ry ⟨i,j,W0 qa,W0 qe,c7.ok p hr _ ofB⟩
 ·by_cases c2:∃i j,dx= .str i/\dy= .str j
  ·obtain⟨i,j,rfl,rfl⟩:=c2;rw[h2]at p;have e1:=S1 qa;have e2:=S1 qe;subst e1 e2;obtain⟨t,rfl⟩:=rx;obtain⟨t',rfl⟩:=ry;exact hs i j t t' s _ _ ⟨.bl (fs i j),H,I,rfl,c7.ok p hr _ ofB⟩
  ·rw[h3 dx dy (λi j z=>c1 ⟨i,j,z⟩) (λi j z=>c2 ⟨i,j,z⟩)]at p;exact p.elim⟩
theorem mn:OpD X Z (zM .LtE) leD:=eJ SW (λ_ _ _ _ _ _ _ q=>PySem.P.le_str q) (λ_ _=>rfl) (λ_ _=>rfl) λx y n1 n2=>by
 rcases x with _|_|_|_|_|_|_|_<;>rcases y with _|_|_|_|_|_|_|_<;>first
  |rfl
  |exact absurd ⟨rfl,rfl⟩ (n1 _ _)
  |exact absurd ⟨rfl,rfl⟩ (n2 _ _)
theorem Qm:OpD X Z (zM .Gt) gtD:=eJ fY (λ_ _ _ _ _ _ _ q=>PySem.P.gt_str q) (λ_ _=>rfl) (λ_ _=>rfl) λx y n1 n2=>by
 rcases x with _|_|_|_|_|_|_|_<;>rcases y with _|_|_|_|_|_|_|_<;>first
  |rfl
  |exact absurd ⟨rfl,rfl⟩ (n1 _ _)
  |exact absurd ⟨rfl,rfl⟩ (n2 _ _)
theorem MY:OpD X Z (zM .GtE) geD:=eJ Sk (λ_ _ _ _ _ _ _ q=>PySem.P.ge_str q) (λ_ _=>rfl) (λ_ _=>rfl) λx y n1 n2=>by
 rcases x with _|_|_|_|_|_|_|_<;>rcases y with _|_|_|_|_|_|_|_<;>first
  |rfl
  |exact absurd ⟨rfl,rfl⟩ (n1 _ _)
  |exact absurd ⟨rfl,rfl⟩ (n2 _ _)
def TK:D->Bool
| .non=>true
|_=>false
theorem RL(r:d7 c μ H d v):decide (v= .non)=TK d:=by
 cases d with
 |non=>rw[HE r];rfl
 |tup l=>unfold d7 at r;obtain⟨a,_,rfl,_⟩:=r;rfl
 |ref l=>unfold d7 at r;obtain⟨a,_,rfl⟩:=r;rfl
 |fn l=>unfold d7 at r;obtain⟨a,_,rfl⟩:=r;rfl
 |_=>unfold d7 at r;subst r;rfl
def nG:D->M D:=λx=>match x with
| .int i=>pure (.int (-i))
|_=>M.stuck
theorem ET:UnD X Z (unaryOp .USub) nG:=⟨by
 intro om s σ H x v Q I rx ov;refine ov.elim λdx μ G qa hr p=>?_
 cases dx<;>first
  |exact p.elim
  |exact bc om s σ H x v Q I rx ⟨_,W0 qa,c7.ok p hr _ ofI⟩⟩
instance (x:Str) (n:Int):Decidable (Xl x n):=by unfold Xl;infer_instance
def A5:D->D->M D:=λx y=>match x,y with
| .int i,.int j=>if C7 i j then pure (.int (i*j))else M.stuck
| .str x,.int n=>if Xl x n then pure (.str (Txt.mul x n))else M.stuck
|_,_=>M.stuck
theorem VY:OpR X (yh .Mult) (λx y H Q=>∃z n,x= .str z/\y= .int n/\Xl z n/\Q (.str (Txt.mul z n)) H):=by intro om s σ H x y v u Q I rx ry h;obtain⟨z,n,rfl,rfl,hk,q⟩:=h;obtain⟨t,rfl⟩:=rx;obtain⟨t',rfl⟩:=ry;exact PySem.SB.mul hk λt' k=>⟨.str _,H,I.tok _,⟨_,rfl⟩,q⟩
theorem tW:OpD X Z (yh .Mult) A5:=
 OpD.of (OpR.or HU VY) λx y H Q ov=>ov.elim λdx dy μ G qa qe hr p=>by
  rcases dx with _|_|_|_|_|_|_|_<;>rcases dy with _|_|_|_|_|_|_|_<;>first
   |exact p.elim
   |skip
  ·unfold A5 at p;dsimp only at p;split at p
   ·rename_i hc;exact .inl ⟨_,_,W0 qa,W0 qe,hc,c7.ok p hr _ ofI⟩
   ·exact p.elim
  ·unfold A5 at p;dsimp only at p;split at p
   ·rename_i hc;exact .inr ⟨_,_,S1 qa,W0 qe,hc,c7.ok p hr _ ofS⟩
   ·exact p.elim
end
def gJ(A:zL)(s:zh)(y x:ze)(b:Bool):Prop:=
 ∀(prog:zB) (w:zI) (E:VSP) (Q:VSP),Q (.bool b) s->zq (zz prog w) A (Jp .Lt y x) Q E s
inductive LtR(A:zL)(s:zh):List ze->List ze->Bool->Prop
|nil:LtR A s [] [] false
|nilc {y ys}:LtR A s [] (y::ys) true
|cnil {x xs}:LtR A s (x::xs) [] false
|eq {x y xs ys b}:jR A s x y true->LtR A s xs ys b->LtR A s (x::xs) (y::ys) b
|ne {x y xs ys b}:jR A s x y false->gJ A s x y b->LtR A s (x::xs) (y::ys) b
section
open PySem.SeqAt
open PySem.AutoSeq1 (wpAny_loadPart')
open PySem.MeetsSeq PySem.MeetsSeq2 PySem.MeetsSeq3
theorem nq(l b:Addr)(items oz:Array ze)(n n2:Nat)(dd dd2:Option Addr)(sl sl2:Array (Option ze))(k:Bool):
 Meets (xR.«tuple.__lt__» ⟨[.ref l,.ref b], []⟩)
  (λA R s=>s.heap.get? l=some {cls:=.type "tuple",dict:=dd,data:=.seq items n,slots:=sl}/\s.heap.get? b=some {cls:=.type "tuple",dict:=dd2,data:=.seq oz n2,slots:=sl2}/\
    LtR A.in1 s items.toList oz.toList k/\R (.ok (.ret (.bool k))) s):=
 .of_wp λprog w A R s h=>by
  obtain⟨hp,g,d,tk,os⟩:=s;obtain⟨hl,hb,hk,h⟩:=h;have f2:=AutoSeq1.sub_tuple_tuple
  wp_walk using jy hl,jy hb,wpAny_forIn_list _ (λrest b s'=>b.1=none/\s'= ⟨hp,g,d,tk,os⟩/\∃(vs ws:List ze),rest=vs.zip ws/\
   vs.length+oz.size=ws.length+items.size/\LtR A.in1 ⟨hp,g,d,tk,os⟩ vs ws k) _
  case turn=>
   rintro⟨y,x⟩ rest b s' ⟨si,rfl,vs,ws,hz,ow,hR⟩
   cases hR with
   |nil=>exact kI hz
   |nilc=>exact kI hz
   |cnil=>exact kI hz
   |eq he hR'=>
     rw[xM]at hz;injection hz with hyx hrest;injection hyx with hy hx;subst hy hx;refine za (he prog w _ _ ?_)
     wp_walk
     simp only[zD]at ow;exact⟨rfl,rfl,_,_,hrest,by lia,hR'⟩
   |ne he hc=>
     rw[xM]at hz;injection hz with hyx hrest;injection hyx with hy hx;subst hy hx;refine za (he prog w _ _ ?_);have hri:=hc prog w
     wp_walk using hri
     exact⟨_,rfl,h⟩
  case fin=>
   rintro⟨b1,b2⟩ s' ⟨si,rfl,vs,ws,hz,ow,hR⟩;simp only at si;subst si;have hv:k=decide (items.size<oz.size):=by
    cases hR with
    |nil=>simp only[jK]at ow;exact(decide_eq_false (by lia)).symm
    |nilc=>simp only[jK,zD]at ow;exact(decide_eq_true (by lia)).symm
    |cnil=>simp only[jK,zD]at ow;exact(decide_eq_false (by lia)).symm
    |eq _ _=>rw[xM]at hz;exact oG hz
    |ne _ _=>rw[xM]at hz;exact oG hz
   rw[hv]at h
   wp_walk
   exact⟨_,rfl,by simpa [Builtin.Tuple.tupleCompareSizes]using h⟩
  case h=>
   exact⟨rfl,rfl,items.toList,oz.toList,rfl,by simp;lia,hk⟩
theorem mh(l b:Addr)(items oz:Array ze)(n n2:Nat)(dd dd2:Option Addr)(sl sl2:Array (Option ze))(k:Bool):∀vs ws i,items.toList.drop i=vs->oz.toList.drop i=ws->i<=items.size->i<=oz.size->
 Meets (xR.«list.__eq__.loop» ⟨[.ref l,.ref b,yC i,yC 0], []⟩)
  (λA R s=>s.heap.get? l=some {cls:=.type "list",dict:=dd,data:=.seq items n,slots:=sl}/\s.heap.get? b=some {cls:=.type "list",dict:=dd2,data:=.seq oz n2,slots:=sl2}/\
    LtR A.in1 s vs ws k/\R (.ok (.ret (.bool k))) s):=by
 have dropn:∀(a:Array ze) (i:Nat),a.toList.drop i= []->i<=a.size->i=a.size:=λa i e hi=>by have:=List.drop_eq_nil_iff.mp e;simp at this;lia
 have dropc:∀(a:Array ze) (i:Nat) (v:ze) (r:List ze),a.toList.drop i=v::r->i<a.size/\a[((i:Nat):Int).toNat]? =some v/\a.toList.drop (i+1)=r:=λa i v r e=>by
  have pj:i<a.toList.length:=by
   rcases Yg i a.toList.length with q|q
   ·exact q
   ·rw[JE q]at e;exact oG e
  rw[xG pj]at e;injection e with e1 e2;refine⟨by simpa using pj,?_,e2⟩;simp at pj;simp[pj];simpa using e1
 intro vs
 induction vs with
 |nil=>
   intro ws i hv hw hi hi2 prog w A R s h;obtain⟨hp,g,d,tk,os⟩:=s;obtain⟨hl,hb,he,h⟩:=h;have e1:=dropn items i hv hi
   wp_walk using jy hl,jy hb
   have hi1:items[((i:Nat):Int).toNat]? =none:=by simp;lia
   rw[hi1];rcases ws with _|⟨y,ys⟩
   ·
     have e2:=dropn oz i hw hi2
     cases he
     wp_walk using jy hl,jy hb
     show R (.ok (.ret (.bool (decide (items.size<oz.size))))) _;rw[decide_eq_false (by lia)];exact h
   ·
     obtain⟨pj,_,_⟩:=dropc oz i y ys hw
     cases he
     wp_walk using jy hl,jy hb
     show R (.ok (.ret (.bool (decide (items.size<oz.size))))) _;rw[decide_eq_true (by lia)];exact h
 |cons x xs ih=>
   intro ws i hv hw hi hi2 prog w A R s h;obtain⟨hp,g,d,tk,os⟩:=s;obtain⟨hl,hb,he,h⟩:=h;obtain⟨pj,g1,d1⟩:=dropc items i x xs hv
   wp_walk using jy hl,jy hb
   rcases ws with _|⟨y,ys⟩
   ·
     have e2:=dropn oz i hw hi2;have hi2':oz[((i:Nat):Int).toNat]? =none:=by simp;lia
     rw[g1,hi2']
     cases he
     wp_walk using jy hl,jy hb
     show R (.ok (.ret (.bool (decide (items.size<oz.size))))) _;rw[decide_eq_false (by lia)];exact h
   ·
     obtain⟨hlt2,g2,d2⟩:=dropc oz i y ys hw;have hc:((i:Int)+1)= ((i+1:Nat):Int):=by push_cast;rfl
     rw[g1,g2]
     cases he with
     |eq he he'=>
       refine za (he prog w _ _ ?_)
       wp_walk
       rw[hc];exact⟨yS plain_eq_loop _,jY entry_eq_loop (by rw[jG plain_eq_loop _];exact ih ys (i+1) d1 d2 (by lia) (by lia) prog w A R _ ⟨hl,hb,he',h⟩)⟩
     |ne he hcmp=>
       refine za (he prog w _ _ ?_);have hri:=hcmp prog w
       wp_walk using jy hl,jy hb
       rw[g1,g2]
       wp_walk using hri
       exact h
theorem OW(l b:Addr)(items oz:Array ze)(n n2:Nat)(dd dd2:Option Addr)(sl sl2:Array (Option ze))(k:Bool):
 Meets (xR.«list.__lt__» ⟨[.ref l,.ref b], []⟩)
  (λA R s=>s.heap.get? l=some {cls:=.type "list",dict:=dd,data:=.seq items n,slots:=sl}/\s.heap.get? b=some {cls:=.type "list",dict:=dd2,data:=.seq oz n2,slots:=sl2}/\
    LtR A.in1 s items.toList oz.toList k/\R (.ok (.ret (.bool k))) s):=by
 intro prog w A R s h;obtain⟨hp,g,d,tk,os⟩:=s;obtain⟨hl,hb,he,h⟩:=h;have f3:=AutoSeq1.sub_list_list
 wp_walk using jy hl,jy hb
 exact⟨yS plain_eq_loop _,jY entry_eq_loop (by rw[jG plain_eq_loop _];exact mh l b items oz n n2 dd dd2 sl sl2 k items.toList oz.toList 0 rfl rfl (jl _) (jl _) prog w A R _ ⟨hl,hb,he,h⟩)⟩
end
def ltS:D->D->Option Bool
| .int a,.int b=>some (decide (a<b))
| .str a,.str b=>some (decide (a.cps.toList<b.cps.toList))
| .bl a,.bl b=>some (decide (b2i a<b2i b))
|_,_=>none
def ltL(eq lt:D->D->Option Bool):List D->List D->Option Bool
|[], []=>some false
|[],_::_=>some true
|_::_, []=>some false
|x::xs,y::ys=>match eq x y with
  |some true=>ltL eq lt xs ys
  |some false=>lt x y
  |none=>none
def ltN:Nat->DH->D->D->Option Bool
|0,_,_,_=>none
|n+1,G,x,y=>match F1 G x,F1 G y with
  |some (k1,a),some (k2,b)=>if k1=k2 then ltL (eqN n G) (ltN n G) a b else none
  |none,none=>ltS x y
  |_,_=>none
theorem aq:ltN (n+1) G x y=match F1 G x,F1 G y with
|some (k1,a),some (k2,b)=>if k1=k2 then ltL (eqN n G) (ltN n G) a b else none
|none,none=>ltS x y
|_,_=>none:=rfl
section
theorem Fc(rx:d7 c μ H dx x)(ry:d7 c μ H dy y)(rv:u5 x v)(ru:u5 y u)(e:ltS dx dy=some b):gJ A s v u b:=by
 intro prog w E Q hq;rcases dx with _|_|_|_|_|_|_|_<;>rcases dy with _|_|_|_|_|_|_|_<;>first
  |(cases e;done)
  |skip
 ·cases e
  unfold d7 at rx ry;subst rx ry;cases rv;cases ru;exact(lt_bool hq:zq (zz prog w) A (zM .Lt _ _) Q E s)
 ·cases e
  unfold d7 at rx ry;subst rx ry;obtain⟨t,rfl⟩:=rv;obtain⟨t',rfl⟩:=ru;exact(lt_int hq:zq (zz prog w) A (zM .Lt _ _) Q E s)
 ·cases e
  unfold d7 at rx ry;subst rx ry;obtain⟨t,rfl⟩:=rv;obtain⟨t',rfl⟩:=ru;exact(lt_str hq:zq (zz prog w) A (zM .Lt _ _) Q E s)
theorem lt_at(I:Inv X om σ H s)(h:j9 (wc X) μ G H):∀n A,A.units+n<xL->∀ {dx dy} {x y} {v u} {b},d7 (wc X) μ H dx x->d7 (wc X) μ H dy y->u5 x v->u5 y u->ltN n G dx dy=some b->gJ A s v u b
|0,_,_,_,_,_,_,_,_,_,_,_,_,_,e=>by exact w6 e
|n+1,A,hu,dx,dy,x,y,v,u,b,rx,ry,rv,ru,e=>by
  have hu0:A.units<xL:=by lia
  have hu1:A.in1.units+n<xL:=by show A.units+1+n<xL;lia
  rw[aq]at e;rcases hx:F1 G dx with _|p
  ·
    rw[hx]at e;rcases hy:F1 G dy with _|p
    ·rw[hy]at e;exact Fc rx ry rv ru e
    ·rw[hy]at e;exact w6 e
  ·
    obtain⟨k,l⟩:=p;rw[hx]at e;rcases hy:F1 G dy with _|p'
    ·rw[hy]at e;exact w6 e
    ·
      obtain⟨k',l'⟩:=p';rw[hy]at e;dsimp only at e;split at e
      case isFalse=>exact w6 e
      rename_i hk;subst hk;obtain⟨a,vs,ou,rfl,rfl,rl,rr,sq,q⟩:=L8 I h hx rx rv;obtain⟨a',px,its',rfl,rfl,pz,rr',sq',q'⟩:=L8 I h hy ry ru;have main:∀(l l':List D) (vs px:List V) (ou its':List ze),g8 (wc X) μ H l vs->g8 (wc X) μ H l' px->m6 vs ou->m6 px its'->ltL (eqN n G) (ltN n G) l l'=some b->LtR A.in1 s ou its' b:=by
       intro l
       induction l with
       |nil=>
         intro l' vs px ou its' r r' q q' e
         cases r;cases q
         rcases l' with _|⟨_,_⟩
         ·cases r';cases q';cases e;exact .nil
         ·
           obtain⟨_,_,rfl,_,_⟩:=r'
           cases q'
           cases e
           exact .nilc
       |cons d ds ih=>
         intro l' vs px ou its' r r' q q' e;obtain⟨v0,vr,rfl,r0,rt⟩:=r
         cases q with
         |cons q0 qt=>
           rcases l' with _|⟨d',ds'⟩
           ·cases r';cases q';cases e;exact .cnil
           ·
             obtain⟨v1,vr',rfl,r1,rt'⟩:=r'
             cases q' with
             |cons q1 qt'=>
               unfold ltL at e;rcases he:eqN n G d d' with _|b0
               ·rw[he]at e;exact w6 e
               ·
                 rw[he]at e;have hE:=(WC I h n A.in1 hu1 r0 r1 q0 q1 he).2.2;rcases b0 with _|_
                 ·exact .ne hE (lt_at I h n A.in1 hu1 r0 r1 q0 q1 e)
                 ·exact .eq hE (ih ds' vr vr' _ _ rt rt' qt qt' e)
      have hR:=main l l' vs px ou its' rl pz rr rr' e;intro prog w E Q hq;rcases k with _|_
      ·
        obtain⟨⟨cls,dd,data,sl⟩,ho,hc,m,hd⟩:=id sq;obtain⟨⟨cls2,dd2,data2,sl2⟩,ql,hc2,m2,hd2⟩:=id sq';simp only at hc hd hc2 hd2;subst hc hd hc2 hd2;exact richCompare_meets_room ⟨_,ho,rfl⟩ ⟨_,ql,rfl⟩ PySem.F.slot_list_lt PySem.F.entry_list_lt (PySem.F.args_list_lt_2 _ _) (OW a a' ou.toArray its'.toArray m m2 dd dd2 sl sl2 b)
         ⟨ho,ql,hR,show Value.bool b≠Value.notImplemented/\Q (.bool b) s from⟨(λx=>nomatch x),hq⟩⟩ hu0
      ·
        obtain⟨⟨cls,dd,data,sl⟩,ho,hc,m,hd⟩:=id sq;obtain⟨⟨cls2,dd2,data2,sl2⟩,ql,hc2,m2,hd2⟩:=id sq';simp only at hc hd hc2 hd2;subst hc hd hc2 hd2;exact richCompare_meets_room ⟨_,ho,rfl⟩ ⟨_,ql,rfl⟩ PySem.F.slot_tuple_lt PySem.F.entry_tuple_lt (PySem.F.args_tuple_lt_2 _ _) (nq a a' ou.toArray its'.toArray m m2 dd dd2 sl sl2 b)
         ⟨ho,ql,hR,show Value.bool b≠Value.notImplemented/\Q (.bool b) s from⟨(λx=>nomatch x),hq⟩⟩ hu0
def ltD:D->D->M D:=λx y G=>match ltN 40 G x y with
|some b=>some (.ok (.bl b),G)
|none=>none
theorem DY(hu:X.A.units+64<xL):OpD X Z (zM .Lt) ltD:=⟨by
 intro om s σ H x y v u Q I rx ry ov;refine ov.elim λdx dy μ G qa qe hr p=>?_;unfold ltD at p;rcases e:ltN 40 G dx dy with _|b
 ·rw[e]at p;exact p.elim
 ·
   rw[e]at p;exact lt_at I hr 40 X.A (by lia) qa qe rx ry e X.prog X.w X.xe _ ⟨.bl b,H,I,rfl,c7.ok p hr _ ofB⟩⟩
end
def L7:D->Bool
| .non=>true
| .bl _=>true
| .int _=>true
| .str _=>true
|_=>false
def toV:D->V
| .bl b=>.bl b
| .int i=>.int i
| .str x=>.str x
|_=>.non
def WB:D->Option Key
| .int i=>some (.inl i)
| .str x=>some (.inr x)
|_=>none
def c6(l:List (Key×D))(k:Key):Option D:=(l.find? λkv=>decide (kv.1=k)).map (·.2)
def inB(x y:D)(G:DH):Option Bool:=match y with
| .str j=>match x with
  | .str i=>some (!(Zo j i 0 j.length 1).isEmpty)
  |_=>none
| .ref r=>match G[r]? with
  |some (.dct l)=>(WB x).map λk=>(c6 l k).isSome
  |some (.rod _)=>none
  |some (.lst l)=>if L7 x&&l.all L7 then some (inV (toV x) (l.map toV))else none
  |some (.rol l)=>if L7 x&&l.all L7 then some (inV (toV x) (l.map toV))else none
  |none=>none
| .tup l=>if L7 x&&l.all L7 then some (inV (toV x) (l.map toV))else none
|_=>none
def inD:D->D->M D:=λx y G=>match inB x y G with
|some b=>some (.ok (.bl b),G)
|none=>none
section
theorem EM(f:L7 d=true)(r:d7 c μ H d v):v=toV d/\F7 v=true:=by
 cases d<;>first
  |exact absurd (show false=true from f) zw
  |(unfold d7 at r;subst r;exact⟨rfl,rfl⟩)
theorem nN:∀ {l} {vs},l.all L7=true->g8 c μ H l vs->vs=l.map toV/\vs.all F7=true
|[],_,_,r=>by cases r;exact⟨rfl,rfl⟩
|d::ds,_,f,r=>by obtain⟨v,t,rfl,q,rt⟩:=r;rw[jC,zS]at f;obtain⟨e1,e2⟩:=EM f.1 q;obtain⟨e3,e4⟩:=nN f.2 rt;refine⟨by rw[zW,<-e1,<-e3],?_⟩;rw[jC,e2,e4];rfl
theorem FN(e:WB d=some k)(r:d7 c μ H d v):v=kV k:=by
 cases d<;>first
  |(cases e;unfold d7 at r;exact r)
  |exact w6 e
theorem pS:∀ {l} {oq},T8 c μ H l oq->match c6 l k with|some d=>∃v,u3 oq k=some v/\d7 c μ H d v|none=>u3 oq k=none
|[],_,r=>by cases r;exact rfl
|(k',d)::t,_,r=>by
 obtain⟨v,kt,rfl,q,rt⟩:=r;by_cases e:k'=k
 ·have h1:c6 ((k',d)::t) k=some d:=by unfold c6;simp[e]
  rw[h1];exact⟨v,RF e,q⟩
 ·have h1:c6 ((k',d)::t) k=c6 t k:=by unfold c6;simp[e]
  rw[h1];have ih:=pS (k:=k) rt;rw[kH e];exact ih
theorem gT(r:T8 c μ H l oq):(c6 l k).isSome= (u3 oq k).isSome:=by
 have q:=pS (k:=k) r;rcases e:c6 l k with _|d
 ·rw[e]at q;rw[q];rfl
 ·rw[e]at q;obtain⟨v,q,_⟩:=q;rw[q];rfl
theorem Sv(hu:X.A.units+64<xL)(I:Inv X om σ H s)(hr:j9 (wc X) μ G H)(qa:d7 (wc X) μ H dx x)(qe:d7 (wc X) μ H dy y)(rx:u5 x v)(ry:u5 y u)
 (e:inB dx dy G=some b):
 (Q (.bl b) H->zq (zz X.prog X.w) X.A (zM .In v u) (EP X om σ Q) X.xe s)/\(Q (.bl (!b)) H->zq (zz X.prog X.w) X.A (zM .NotIn v u) (EP X om σ Q) X.xe s):=by
 have seq:∀(p:Addr) (l:List D) (vs:List V),y= .ref p->(SqL X.K H p vs\/SqT X.K H p vs)->g8 (wc X) μ H l vs->(if (L7 dx&&l.all L7)=true then some (inV (toV dx) (l.map toV))else none)=some b->
  (Q (.bl b) H->zq (zz X.prog X.w) X.A (zM .In v u) (EP X om σ Q) X.xe s)/\(Q (.bl (!b)) H->zq (zz X.prog X.w) X.A (zM .NotIn v u) (EP X om σ Q) X.xe s):=by
  intro p l vs hy hq rl e;split at e
  ·rename_i hf;rw[zS]at hf
   cases e
   obtain⟨e1,e2⟩:=EM hf.1 qa;obtain⟨e3,e4⟩:=nN hf.2 rl;rw[<-e1,<-e3];exact⟨λq=>Fk om s σ H x y v u Q I rx ry ⟨p,vs,hy,hq,e2,e4,q⟩,λq=>Vh om s σ H x y v u Q I rx ry ⟨p,vs,hy,hq,e2,e4,q⟩⟩
  ·exact w6 e
 rcases dy with _|_|_|j|l|i|_|_<;>try (cases e;done)
 ·
   rcases dx with _|_|_|i|_|_|_|_<;>try (cases e;done)
   ·
     cases e
     have e1:=S1 qa;have e2:=S1 qe;exact⟨λq=>eT om s σ H x y v u Q I rx ry ⟨i,j,e1,e2,q⟩,λq=>fX om s σ H x y v u Q I rx ry ⟨i,j,e1,e2,q⟩⟩
 ·
   unfold d7 at qe;obtain⟨a,vs,hy,q,rl⟩:=qe;exact seq a l vs hy (.inr q) rl e
 ·
   unfold d7 at qe;obtain⟨a,m,hy⟩:=qe;rcases g:G[i]? with _|o
   ·unfold inB at e;simp only[g]at e;exact w6 e
   ·
     have ro:=hr.obj i o a g m;rcases o with l|l|l|l
     ·
       obtain⟨vs,q,rl⟩:=ro;unfold inB at e;simp only[g]at e;exact seq a l vs hy (.inl (SqL.of q)) rl e
     ·
       obtain⟨vs,q,rl⟩:=ro;unfold inB at e;simp only[g]at e;exact seq a l vs hy (.inl q.sq) rl e
     ·
       obtain⟨oq,q,rk⟩:=ro;unfold inB at e;simp only[g]at e;rcases hk:WB dx with _|k
       ·rw[hk]at e;exact w6 e
       ·
         rw[hk]at e
         cases e
         have ek:=FN hk qa;have dg:uA H a x (u3 oq k):=by rw[ek];exact uA.k q
         subst hy
         cases ry
         dsimp only;rw[gT rk];exact⟨λq=>LX (by lia) I dg rx λs' I'=>⟨.bl _,H,I',rfl,q⟩,λq=>wZ (by lia) I dg rx λs' I'=>⟨.bl _,H,I',rfl,q⟩⟩
     ·unfold inB at e;simp only[g]at e;exact w6 e
theorem Pz(hu:X.A.units+64<xL):OpD X Z (zM .In) inD:=⟨by
 intro om s σ H x y v u Q I rx ry ov;refine ov.elim λdx dy μ G qa qe hr p=>?_;unfold inD at p;rcases e:inB dx dy G with _|b
 ·rw[e]at p;exact p.elim
 ·rw[e]at p;exact(Sv hu I hr qa qe rx ry e).1 (c7.ok p hr _ ofB)⟩
inductive Ty where
 |int|bool|str|tuple|list|dict
 deriving DecidableEq
def Ty.name:Ty->String
| .int=> "int"| .bool=> "bool"| .str=> "str"| .tuple=> "tuple"| .list=> "list"| .dict=> "dict"
def Ty.of(n:String):Option Ty:=if n= "int" then some .int else if n= "bool" then some .bool else if n= "str" then some .str else if n= "tuple" then some .tuple else if n= "list" then some .list else if n= "dict" then some .dict else none
theorem Ty.of_name{n:String}{T:Ty}(h:Ty.of n=some T):n=T.name:=by
 unfold Ty.of at h;split at h
 ·rename_i e;cases h;exact e
 split at h
 ·rename_i e;cases h;exact e
 split at h
 ·rename_i e;cases h;exact e
 split at h
 ·rename_i e;cases h;exact e
 split at h
 ·rename_i e;cases h;exact e
 split at h
 ·rename_i e;cases h;exact e
 ·exact w6 h
inductive Kd where
|non|bool|int|str|tuple|list|dict
def Kd.is:Kd->Ty->Bool
| .bool,.int=>true
| .bool,.bool=>true
| .int,.int=>true
| .str,.str=>true
| .tuple,.tuple=>true
| .list,.list=>true
| .dict,.dict=>true
|_,_=>false
def Kd.name:Kd->String
| .non=> "NoneType"| .bool=> "bool"| .int=> "int"| .str=> "str"| .tuple=> "tuple"| .list=> "list"| .dict=> "dict"
def i7(G:DH):D->Option Kd
| .non=>some .non
| .bl _=>some .bool
| .int _=>some .int
| .str _=>some .str
| .tup _=>some .tuple
| .ref i=>match G[i]? with
  |some (.lst _)=>some .list
  |some (.rol _)=>some .list
  |some (.dct _)=>some .dict
  |some (.rod _)=>some .dict
  |none=>none
|_=>none
def tD:List D->Option (List Ty)
|[]=>some []
| .ty n::r=>match Ty.of n,tD r with
  |some T,some Ts=>some (T::Ts)
  |_,_=>none
|_=>none
def P0:List D->M D:=λds G=>match ds with
|[d,.ty n]=>match i7 G d,Ty.of n with
  |some k,some T=>some (.ok (.bl (k.is T)),G)
  |_,_=>none
|[d,.tup l]=>match i7 G d,tD l with
  |some k,some Ts=>some (.ok (.bl (Ts.any k.is)),G)
  |_,_=>none
|_=>none
theorem qd(K:zc)(k:Kd)(T:Ty):ya K (.type k.name) (.type T.name)=some (k.is T):=by
 cases k<;>cases T<;>rfl
theorem oN{A:zL}{E:VSP}{om:PNS}{σ:St}{s:zh}{d:D}{x:V}{v:ze}{k:Kd}(I:Inv X om σ H s)(hr:j9 (wc X) μ G H)(r:d7 (wc X) μ H d x)(rv:u5 x v)(e:i7 G d=some k):
 ∃HH:Heap->Prop,PySem.W.KitX X.K v (.type k.name) HH/\HH s.heap/\v≠ .builtin "__main__.__loader__#opaque":=by
 rcases d with _|b|b|b|l|i|_|_<;>try (cases e;done)
 ·cases e;unfold d7 at r;subst r;cases rv;exact⟨_,PySem.W.kitx_none,True.intro,λz=>nomatch z⟩
 ·cases e;unfold d7 at r;subst r;cases rv;exact⟨_,PySem.W.kitx_bool,True.intro,λz=>nomatch z⟩
 ·cases e;unfold d7 at r;subst r;obtain⟨t,rfl⟩:=rv;exact⟨_,PySem.W.kitx_int,True.intro,λz=>nomatch z⟩
 ·cases e;unfold d7 at r;subst r;obtain⟨t,rfl⟩:=rv;exact⟨_,PySem.W.kitx_str,True.intro,λz=>nomatch z⟩
 ·
   cases e
   unfold d7 at r;obtain⟨a,vs,rfl,q,_⟩:=r
   cases rv
   obtain⟨ou,_,⟨o,h1,h2,_⟩,_⟩:=I.tuple q;exact⟨_,PySem.W.kitx_tuple,⟨o,h1,h2⟩,λz=>nomatch z⟩
 ·
   unfold d7 at r;obtain⟨a,m,rfl⟩:=r
   cases rv
   unfold i7 at e;rcases g:G[i]? with _|o
   ·simp only[g]at e;exact w6 e
   ·
     have ro:=hr.obj i o a g m;simp only[g]at e;rcases o with l|l|l|l
     ·
       cases e
       obtain⟨vs,q,_⟩:=ro;obtain⟨ou,_,⟨o,n,h1,h2,_⟩,_⟩:=I.list (SqL.of q);exact⟨_,JX,⟨o,h1,h2⟩,λz=>nomatch z⟩
     ·
       cases e
       obtain⟨vs,q,_⟩:=ro;obtain⟨ou,_,⟨o,n,h1,h2,_⟩,_⟩:=I.list q.sq;exact⟨_,JX,⟨o,h1,h2⟩,λz=>nomatch z⟩
     ·
       cases e
       obtain⟨oq,q,_⟩:=ro;obtain⟨_,_,vs,_,o,es,ep,h1,h2,_⟩:=(show R0 X.prog X.w H s.heap a (.dK oq)from I.hok a _ q);exact⟨_,JY,⟨o,h1,h2.1⟩,λz=>nomatch z⟩
     ·
       cases e
       obtain⟨oq,ob,q,_⟩:=ro;obtain⟨_,_,_,vs,_,o,es,ep,h1,h2,_⟩:=(show R0 X.prog X.w H s.heap a (.frz ob (.dK oq))from I.hok a _ q);exact⟨_,JY,⟨o,h1,h2.1⟩,λz=>nomatch z⟩
theorem BP:∀ {l:List D} {vs:List V} {us:List ze} {Ts:List Ty},tD l=some Ts->g8 c μ H l vs->m6 vs us->us=Ts.map λT=>.type T.name
|[],_,_,_,e,r,q=>by cases e;cases r;cases q;rfl
|d::ds,_,_,Ts,e,r,q=>by
  obtain⟨v,t,rfl,r0,rt⟩:=r
  cases q with
  |cons q0 qt=>
    rcases d with _|_|_|_|_|_|_|n<;>try (cases e;done)
    ·
      replace e:(match Ty.of n,tD ds with|some T,some Ts=>some (T::Ts)|_,_=>none)=some Ts:=e;rcases h1:Ty.of n with _|T
      ·rw[h1]at e;exact w6 e
      ·
        rcases h2:tD ds with _|Ts'
        ·rw[h1,h2]at e;exact w6 e
        ·
          rw[h1,h2]at e
          cases e
          unfold d7 at r0;subst r0;rw[BP h2 rt qt,zW,show _=Value.type n from q0,Ty.of_name h1]
theorem KQ(K:zc)(k:Kd):∀Ts:List Ty,yY K (.type k.name) (Ts.map λT=>.type T.name)=some (Ts.any k.is)
|[]=>rfl
|T::Ts=>by
  have ih:=KQ K k Ts
  cases k<;>cases T<;>first
   |rfl
   |exact ih
theorem lT:R9 X Z (.builtin "isinstance") P0:=⟨by
 intro om s σ H xs us Q I r ov;obtain⟨ds,μ,G,rl,hr,p⟩:=ov;rcases ds with _|⟨d,_|⟨_|_|_|_|l|_|_|n,_|⟨_,_⟩⟩⟩<;>try exact p.elim
 all_goals (delta P0 at p;dsimp only at p)
 ·obtain⟨v,t,rfl,r0,v1,t1,rfl,r1,e⟩:=rl
  cases e
  obtain⟨u,u',rfl,ru,ru'⟩:=CA r;unfold d7 at r1;obtain⟨a,vs,rfl,q,rll⟩:=r1
  cases ru'
  rcases hk:i7 G d with _|k
  ·rw[hk]at p;exact p.elim
  ·
    rcases hT:tD l with _|Ts
    ·rw[hk,hT]at p;exact p.elim
    ·
      rw[hk,hT]at p;obtain⟨HH,kx,hh,qo⟩:=oN (A:=X.A) (E:=X.xe) I hr r0 ru hk;obtain⟨ou,rr,⟨⟨cls,dd,data,sl⟩,h1,h2,n,h3⟩,_⟩:=I.tuple q;simp only at h2 h3;subst h2 h3;exact PySem.W.kia_tup kx I.kIn hh h1 (by rw[BP hT rll rr];exact KQ X.K k Ts) qo λtk=>⟨.bl _,H,I.tok tk,rfl,c7.ok p hr _ ofB⟩
 ·obtain⟨v,t,rfl,r0,v1,t1,rfl,r1,e⟩:=rl
  cases e
  obtain⟨u,u',rfl,ru,ru'⟩:=CA r;unfold d7 at r1;subst r1
  cases ru'
  rcases hk:i7 G d with _|k
  ·rw[hk]at p;exact p.elim
  ·
    rcases hT:Ty.of n with _|T
    ·rw[hk,hT]at p;exact p.elim
    ·
      rw[hk,hT]at p;rw[Ty.of_name hT];obtain⟨HH,kx,hh,qo⟩:=oN (A:=X.A) (E:=X.xe) I hr r0 ru hk;exact Xa kx I.kIn hh (qd X.K k T) qo λtk=>⟨.bl _,H,I.tok tk,rfl,c7.ok p hr _ ofB⟩⟩
end
theorem PM{c:Wc}{μ:List Addr}{H:Hp}{l:List D}{vs:List V}{i:Int}{d:D}(r:g8 c μ H l vs)(e:atI l i=some d):∃v,atI vs i=some v/\d7 c μ H d v:=by
 unfold atI at e ⊢;rw[<-r.length]
 cases h:ixN l.length i with
 |none=>rw[h]at e;cases e
 |some j=>
   rw[h]at e;obtain⟨v,h1,h2⟩:=r.get e;exact⟨v,h1,h2⟩
def ixD:D->D->M D:=λx y=>match x,y with
| .tup l,.int i=>Q1 (atI l i)
| .str z,.int i=>if z.length<=zi then do
   let c <-Q1 (atI z.cps.toList i)
   pure (.str ⟨#[c]⟩)
  else M.stuck
| .ref r,.int i=>do
  let l <-M7 r >>= listOf
  Q1 (atI l i)
|_,_=>M.stuck
section
variable{X:Cx}{Z:XC}{a b e:Expr}{fa fb:Fe}{pos:Pos}
def IxD(X:Cx)(Z:XC)(o:D->D->M D):Prop:=IxR X (bA (wc X) Z o)
theorem ig{o:D->D->M D}(ho:IxD X Z o)(ha:DE X Z a fa)(hb:DE X Z b fb)(hs:vH b):DE X Z (.Subscript a b pos) (binE o fa fb):=DE.of (cj ho ha.h hb.h hs) qG
theorem BO{c:Wc}{μ:List Addr}{H:Hp}{G:DH}{r:Option D}{K:D->List Addr->DH->Hp->Prop}(h:j9 c μ G H)(p:c7 c Z μ H (Q1 r G) K):∃d,r=some d/\K d μ G H:=by
 cases r with
 |none=>exact p.elim
 |some d=>exact⟨d,rfl,c7.ok p h⟩
theorem vV:IxD X Z ixD:=IxR.mono (ar.or (ix_tup.or qm)) λx y H Q ov=>ov.elim λdx dy μ G rx ry hr p=>by
 rcases dx with _|_|_|_|_|_|_|_<;>rcases dy with _|_|_|_|_|_|_|_<;>first
  |exact p.elim
  |skip
 ·rename_i z i;refine .inr (.inr ?_);unfold ixD at p;dsimp only at p;split at p
  ·rename_i hz;obtain⟨c,ec,p2⟩:=uB p;exact⟨z,i,c,S1 rx,W0 ry,hz,ec,c7.ok p2 hr _ ofS⟩
  ·exact p.elim
 ·rename_i l i;refine .inr (.inl ?_);unfold d7 at rx;obtain⟨a,vs,rfl,q,rl⟩:=rx;obtain⟨d,ed,k⟩:=BO hr p;obtain⟨v,ev,rv⟩:=PM rl ed;exact⟨a,vs,i,v,rfl,W0 ry,q,ev,k v rv⟩
 ·rename_i r i;refine .inl ?_;obtain⟨l,a,vs,rfl,rl,p2,hq⟩:=sF hr rx p;obtain⟨d,ed,k⟩:=BO hr p2;obtain⟨v,ev,rv⟩:=PM rl ed;rcases hq with⟨z,_⟩|⟨_,_,_,⟨_,q⟩|⟨_,q⟩⟩
  ·cases z
  ·exact⟨a,vs,i,v,rfl,W0 ry,SqL.of q,ev,k v rv⟩
  ·exact⟨a,vs,i,v,rfl,W0 ry,q.sq,ev,k v rv⟩
theorem Bb(ha:DE X Z a fa)(hb:DE X Z b fb)(hs:vH b):DE X Z (.Subscript a b pos) (binE ixD fa fb):=ig vV ha hb hs
def cutD(xs:List D)(lo hi:Option Int):List D:=(xs.drop (HT.sIx xs.length 0 lo)).take (HT.sIx xs.length xs.length hi-HT.sIx xs.length 0 lo)
abbrev Fo:=DSt->M (Option Int)
def J7:Fo:=λ_=>pure none
def J3(f:Fe):Fo:=λσ=>do
 match <-f σ with
 | .int i=>pure (some i)
 |_=>M.stuck
def UF(c:Wc)(Z:XC)(f:Fo):TO:=λσ H Q=>∃X9 μ G,v5 c μ H X9 σ/\j9 c μ G H/\c7 c Z μ H (f X9 G) λo _ _ H'=>Q o H'
theorem UF.elim{c:Wc}{Z:XC}{P:Prop}{f:Fo}{σ:St}{H:Hp}{Q:Option Int->Hp->Prop}(h:UF c Z f σ H Q)(k:∀X9 μ G,v5 c μ H X9 σ->j9 c μ G H->c7 c Z μ H (f X9 G) (λo _ _ H'=>Q o H')->P):P:=by obtain⟨e0,e1,e2,e3,e4,e5⟩:=h;exact k e0 e1 e2 e3 e4 e5
structure DOp(X:Cx)(Z:XC)(e:Option Expr)(f:Fo):Prop where
 h:PO X e (UF (wc X) Z f)
theorem PO.mono{e:Option Expr}{t t':TO}(h:PO X e t)(k:∀ σ H Q,t' σ H Q->t σ H Q):PO X e t':=λom s σ H Q I q=>h om s σ H Q I (k σ H Q q)
theorem DOp.of{e:Option Expr}{f:Fo}{t:TO}(h:PO X e t)(k:∀ σ H Q,UF (wc X) Z f σ H Q->t σ H Q):DOp X Z e f:=⟨PO.mono h k⟩
theorem Wd:DOp X Z none J7:=DOp.of Kv λσ H Q ov=>ov.elim λX9 μ G s h p=>c7.ok p h
theorem qY(h:DE X Z e fa):DOp X Z (some e) (J3 fa):=DOp.of (aw h.h) λσ H Q ov=>ov.elim λX9 μ G s h p=>⟨X9,μ,G,s,h,(c7.bind p).mono λd X0 G1 H1 x1 h1 p1 v rv=>by
 cases d with
 |int i=>exact⟨i,W0 rv,c7.ok p1 h1⟩
 |_=>exact p1.elim⟩
def slD:D->Option Int->Option Int->M D:=λx lo hi=>match x with
| .tup l=>pure (.tup (cutD l lo hi))
| .ref r=>do
  let l <-M7 r >>= listOf
  K7 (.lst (cutD l lo hi))
|_=>M.stuck
def SlD(X:Cx)(Z:XC)(o:D->Option Int->Option Int->M D):Prop:=
 SlR X λx lo hi H Q=>∃dx μ G,d7 (wc X) μ H dx x/\j9 (wc X) μ G H/\c7 (wc X) Z μ H (o dx lo hi G) λd X2 _ H'=>∀v,d7 (wc X) X2 H' d v->Q v H'
theorem SlR.mono{r r':V->Option Int->Option Int->Hp->VK->Prop}(h:SlR X r)(k:∀x lo hi H Q,r' x lo hi H Q->r x lo hi H Q):SlR X r':=λom s σ H x v vl vu lo hi sl Q I rx hs pl pu q=>h om s σ H x v vl vu lo hi sl Q I rx hs pl pu (k x lo hi H Q q)
theorem Lc{prog:zB}{w:zI}{A:zL}{E:VSP}{s:zh}{t sl:Addr}{items:Array ze}{vl vu:ze}{lo hi:Option Int}{Q:VSP}(ht:Yr s.heap t items)(hs:s.heap.IsSliceOf sl vl vu .none)(pl:IsPart vl lo)(pu:IsPart vu hi)
 (hw:HT.sIx items.size 0 lo=0/\HT.sIx items.size items.size hi=items.size) (h:Q (.ref t) s):zq (zz prog w) A (XA (.ref t) (.ref sl)) Q E s:=by
 obtain⟨os,hos,hcs,hds⟩:=id hs;have hTs:s.TypeIs (.ref sl) "slice":=⟨os,hos,hcs⟩;unfold XA
 try with_reducible refine jQ ?_
 first|refine za (zm ?_)|skip
 refine za (wpAny_sequenceKey ht.typeIs (by decide) ?_);refine za (yJ ht.typeIs jD
  (xK jD ht.typeIs entry_tuple_getitem ?_ (args_tuple_getitem _ _)))
 show zq _ _ (YG (.ref t) >>= _) _ _ s;refine za (tupleItemsOf_ ht ?_);refine za (Yu hTs ?_);rw[if_pos (by decide)];refine za (HT.sliceApplied_gen hs pl pu ?_);have hyes:(((HT.sIx items.size 0 lo:Nat):Int)==0&&(1:Int)==1&&(HT.sIx items.size items.size hi-HT.sIx items.size 0 lo)==items.size)=true:=by rw[hw.1,hw.2];simp
 show zq _ _ (if (((HT.sIx items.size 0 lo:Nat):Int)==0&&(1:Int)==1&&(HT.sIx items.size items.size hi-HT.sIx items.size 0 lo)==items.size)=true then _ else _) _ _ s;rw[if_pos hyes];unfold Builtin.Tuple.tupleIsExact;refine za (za (Yu ht.typeIs (zm ?_)));rw[if_pos (by decide)];exact za (ZK (zm ⟨_,rfl,zm h⟩))
def hU(K:zc):V->Option Int->Option Int->Hp->VK->Prop:=λx lo hi H Q=>∃a xs,x= .ref a/\SqT K H a xs/\(HT.sIx xs.length 0 lo=0/\HT.sIx xs.length xs.length hi=xs.length)/\Q (.ref a) H
theorem bn:SlR X (hU X.K):=by
 intro om s σ H x v vl vu lo hi sl Q I rx hs pl pu h;obtain⟨a,xs,rfl,hx,hw,q⟩:=h
 cases rx
 obtain⟨ou,r,ht,hz⟩:=I.tuple hx;have ow:ou.toArray.size=xs.length:=by rw[zn];exact r.length.symm
 exact⟨"tuple",_,jD.lookup,ht.typeIs,Lc ht hs pl pu (by rw[ow];exact hw) ⟨.ref a,H,I,rfl,q⟩⟩
theorem NK{c:Wc}{μ:List Addr}{H:Hp}{l:List D}{vs:List V}(r:g8 c μ H l vs)(lo hi:Option Int):g8 c μ H (cutD l lo hi) (B7 vs lo hi):=by unfold cutD B7;rw[r.length];exact(r.drop _).take _
theorem LU:SlD X Z slD:=SlR.mono (sl_tup.or (bn.or Tf)) λx lo hi H Q ⟨dx,μ,G,rx,hr,p⟩=>by
 rcases dx with _|_|_|_|l|r|_|_<;>try (exact p.elim;done)
 ·
   unfold d7 at rx;obtain⟨a,vs,rfl,q,rl⟩:=rx;by_cases hw:HT.sIx vs.length 0 lo=0/\HT.sIx vs.length vs.length hi=vs.length
   ·refine .inr (.inl ⟨a,vs,rfl,q,hw,QJ hr q ?_ p⟩);have e:B7 vs lo hi=vs:=by unfold B7;rw[hw.1,hw.2];simp
    have:=NK rl lo hi;rw[e]at this;exact this
   ·exact .inl ⟨a,vs,rfl,q,hw,λp' hp=>aH hr (NK rl lo hi) p p' hp⟩
 ·
   obtain⟨l,a,vs,rfl,rl,p2,hq⟩:=sF hr rx p;have hs:SqL (wc X).K H a vs:=by
    rcases hq with⟨z,_⟩|⟨_,_,_,⟨_,q⟩|⟨_,q⟩⟩
    ·cases z
    ·exact SqL.of q
    ·exact q.sq
   exact .inr (.inr ⟨a,vs,rfl,hs,λp' hp=>Z2 hr (NK rl lo hi) p2 p' hp⟩)
variable{lo hi:Option Expr}{fl fh:Fo}{p2:Pos}
end
def rA(r:Nat)(o:DO):M Unit:=λG=>some (.ok (),G.set r o)
def BE(l:List (Key×D))(k:Key)(d:D):List (Key×D):=if l.any (λkv=>decide (kv.1=k))then l.map (λkv=>if kv.1=k then (kv.1,d)else kv)else l++[(k,d)]
section
variable{X:Cx}{Z:XC}{μ:List Addr}{H:Hp}{G:DH}
theorem fq(rv:d7 c μ H d v):∀ {l} {oq},T8 c μ H l oq->T8 c μ H (BE l k d) (P3 oq k v):=by
 have any_eq:∀ {l:List (Key×D)} {oq:List (Key×V)},T8 c μ H l oq->(l.any λkv=>decide (kv.1=k))= (oq.any λkv=>decide (kv.1=k)):=by
  intro l
  induction l with
  |nil=>intro oq r;cases r;rfl
  |cons p t ih=>
    intro oq r;obtain⟨v',kt,rfl,_,rt⟩:=r;rw[yt,yt,ih rt]
 have map_eq:∀ {l:List (Key×D)} {oq:List (Key×V)},T8 c μ H l oq->T8 c μ H (l.map λkv=>if kv.1=k then (kv.1,d)else kv) (oq.map λkv=>if kv.1=k then (kv.1,v)else kv):=by
  intro l
  induction l with
  |nil=>intro oq r;cases r;rfl
  |cons p t ih=>
    intro oq r;obtain⟨k',d'⟩:=p;obtain⟨v',kt,rfl,q,rt⟩:=r;rw[zW,zW];by_cases e:k'=k
    ·simp only[e,if_true];exact⟨v,_,rfl,rv,ih rt⟩
    ·simp only[e,if_false];exact⟨v',_,rfl,q,ih rt⟩
 have app_eq:∀ {l:List (Key×D)} {oq:List (Key×V)},T8 c μ H l oq->T8 c μ H (l++[(k,d)]) (oq++[(k,v)]):=by
  intro l
  induction l with
  |nil=>intro oq r;cases r;exact⟨v, [],rfl,rv,rfl⟩
  |cons p t ih=>
    intro oq r;obtain⟨v',kt,rfl,q,rt⟩:=r;exact⟨v',_,rfl,q,ih rt⟩
 intro l oq r;unfold BE P3;rw[any_eq r];split
 ·exact map_eq r
 ·exact app_eq r
theorem T8.length:∀ {l} {oq},T8 c μ H l oq->l.length=oq.length
|[],_,r=>by cases r;rfl
|_::_,_,r=>by obtain⟨_,_,rfl,_,t⟩:=r;simp[T8.length t]
def GN(c:Wc)(Z:XC)(f:D->D->D->M Unit):TSet:=λo i v H Q=>∃d1 d2 d3 μ G,d7 c μ H d1 o/\d7 c μ H d2 i/\d7 c μ H d3 v/\j9 c μ G H/\c7 c Z μ H (f d1 d2 d3 G) λ_ _ _ H'=>Q H'
theorem GN.elim{P:Prop}{o:V}{i:V}{v:V}{H:Hp}(h:GN c Z f o i v H Q)(k:∀d1 d2 d3 μ G,d7 c μ H d1 o->d7 c μ H d2 i->d7 c μ H d3 v->j9 c μ G H->c7 c Z μ H (f d1 d2 d3 G) (λ_ _ _ H'=>Q H')->P):P:=by obtain⟨e0,e1,e2,e3,e4,e5,e6,e7,e8,e9⟩:=h;exact k e0 e1 e2 e3 e4 e5 e6 e7 e8 e9
variable{a b e o i:Expr}{fa fb fo fi:Fe}
def S8:D->M Unit:=λx=>match x with
| .ref r=>do
  match <-M7 r with
  | .lst _=>pure ()
  |_=>M.stuck
|_=>M.stuck
def mtE(t:D->M Unit)(m:D->List D->M D)(fo:Fe)(fs:DSt->M (List D)):Fe:=λσ=>do
 let x <-fo σ
 let _ <-t x
 let xs <-fs σ
 m x xs
def lstM(r:Nat):M (List D):=do
 match <-M7 r with
 | .lst l=>pure l
 |_=>M.stuck
def W4:D->List D->M D:=λx xs=>match x,xs with
| .ref r, [y]=>do
  let l <-lstM r
  if l.length<zi then do
   let _ <-rA r (.lst (l++[y]))
   pure .non
  else M.stuck
|_,_=>M.stuck
theorem SO{a:Addr}{f:List D->M α}{K:α->List Addr->DH->Hp->Prop}(h:j9 c μ G H)(m:μ[r]? =some a)(p:c7 c Z μ H ((lstM r >>= f) G) K):
 ∃l vs,G[r]? =some (.lst l)/\H a=some (.lst vs)/\g8 c μ H l vs/\c7 c Z μ H (f l G) K:=by
 have p':c7 c Z μ H ((M7 r >>= λo=>(match o with| .lst l=>pure l|_=>M.stuck:M (List D)) >>= f) G) K:=by rw[<-M.bind_assoc];exact p
 obtain⟨o,g,p2⟩:=Q5 p';have ro:=h.obj r o a g m;rcases o with l|_|_|_<;>try (exact p2.elim;done)
 ·obtain⟨vs,e,rl⟩:=ro;exact⟨l,vs,g,e,rl,p2⟩
def MtD(X:Cx)(Z:XC)(id:String)(m:D->List D->M D):Prop:=
 MtR X id λx xs H Q=>∃d ds μ G,d7 (wc X) μ H d x/\g8 (wc X) μ H ds xs/\j9 (wc X) μ G H/\c7 (wc X) Z μ H (m d ds G) λd X2 _ H'=>∀v,d7 (wc X) X2 H' d v->Q v H'
theorem bN{r:Nat}{a:Addr}{f:M α}{K:α->List Addr->DH->Hp->Prop}(h:j9 c μ G H)(g:G[r]? =some (.lst l))(m:μ[r]? =some a)(rl:∀x:Ext μ H μ (upd H a (.lst px)),g8 c μ (upd H a (.lst px)) l' px)
 (p:c7 c Z μ H ((rA r (.lst l') >>= λ_=>f) G) K):Ext μ H μ (upd H a (.lst px))/\j9 c μ (G.set r (.lst l')) (upd H a (.lst px))/\c7 c Z μ (upd H a (.lst px)) (f (G.set r (.lst l'))) K:=by
 obtain⟨u',e,n1,n2⟩:=(h.obj r _ a g m).some_of (λz=>z);have x:Ext μ H μ (upd H a (.lst px)):=Ext.mut (yA m) e n1 n2 _;have h':j9 c μ (G.set r (.lst l')) (upd H a (.lst px)):=h.set g (λz=>z) m x (λz=>z) ⟨px,v9,rl x⟩;exact⟨x,h',c7.from p x⟩
theorem IT:MtD X Z "list.append" W4:=by
 intro om s σ H x xs v us Q I rx rs ov;obtain⟨d,ds,μ,G,rd,rds,hr,p⟩:=ov;rcases d with _|_|_|_|_|r|_|_<;>try (exact p.elim;done)
 ·
   unfold d7 at rd;obtain⟨a,m,rfl⟩:=rd;rcases ds with _|⟨y,t⟩
   ·exact p.elim
   ·
     rcases t with _|⟨_,_⟩
     ·
       obtain⟨yv,tv,rfl,ry,e⟩:=rds
       cases e
       obtain⟨l,vs,g,ea,rl,p1⟩:=SO hr m p;split at p1
       ·rename_i hz;obtain⟨x1,h1,p2⟩:=bN hr g m (λx=>(rl.mono x).append (g8.cons (ry.mono x) g8.nil)) p1;exact cI om s σ H (.ref a) [yv] v us Q I rx rs ⟨a,vs,yv,rfl,rfl,ea,by rw[<-rl.length];exact hz,c7.ok p2 h1 _ ofN⟩
       ·exact p1.elim
     ·exact p.elim
variable{es:List Expr}{fs:DSt->M (List D)}{name:Str}{apos cpos:Pos}{id:String}{mm:D->List D->M D}
theorem kY{f:Unit->M α}{K:α->List Addr->DH->Hp->Prop}(h:j9 c μ G H)(r:d7 c μ H d v)(p:c7 c Z μ H ((S8 d >>= f) G) K):tyV c.K "list" v H/\c7 c Z μ H (f () G) K:=by
 rcases d with _|_|_|_|_|i|_|_<;>try (exact p.elim;done)
 ·
   unfold d7 at r;obtain⟨a,m,rfl⟩:=r;have p':c7 c Z μ H ((M7 i >>= λo=>(match o with| .lst _=>pure ()|_=>M.stuck:M Unit) >>= f) G) K:=by rw[<-M.bind_assoc];exact p
   obtain⟨o,g,p2⟩:=Q5 p';have ro:=h.obj i o a g m;rcases o with l|_|_|_<;>try (exact p2.elim;done)
   ·obtain⟨vs,e,rl⟩:=ro;exact⟨.inl ⟨rfl,vs,SqL.of e⟩,p2⟩
theorem eR(slot:Slot "list" name id)(hty:typeOf (.builtin id)=pure (.type "method_descriptor"))(hm:MtD X Z id mm)(ho:DE X Z o fo)(ha:DA X Z (e::es) fs)
 (hbase:Yc o name X.env (eval o X.env)=eval o X.env)
 (hfew:((yo cpos (zC (e::es) X.env)).all (λx=> !x.1)&&(JK cpos (YQ [] X.env)).all (λx=>x.1.isSome)
   && decide ((e::es).length+([]:List Keyword).length+(if ([]:List Keyword).isEmpty then 0 else 1)<30))=true)
 (hline:(apos.endLine==cpos.line)=true) (hs:zC (e::es) X.env= (false,eval e X.env)::zC es X.env) (rj:(yo cpos (zC es X.env)).any (·.1)=false):
 DE X Z (.Call (.Attribute o name apos) (e::es) [] cpos) (mtE S8 mm fo fs):=
 DE.of (eI XT slot hty hm ho.h ha.h hbase hfew hline hs rj) λσ H Q ov=>ov.elim λX9 μ G s h p=>⟨X9,μ,G,s,h,(c7.bind p).mono λd X0 G1 H1 x1 h1 p1 v rv=>by obtain⟨ty,p2⟩:=kY h1 rv p1;exact⟨ty,X9,X0,G1,s.mono x1,h1,(c7.bind p2).mono λds WW G2 H2 x2 h2 p3 vs rvs=>⟨d,ds,WW,G2,rv.mono x2,rvs,h2,p3⟩⟩⟩
end
def SI(k:Bool)(h:Heap)(it a:Addr)(i:Nat):Prop:=if k then h.IsTupleIter it a i else h.IsListIter it a i
def SC(k:Bool)(h:Heap)(a:Addr)(items:Array ze):Prop:=if k then h.IsTuple a items else h.IsList a items
section
variable{prog:zB}{w:zI}{A:zL}{E:VSP}{s:zh}
theorem SI.keep(x:SI k h it a i)(q:∀o,h.get? it=some o->h'.get? it=some o):SI k h' it a i:=by
 rcases k with _|_
 ·exact Heap.IsListIter.at (show h.IsListIter it a i from x) q
 ·exact Heap.IsTupleIter.at (show h.IsTupleIter it a i from x) q
theorem SC.keep(x:SC k h a ou)(q:∀o,h.get? a=some o->h'.get? a=some o):SC k h' a ou:=by
 rcases k with _|_
 ·obtain⟨o,e,r⟩:=(show h.IsList a ou from x);exact⟨o,q o e,r⟩
 ·obtain⟨o,e,r⟩:=(show h.IsTuple a ou from x);exact⟨o,q o e,r⟩
theorem SI.there(x:SI k h it a i):∃o,h.get? it=some o/\∀v,o.data≠ .cell v:=by
 rcases k with _|_
 ·obtain⟨o,e,c,d⟩:=(show h.IsListIter it a i from x);exact⟨o,e,λv z=>by rw[d]at z;cases z⟩
 ·obtain⟨o,e,c,d⟩:=(show h.IsTupleIter it a i from x);exact⟨o,e,λv z=>by rw[d]at z;cases z⟩
theorem TW(hit:s.heap.IsTupleIter it t i)(ht:s.heap.IsTuple t items)(hx:items[i]? =some x)
 (hQ:∀h',h'.IsTupleIter it t (i+1)->yV it s.heap h'->Q x {s with heap:=h'}):zq (zz prog w) A (jq (.ref it)) Q E s:=by
 obtain⟨ob,hob,hcls,qi⟩:=id hit;obtain⟨ot,hot,_,nt,hdt⟩:=ht;unfold jq;refine za (yJ hit.typeIs xF (xK xF hit.typeIs Jt ?_ (Jm _)));show zq _ _ (field (.ref it) 0 >>= _) _ _ s;refine za (zZ hob qi rfl ?_);show zq _ _ (if (Value.ref t==Value.none)=true then _ else _) _ _ s;rw[if_neg (show ¬((Value.ref t==Value.none)=true)from zw)];show zq _ _ (field (.ref it) 1 >>= _) _ _ s;refine za (zZ hob qi rfl ?_);show zq _ _ (seqItems? (.ref t) >>= _) _ _ s;refine za (yg hot hdt ?_);simp only[xW,hx];refine za (yT hob qi (by simp) (zm ⟨x,rfl,zm (hQ _ ?_ (XE ..))⟩));exact⟨_,jN _ hob (yj (yr qi _)),(Xc ..).trans hcls,by rw[yr qi];simp[yC]⟩
theorem nW(hh:A.handled=none)(hit:s.heap.IsTupleIter it t i)(ht:s.heap.IsTuple t items)(hx:items[i]? =none)
 (hE:∀h' e,Heap.ExtBut it s.heap h'->(∃o,h'.get? e=some o/\o.cls= .type "StopIteration")->E (.ref e) {s with heap:=h'}):zq (zz prog w) A (jq (.ref it)) Q E s:=by
 obtain⟨ob,hob,hcls,qi⟩:=id hit;obtain⟨ot,hot,_,nt,hdt⟩:=ht;unfold jq;refine za (yJ hit.typeIs xF (xK xF hit.typeIs Jt ?_ (Jm _)));show zq _ _ (field (.ref it) 0 >>= _) _ _ s;refine za (zZ hob qi rfl ?_);show zq _ _ (if (Value.ref t==Value.none)=true then _ else _) _ _ s;rw[if_neg (show ¬((Value.ref t==Value.none)=true)from zw)];show zq _ _ (field (.ref it) 1 >>= _) _ _ s;refine za (zZ hob qi rfl ?_);show zq _ _ (seqItems? (.ref t) >>= _) _ _ s;refine za (yg hot hdt ?_);simp only[xW,hx];refine za (ZK (za (yT hob qi (by simp) ?_)));show zq _ _ (newExc (.type "StopIteration") [] >>= _) _ _ _;refine za ?_;simp only[newExc,newTuple];refine za (yI ?_ (by size_fits));refine za (wpAny_of_eq (by first|rfl|(simp only[firstArgMember];rfl)) ?_);refine yI ?_ (by size_fits);delta raiseNew;dsimp only;refine za (wpAny_handled ?_)
 first|rw[show A.in1.handled=none from hh]|rw[hh]
 refine za (zm (wpAny_throw ?_));exact hE _ _ (((XE ..).extBut.push _).push _) ⟨_,zy _ rfl,rfl⟩
theorem mL(hit:SI k s.heap it a i)(hl:SC k s.heap a items)(hx:items[i]? =some x)
 (hQ:∀h',SI k h' it a (i+1)->yV it s.heap h'->Q x {s with heap:=h'}):zq (zz prog w) A (jq (.ref it)) Q E s:=by
 rcases k with _|_
 ·exact wpAny_nextOf_list_item hit hl hx hQ
 ·exact TW hit hl hx hQ
theorem oO(hh:A.handled=none)(hit:SI k s.heap it a i)(hl:SC k s.heap a items)(hx:items[i]? =none)
 (hE:∀h' e,Heap.ExtBut it s.heap h'->(∃o,h'.get? e=some o/\o.cls= .type "StopIteration")->E (.ref e) {s with heap:=h'}):zq (zz prog w) A (jq (.ref it)) Q E s:=by
 rcases k with _|_
 ·exact wpAny_nextOf_list_end hh hit hl hx hE
 ·exact nW hh hit hl hx hE
structure ZA(z TI TO i1 i2:Addr):Prop where
 TIz:TI≠z
 TOz:TO≠z
 i1z:i1≠z
 i2z:i2≠z
 TITO:TI≠TO
 TIi1:TI≠i1
 TIi2:TI≠i2
 TOi1:TO≠i1
 TOi2:TO≠i2
 i12:i1≠i2
theorem aj(n:Nat):ZA (n+4:Nat) (n+2:Nat) (n+3:Nat) n (n+1:Nat):=⟨(by show @Ne Nat _ _;lia),(by show @Ne Nat _ _;lia),(by show @Ne Nat _ _;lia),(by show @Ne Nat _ _;lia),(by show @Ne Nat _ _;lia),(by show @Ne Nat _ _;lia),(by show @Ne Nat _ _;lia),(by show @Ne Nat _ _;lia),(by show @Ne Nat _ _;lia),(by show @Ne Nat _ _;lia)⟩
theorem dP(h:l<n):¬ @Membership.mem Addr (List Addr) List.instMembership [(n+4:Nat),(n+3:Nat),n,(n+1:Nat)] l:=by simp only[zk,jm,or_false,not_or];exact⟨(by show ¬ @Eq Nat _ _;lia),(by show ¬ @Eq Nat _ _;lia),(by show ¬ @Eq Nat _ _;lia),(by show ¬ @Eq Nat _ _;lia)⟩
theorem kq(hb: @Membership.mem Addr (List Addr) List.instMembership [(n+4:Nat),(n+2:Nat),(n+3:Nat),n,(n+1:Nat)] b): @LE.le Nat instLENat n b:=by simp only[zk,jm,or_false]at hb;rcases hb with rfl|rfl|rfl|rfl|rfl<;>(show @LE.le Nat instLENat _ _;lia)
variable{z TI TO i1 i2 l1 l2:Addr}{xs ys:Array ze}{k1 k2:Bool}{i:Nat}
theorem vq{Q:VSP}(Ap:ZA z TI TO i1 i2)(n1:l1∉ [z,TO,i1,i2])(n2:l2∉ [z,TO,i1,i2])
 (hz:Zz s.heap z TI TO .none) (hTI:yP s.heap TI (.ref i1) (.ref i2)) (hTO:yP s.heap TO a b)
 (h1:SI k1 s.heap i1 l1 i) (h2:SI k2 s.heap i2 l2 i) (sd:SC k1 s.heap l1 xs) (hl2:SC k2 s.heap l2 ys) (hx:xs[i]? =some x) (hy:ys[i]? =some y)
 (hQ:∀h',Zz h' z TI TO (yC s.heap.objs.size)->yP h' TO x y->SI k1 h' i1 l1 (i+1)->SI k2 h' i2 l2 (i+1)->yP h' s.heap.objs.size x y->h'.objs.size=s.heap.objs.size+1->
   (∀c o,c≠z->c≠TO->c≠i1->c≠i2->s.heap.get? c=some o->h'.get? c=some o)->Q (.ref s.heap.objs.size) {s with heap:=h'}):
 zq (zz prog w) A (xR.«zip.__next__» ⟨[.ref z], []⟩) (λfin s'=>∃v,fin= .done (.ret v)/\Q v s') E s:=by
 simp only[zk,jm,or_false,not_or]at n1 n2;show zq _ _ (field (.ref z) 2 >>= _) _ _ _;refine za (zZ hz rfl rfl ?_);show zq _ _ (field (.ref z) 3 >>= _) _ _ _;refine za (zZ hz rfl rfl ?_);refine za (yg hTI rfl ?_);show zq _ _ (yk (.ref z) >>= _) _ _ _;refine za ?_;unfold yk;refine za (zZ hz rfl rfl (zm ?_));simp only[if_true];refine za (ZK ?_);refine za (zZ hz rfl rfl ?_);refine za (xv hz (by simp) λg₁ hz₁ WU=>?_);replace hz₁:Zz g₁ z TI TO .ellipsis:=hz₁;refine za ?_;simp only[List.zipIdx_cons,List.zipIdx_nil,Yj,XV];refine za (za (Xi ?_));show zq _ _ (jq (.ref i1) >>= _) _ _ _;refine za (mL (h1.keep λo e=>WU.extBut _ _ Ap.i1z e) (sd.keep λo e=>WU.extBut _ _ n1.1 e) hx λg₂ h1₂ WR=>zm ?_);have hTO₂:yP g₂ TO a b:=WR.extBut _ _ Ap.TOi1 (WU.extBut _ _ Ap.TOz hTO);refine za (yg hTO₂ rfl ?_);refine za (YN hTO₂ λg₃ hTO₃ hs₃=>?_);replace hTO₃:yP g₃ TO x b:=hTO₃;refine za (xX (zm ?_));refine za (za (Xi ?_));show zq _ _ (jq (.ref i2) >>= _) _ _ _;have up3:∀c o,c≠z->c≠TO->c≠i1->s.heap.get? c=some o->g₃.get? c=some o:=λc o c1 c2 c3 e=>hs₃.extBut _ _ c2 (WR.extBut _ _ c3 (WU.extBut _ _ c1 e));refine za (mL (h2.keep λo e=>up3 _ _ Ap.i2z Ap.TOi2.symm Ap.i12.symm e) (hl2.keep λo e=>up3 _ _ n2.1 n2.2.1 n2.2.2.1 e) hy λg₄ h2₄ hs₄=>zm ?_);have hTO₄:yP g₄ TO x b:=hs₄.extBut _ _ Ap.TOi2 hTO₃;refine za (yg hTO₄ rfl ?_);refine za (YN hTO₄ λWS hTO₅ hs₅=>?_);replace hTO₅:yP WS TO x y:=hTO₅;refine za (xX (zm (zm ?_)));refine za (yg hTO₅ rfl ?_);refine za (wpAny_newTuple ?_);have hsz:WS.objs.size=s.heap.objs.size:=by rw[hs₅.1,hs₄.1,hs₃.1,WR.1,WU.1]
 have hz₅:Zz WS z TI TO .ellipsis:=hs₅.extBut _ _ Ap.TOz.symm (hs₄.extBut _ _ Ap.i2z.symm (hs₃.extBut _ _ Ap.TOz.symm (WR.extBut _ _ Ap.i1z.symm hz₁)));have hk₅:∀c o,c≠z->c≠TO->c≠i1->c≠i2->s.heap.get? c=some o->WS.get? c=some o:=λc o c1 c2 c3 c4 e=>hs₅.extBut _ _ c2 (hs₄.extBut _ _ c4 (up3 c o c1 c2 c3 e));have h1₅:SI k1 WS i1 l1 (i+1):=h1₂.keep λo e=>hs₅.extBut _ _ Ap.TOi1.symm (hs₄.extBut _ _ Ap.i12 (hs₃.extBut _ _ Ap.TOi1.symm e));have h2₅:SI k2 WS i2 l2 (i+1):=h2₄.keep λo e=>hs₅.extBut _ _ Ap.TOi2.symm e;have hzlt:z<WS.objs.size:=zj hz₅;show zq _ _ (Zu (.ref z) (.ref WS.objs.size) >>= _) _ _ _;refine za ?_;unfold Zu;have hz₆:Zz (WS.push {cls:=.type "tuple",data:=.seq #[x,y]}) z TI TO .ellipsis:=zf _ hz₅;refine za (xv hz₆ (by simp) λg₇ hz₇ hs₇=>?_);replace hz₇:Zz g₇ z TI TO (yC WS.objs.size):=hz₇;refine xv hz₇ (by simp) λg₈ hz₈ hs₈=>?_;replace hz₈:Zz g₈ z TI TO (yC WS.objs.size):=hz₈;have up:∀c o,c≠z->WS.get? c=some o->g₈.get? c=some o:=λc o c1 e=>hs₈.extBut _ _ c1 (hs₇.extBut _ _ c1 (zf _ e));have hT₈:yP g₈ WS.objs.size x y:=hs₈.extBut _ _ (xp hzlt) (hs₇.extBut _ _ (xp hzlt) (zy _ rfl));have hz8:g₈.objs.size=WS.objs.size+1:=by rw[hs₈.1,hs₇.1,xg]
 rw[hsz]at hz₈ hT₈ hz8;refine zm ⟨_,rfl,?_⟩;show Q (.ref WS.objs.size) _;rw[hsz];exact hQ g₈ hz₈ (up _ _ Ap.TOz hTO₅) (h1₅.keep λo e=>up _ o Ap.i1z e) (h2₅.keep λo e=>up _ o Ap.i2z e) hT₈ hz8 λc o c1 c2 c3 c4 e=>up c o c1 (hk₅ c o c1 c2 c3 c4 e)
theorem vg(hh:A.handled=none)(Ap:ZA z TI TO i1 i2)(n1:l1∉ [z,TO,i1,i2])(n2:l2∉ [z,TO,i1,i2])
 (hz:Zz s.heap z TI TO .none) (hTI:yP s.heap TI (.ref i1) (.ref i2)) (hTO:yP s.heap TO a b)
 (h1:SI k1 s.heap i1 l1 i) (h2:SI k2 s.heap i2 l2 i) (sd:SC k1 s.heap l1 xs) (hl2:SC k2 s.heap l2 ys) (hend:xs[i]? =none\/ys[i]? =none)
 (hE:∀h' e,(∀c o,c≠z->c≠TO->c≠i1->c≠i2->s.heap.get? c=some o->h'.get? c=some o)->(∃o,h'.get? e=some o/\o.cls= .type "StopIteration")->E (.ref e) {s with heap:=h'}):
 zq (zz prog w) A (xR.«zip.__next__» ⟨[.ref z], []⟩) Q E s:=by
 simp only[zk,jm,or_false,not_or]at n1 n2;show zq _ _ (field (.ref z) 2 >>= _) _ _ _;refine za (zZ hz rfl rfl ?_);show zq _ _ (field (.ref z) 3 >>= _) _ _ _;refine za (zZ hz rfl rfl ?_);refine za (yg hTI rfl ?_);show zq _ _ (yk (.ref z) >>= _) _ _ _;refine za ?_;unfold yk;refine za (zZ hz rfl rfl (zm ?_));simp only[if_true];refine za (ZK ?_);refine za (zZ hz rfl rfl ?_);refine za (xv hz (by simp) λg₁ hz₁ WU=>?_);replace hz₁:Zz g₁ z TI TO .ellipsis:=hz₁;refine za ?_;simp only[List.zipIdx_cons,List.zipIdx_nil,Yj,XV];refine za (za (Xi ?_));show zq _ _ (jq (.ref i1) >>= _) _ _ _;rcases hx:xs[i]? with _|x
 ·
   refine za (oO hh (h1.keep λo e=>WU.extBut _ _ Ap.i1z e) (sd.keep λo e=>WU.extBut _ _ n1.1 e) hx λg₂ e WR he=>?_);obtain⟨oe,hoe,hce⟩:=he;have hz₂:Zz g₂ z TI TO .ellipsis:=WR _ _ Ap.i1z.symm hz₁;have hez:e≠z:=λq=>by subst q;rw[hz₂]at hoe;cases hoe;simp at hce
   exact xv hz₂ (by simp) λg₃ _ hs₃=>hE g₃ e (λc o c1 _ c3 _ q=>hs₃.extBut _ _ c1 (WR _ _ c3 (WU.extBut _ _ c1 q))) ⟨oe,hs₃.extBut _ _ hez hoe,hce⟩
 ·
   have hy:ys[i]? =none:=by
    rcases hend with h|h
    ·rw[hx]at h;exact BF h
    ·exact h
   refine za (mL (h1.keep λo e=>WU.extBut _ _ Ap.i1z e) (sd.keep λo e=>WU.extBut _ _ n1.1 e) hx λg₂ h1₂ WR=>zm ?_);have hTO₂:yP g₂ TO a b:=WR.extBut _ _ Ap.TOi1 (WU.extBut _ _ Ap.TOz hTO);refine za (yg hTO₂ rfl ?_);refine za (YN hTO₂ λg₃ hTO₃ hs₃=>?_);refine za (xX (zm ?_));refine za (za (Xi ?_));show zq _ _ (jq (.ref i2) >>= _) _ _ _;have up3:∀c o,c≠z->c≠TO->c≠i1->s.heap.get? c=some o->g₃.get? c=some o:=λc o c1 c2 c3 e=>hs₃.extBut _ _ c2 (WR.extBut _ _ c3 (WU.extBut _ _ c1 e));refine za (oO hh (h2.keep λo e=>up3 _ _ Ap.i2z Ap.TOi2.symm Ap.i12.symm e) (hl2.keep λo e=>up3 _ _ n2.1 n2.2.1 n2.2.2.1 e) hy λg₄ e hs₄ he=>?_);obtain⟨oe,hoe,hce⟩:=he;have hz₄:Zz g₄ z TI TO .ellipsis:=hs₄ _ _ Ap.i2z.symm (hs₃.extBut _ _ Ap.TOz.symm (WR.extBut _ _ Ap.i1z.symm hz₁));have hez:e≠z:=λq=>by subst q;rw[hz₄]at hoe;cases hoe;simp at hce
   exact xv hz₄ (by simp) λWS _ hs₅=>hE WS e (λc o c1 c2 c3 c4 q=>hs₅.extBut _ _ c1 (hs₄ _ _ c4 (up3 c o c1 c2 c3 q))) ⟨oe,hs₅.extBut _ _ hez hoe,hce⟩
theorem Mh(Ap:ZA z TI TO i1 i2)(n1:l1∉ [z,TO,i1,i2])(n2:l2∉ [z,TO,i1,i2])
 (hz:Zz s.heap z TI TO .none) (hTI:yP s.heap TI (.ref i1) (.ref i2)) (hTO:yP s.heap TO a b)
 (h1:SI k1 s.heap i1 l1 i) (h2:SI k2 s.heap i2 l2 i) (sd:SC k1 s.heap l1 xs) (hl2:SC k2 s.heap l2 ys) (hx:xs[i]? =some x) (hy:ys[i]? =some y)
 (hQ:∀h',Zz h' z TI TO (yC s.heap.objs.size)->yP h' TO x y->SI k1 h' i1 l1 (i+1)->SI k2 h' i2 l2 (i+1)->yP h' s.heap.objs.size x y->h'.objs.size=s.heap.objs.size+1->
   (∀c o,c≠z->c≠TO->c≠i1->c≠i2->s.heap.get? c=some o->h'.get? c=some o)->Q (some (.ref s.heap.objs.size)) {s with heap:=h'}):
 zq (zz prog w) A (Yw (.ref z)) Q E s:=by
 have hT:s.TypeIs (.ref z) "zip":=⟨_,hz,rfl⟩;unfold Yw;exact za (wpAny_attempt (yJ hT Ys (xK Ys hT F.entry_zip_next
  (vq Ap n1 n2 hz hTI hTO h1 h2 sd hl2 hx hy λh' a1 a2 a3 a4 a5 a6 a7=>zm (hQ h' a1 a2 a3 a4 a5 a6 a7)) (F.args_zip_next_1 _))))
theorem Th(hh:A.handled=none)(Ap:ZA z TI TO i1 i2)(n1:l1∉ [z,TO,i1,i2])(n2:l2∉ [z,TO,i1,i2])
 (hz:Zz s.heap z TI TO .none) (hTI:yP s.heap TI (.ref i1) (.ref i2)) (hTO:yP s.heap TO a b)
 (h1:SI k1 s.heap i1 l1 i) (h2:SI k2 s.heap i2 l2 i) (sd:SC k1 s.heap l1 xs) (hl2:SC k2 s.heap l2 ys) (hend:xs[i]? =none\/ys[i]? =none)
 (hQ:∀h',(∀c o,c≠z->c≠TO->c≠i1->c≠i2->s.heap.get? c=some o->h'.get? c=some o)->Q none {s with heap:=h'}):zq (zz prog w) A (Yw (.ref z)) Q E s:=by
 have hT:s.TypeIs (.ref z) "zip":=⟨_,hz,rfl⟩;unfold Yw;refine za (wpAny_attempt (yJ hT Ys (xK Ys hT F.entry_zip_next
  (vg hh Ap n1 n2 hz hTI hTO h1 h2 sd hl2 hend λh' e hk he=>?_) (F.args_zip_next_1 _))))
 obtain⟨o,ho,hc⟩:=he;exact za (wpAny_isInstance ⟨o,ho,hc⟩ isSubtype_stop (zm (hQ _ hk)))
end
def AC(k:Bool)(a:Addr):Obj:={cls:=.type (if k then "tuple_iterator" else "list_iterator"),data:=.fields #[.ref a,.int 0 0]}
abbrev zh1(k1:Bool)(h:Heap)(l1:Addr):Heap:=h.push (AC k1 l1)
abbrev zh2(k1 k2:Bool)(h:Heap)(l1 l2:Addr):Heap:=(zh1 k1 h l1).push (AC k2 l2)
abbrev zh3(k1 k2:Bool)(h:Heap)(l1 l2:Addr):Heap:=(zh2 k1 k2 h l1 l2).push {cls:=.type "tuple",data:=.seq #[.ref h.objs.size,.ref (zh1 k1 h l1).objs.size]}
abbrev zh4(k1 k2:Bool)(h:Heap)(l1 l2:Addr):Heap:=(zh3 k1 k2 h l1 l2).push {cls:=.type "tuple",data:=.seq #[.none,.none]}
abbrev zh5(k1 k2:Bool)(h:Heap)(l1 l2:Addr):Heap:=(zh4 k1 k2 h l1 l2).push {cls:=.type "zip",data:=.fields #[.none,.bool false,.bool false,.ref (zh2 k1 k2 h l1 l2).objs.size,.ref (zh3 k1 k2 h l1 l2).objs.size]}
theorem pN(hl:SC k s.heap a items)(h:Q (.ref s.heap.objs.size) {s with heap:=s.heap.push (AC k a)}):zq (zz prog w) A (pyIter (.ref a)) Q E s:=by
 rcases k with _|_
 ·exact Za hl h
 ·exact wpAny_pyIter_tuple hl h
theorem bj(k1 k2:Bool)(l1 l2:Addr)(xs ys:Array ze):
 Meets (xR.«zip.__new__» ⟨[.type "zip",.ref l1,.ref l2], []⟩) (λ_ R s=>SC k1 s.heap l1 xs/\SC k2 s.heap l2 ys/\R (.ok (.ret (.ref (zh4 k1 k2 s.heap l1 l2).objs.size))) {s with heap:=zh5 k1 k2 s.heap l1 l2}):=
 .of_wp λprog w A R s h=>by
  obtain⟨hp,g,d,tk,os⟩:=s;obtain⟨sd,hl2,h⟩:=h;have hsub:=sub_zip;have hL1:SC k1 (Shared.heap ⟨hp,g,d,tk,os⟩) l1 xs:=sd;have hL2:SC k2 (Shared.heap ⟨hp.push (AC k1 l1),g,d,tk,os⟩) l2 ys:=hl2.keep λo e=>zf _ e
  wp_walk using pN hL1,pN hL2
  exact⟨_,rfl,h⟩
section
theorem af{ch:List Addr}(I:Inv X om σ H s)(hf:∀b∈ch,T0 X om H b)(k:∀b o,b∉ch->s.heap.get? b=some o->h'.get? b=some o)
 (hz:vs.length<=zi) (rv:m6 vs us) (ht:C5 h' s.heap.objs.size us.toArray):Inv X om σ (upd H s.heap.objs.size (.tup vs)) {s with heap:=h',toks:=t'}:=by
 have hq:H s.heap.objs.size=none:=I.hok.fresh (zg _);have neq:∀b o,s.heap.get? b=some o->b≠s.heap.objs.size:=λb o e=>zu (zj e);have nch:∀b u,H b=some u->b∉ch:=λb u e z=>by rw[(hf b z).1]at e;cases e
 refine I.step (λb hb=>⟨(hf b hb).2.2.2.1,(hf b hb).2.1,(hf b hb).2.2.2.2.1,(hf b hb).2.2.2.2.2⟩) (λb o _ _ hc e _=>k b o hc e) (λb o _ _ hc e _=>⟨o.slots,k b o hc e⟩)
  (λb o _ e n=>by rw[m7 (neq b o e)];exact n) (λb o hc e=>⟨o,k b o hc e⟩) (λb xs e=>by rw[m7 (m8 e hq)];exact e) (λb o u e=>by rw[m7 (m8 e hq)];exact e)
  (λb ps e=>⟨#[],by rw[m7 (m8 e hq),e];simp⟩) (λm hm=>?_) (λb u e=>?_) I.bare
 ·obtain⟨o,es,ep,ho,r⟩:=hm;exact⟨o,es,ep,k _ o (λz=>(hf _ z).2.1 rfl) ho,r⟩
 ·by_cases hb:b=s.heap.objs.size
  ·subst hb;rw[v9]at e
   cases e
   exact⟨hz,us,rv,ht⟩
  ·rw[m7 hb]at e;refine(I.hok b u e).stay (λc v hc q=>k c v ?_ q) (λc q=>by rw[m7 (m8 q hq)];exact q) λc xs q=>by rw[m7 (m8 q hq)];exact q
   rcases hc with z|z
   ·rw[z];exact nch b u e
   ·exact nch c _ z
theorem iJ{ch:List Addr}(I:Inv X om σ H s)(hf:∀b∈ch,T0 X om H b)(k:∀b o,b∉ch->s.heap.get? b=some o->h'.get? b=some o):Inv X om σ H {s with heap:=h',toks:=t'}:=by
 have nch:∀b u,H b=some u->b∉ch:=λb u e z=>by rw[(hf b z).1]at e;cases e
 refine I.step (λb hb=>⟨(hf b hb).2.2.2.1,(hf b hb).2.1,(hf b hb).2.2.2.2.1,(hf b hb).2.2.2.2.2⟩) (λb o _ _ hc e _=>k b o hc e) (λb o _ _ hc e _=>⟨o.slots,k b o hc e⟩)
  (λ_ _ _ _ n=>n) (λb o hc e=>⟨o,k b o hc e⟩) (λ_ _ e=>e) (λ_ _ _ e=>e) (λb ps e=>⟨#[],by rw[e];simp⟩) (λm hm=>?_) (λb u e=>?_) I.bare
 ·obtain⟨o,es,ep,ho,r⟩:=hm;exact⟨o,es,ep,k _ o (λz=>(hf _ z).2.1 rfl) ho,r⟩
 ·refine(I.hok b u e).stay (λc v hc q=>k c v ?_ q) (λ_ q=>q) λ_ _ q=>q;rcases hc with z|z
  ·rw[z];exact nch b u e
  ·exact nch c _ z
end
def Sq(K:zc)(k:Bool)(H:Hp)(a:Addr)(vs:List V):Prop:=if k then SqT K H a vs else SqL K H a vs
theorem vD(I:Inv X om σ H s)(h:Sq X.K k H a vs):∃ou:List ze,m6 vs ou/\SC k s.heap a ou.toArray/\vs.length<=zi:=by
 rcases k with _|_
 ·obtain⟨ou,r,p,z⟩:=I.list h;exact⟨ou,r,p.isList,z⟩
 ·obtain⟨ou,r,p,z⟩:=I.tuple h;exact⟨ou,r,p,z⟩
theorem DN(I:Inv X om σ H s)(h:Sq X.K k H a vs)(h':Sq X.K k H a ws):vs=ws:=by
 rcases k with _|_
 ·exact I.list_inj h h'
 ·exact I.tuple_inj h h'
def Itz(K:zc)(k1 k2:Bool)(a b:Addr):It:=
 ⟨λi H=>∃xs ys x y,Sq K k1 H a xs/\Sq K k2 H b ys/\xs[i]? =some x/\ys[i]? =some y,
  λi H v H'=>∃q x y,H q=none/\v= .ref q/\H'=upd H q (.tup [x,y])/\(∀xs,Sq K k1 H a xs->xs[i]? =some x)/\∀ys,Sq K k2 H b ys->ys[i]? =some y,
  λi H=>∃xs ys,Sq K k1 H a xs/\Sq K k2 H b ys/\(xs.length<=i\/ys.length<=i)⟩
theorem EL(r:m6 vs ou){i:Nat}(h:vs[i]? =some x):∃u,ou.toArray[i]? =some u/\u5 x u:=by obtain⟨u,e,ru⟩:=r.get h;exact⟨u,by simpa using e,ru⟩
theorem Cg{w:zI}{K:zc}{es:List Expr}{x1:Nat}{tp:Pos}{l1 l2 z TI TO i1 i2:Addr}(Ap:ZA z TI TO i1 i2)(n1:l1∉ [z,TO,i1,i2])(n2:l2∉ [z,TO,i1,i2]):
 P7 P w K (.Tuple es x1 tp) (Itz K k1 k2 l1 l2) [z,TI,TO,i1,i2] z (λi h=>Zz h z TI TO .none/\yP h TI (.ref i1) (.ref i2)/\(∃a b,yP h TO a b)/\SI k1 h i1 l1 i/\SI k2 h i2 l2 i) where
 mem:=by simp
 obj:=λi h st b hb=>by
  obtain⟨s1,s2,⟨a,c,s3⟩,s4,s5⟩:=st;simp only[zk,jm,or_false]at hb;rcases hb with rfl|rfl|rfl|rfl|rfl
  ·exact⟨_,s1,λv z=>nomatch z⟩
  ·exact⟨_,s2,λv z=>nomatch z⟩
  ·exact⟨_,s3,λv z=>nomatch z⟩
  ·exact s4.there
  ·exact s5.there
 keep:=λi h h' st k=>by obtain⟨s1,s2,⟨a,c,s3⟩,s4,s5⟩:=st;exact⟨k _ (by simp) _ s1,k _ (by simp) _ s2,⟨a,c,k _ (by simp) _ s3⟩,s4.keep (k _ (by simp)),s5.keep (k _ (by simp))⟩
 item:=by
  intro X hP hw hK hc i om s σ H E I hf st hg;subst hP hw hK;obtain⟨xs,ys,x,y,q1,q2,hx,hy⟩:=hg;obtain⟨its1,r1,c1,z1⟩:=vD I q1;obtain⟨sj,r2,c2,z2⟩:=vD I q2;obtain⟨u1,e1,ru1⟩:=EL r1 hx;obtain⟨u2,e2,ru2⟩:=EL r2 hy;obtain⟨s1,s2,⟨a,c,s3⟩,s4,s5⟩:=st;refine Mh Ap n1 n2 s1 s2 s3 s4 s5 c1 c2 e1 e2 λg b1 b2 b3 b4 b5 b6 b7=>⟨_,rfl,?_⟩;refine wpAny_letOwnedTupleGo_zip b1 λg2 c1' sb=>?_;have keep:∀b o,b∉ [z,TI,TO,i1,i2]->s.heap.get? b=some o->g2.get? b=some o:=λb o hb e=>by simp only[zk,jm,or_false,not_or]at hb;exact(sb.2 b hb.1).trans (b7 b o hb.1 hb.2.2.1 hb.2.2.2.1 hb.2.2.2.2 e)
  have zlt:z<s.heap.objs.size:=zj s1;have hnew:C5 g2 s.heap.objs.size [u1,u2].toArray:=⟨_,(sb.2 _ (xp zlt)).trans b5,rfl,_,rfl⟩;have hq:H s.heap.objs.size=none:=I.hok.fresh (zg _);refine⟨.ref s.heap.objs.size,upd H s.heap.objs.size (.tup [x,y]),af I hf keep (by show 2<=zi;decide) (.cons ru1 (.cons ru2 .nil)) hnew,rfl,⟨_,x,y,hq,rfl,rfl,λxs' h=>by rw[DN I h q1];exact hx,λys' h=>by rw[DN I h q2];exact hy⟩,?_,λb hb=>?_⟩
  ·refine⟨c1',?_,⟨_,_,(sb.2 _ Ap.TOz).trans b2⟩,b3.keep λo e=>(sb.2 _ Ap.i1z).trans e,b4.keep λo e=>(sb.2 _ Ap.i2z).trans e⟩;exact(sb.2 _ Ap.TIz).trans (b7 TI _ Ap.TIz Ap.TITO Ap.TIi1 Ap.TIi2 s2)
  ·have si:b<s.heap.objs.size:=by
    simp only[zk,jm,or_false]at hb;rcases hb with rfl|rfl|rfl|rfl|rfl
    ·exact zlt
    ·exact zj s2
    ·exact zj s3
    ·obtain⟨_,e,_⟩:=s4.there;exact zj e
    ·obtain⟨_,e,_⟩:=s5.there;exact zj e
   rw[m7 (zu si)];exact(hf b hb).1
 done:=by intro X hP hw hK hc i om s σ H E I hf st hg;subst hP hw hK;obtain⟨xs,ys,q1,q2,hend⟩:=hg;obtain⟨its1,r1,c1,z1⟩:=vD I q1;obtain⟨sj,r2,c2,z2⟩:=vD I q2;obtain⟨s1,s2,⟨a,c,s3⟩,s4,s5⟩:=st;have sd:=r1.length;have hl2:=r2.length;refine Th (I.ok.hd hc) Ap n1 n2 s1 s2 s3 s4 s5 c1 c2 (by rcases hend with h|h;left;simp;lia;right;simp;lia) λg b7=>⟨rfl,iJ I hf λb o hb e=>?_⟩;simp only[zk,jm,or_false,not_or]at hb;exact b7 b o hb.1 hb.2.2.1 hb.2.2.2.1 hb.2.2.2.2 e
 self:=λ_ _ _ _ _ st h=>wpAny_pyIter_zip st.1 h
def Gz(K:zc)(ta:TA):TI:=λσ H R=>ta σ H λvs H1=>∃k1 k2 a b xs ys,vs= [.ref a,.ref b]/\Sq K k1 H1 a xs/\Sq K k2 H1 b ys/\R (Itz K k1 k2 a b) H1
section
theorem nw(sd:SC k1 s.heap l1 xs)(hl2:SC k2 s.heap l2 ys)
 (h:Q (.ref (zh4 k1 k2 s.heap l1 l2).objs.size) {s with heap:=zh5 k1 k2 s.heap l1 l2}):zq (zz prog w) A (call (.type "zip") [.ref l1,.ref l2]) Q E s:=by
 refine callType_new F.called_zip (by decide) (F.typeCall_zip_2 _ _) (F.newCall_zip_2 _ _) (λobj=>F.args_object_init_3 obj _ _) F.entry_zip_new (bj k1 k2 l1 l2 xs ys) ⟨sd,hl2,?_⟩;exact⟨⟨_,zy _ rfl,rfl⟩,h⟩
structure ZMk(k1 k2:Bool)(h h5:Heap)(l1 l2:Addr)(n:Nat):Prop where
 keep:∀b o,h.get? b=some o->h5.get? b=some o
 sz:h5.objs.size=n+5
 g5:Zz h5 (n+4:Nat) (n+2:Nat) (n+3:Nat) .none
 g4:yP h5 (n+3:Nat) .none .none
 g3:yP h5 (n+2:Nat) (.ref n) (.ref (n+1:Nat))
 s1:SI k1 h5 n l1 0
 s2:SI k2 h5 (n+1:Nat) l2 0
theorem zmk:(zh4 k1 k2 h l1 l2).objs.size=h.objs.size+4/\ZMk k1 k2 h (zh5 k1 k2 h l1 l2) l1 l2 h.objs.size:=by
 have z1:(zh1 k1 h l1).objs.size=h.objs.size+1:=xg ..;have z2:(zh2 k1 k2 h l1 l2).objs.size=h.objs.size+2:=by rw[xg,z1]
 have z3:(zh3 k1 k2 h l1 l2).objs.size=h.objs.size+3:=by rw[xg,z2]
 have z4:(zh4 k1 k2 h l1 l2).objs.size=h.objs.size+4:=by rw[xg,z3]
 have z5:(zh5 k1 k2 h l1 l2).objs.size=h.objs.size+5:=by rw[xg,z4]
 have g5:Zz (zh5 k1 k2 h l1 l2) (zh4 k1 k2 h l1 l2).objs.size (zh2 k1 k2 h l1 l2).objs.size (zh3 k1 k2 h l1 l2).objs.size .none:=zy _ rfl;have g4:yP (zh5 k1 k2 h l1 l2) (zh3 k1 k2 h l1 l2).objs.size .none .none:=zf _ (zy _ rfl);have g3:yP (zh5 k1 k2 h l1 l2) (zh2 k1 k2 h l1 l2).objs.size (.ref h.objs.size) (.ref (zh1 k1 h l1).objs.size):=zf _ (zf _ (zy _ rfl));have g2:(zh5 k1 k2 h l1 l2).get? (zh1 k1 h l1).objs.size=some (AC k2 l2):=zf _ (zf _ (zf _ (zy _ (by cases k2<;>rfl))));have g1:(zh5 k1 k2 h l1 l2).get? h.objs.size=some (AC k1 l1):=zf _ (zf _ (zf _ (zf _ (zy _ (by cases k1<;>rfl)))));rw[z4,z2,z3]at g5;rw[z3]at g4;rw[z2,z1]at g3;rw[z1]at g2;refine⟨z4,λb o e=>zf _ (zf _ (zf _ (zf _ (zf _ e)))),z5,g5,g4,g3,?_,?_⟩
 ·rcases k1 with _|_
  ·exact⟨_,g1,rfl,rfl⟩
  ·exact⟨_,g1,rfl,rfl⟩
 ·rcases k2 with _|_
  ·exact⟨_,g2,rfl,rfl⟩
  ·exact⟨_,g2,rfl,rfl⟩
theorem SC.lt(c:SC k h a xs): @LT.lt Nat instLTNat a h.objs.size:=by
 rcases k with _|_
 ·obtain⟨o,e,_⟩:=(show h.IsList a _ from c);exact zj e
 ·obtain⟨o,e,_⟩:=(show h.IsTuple a _ from c);exact zj e
theorem Dp(sd:SC k1 s.heap l1 xs)(hl2:SC k2 s.heap l2 ys)
 (h:∀h5 n,n=s.heap.objs.size->ZMk k1 k2 s.heap h5 l1 l2 n->Q (.ref (n+4:Nat)) {s with heap:=h5}):zq (zz prog w) A (call (.type "zip") [.ref l1,.ref l2]) Q E s:=by
 refine nw sd hl2 ?_;have:=zmk (k1:=k1) (k2:=k2) (h:=s.heap) (l1:=l1) (l2:=l2);rw[this.1];exact h _ _ rfl this.2
theorem Rj{es:List Expr}{ta:TA}{p pos:Pos}(hg:Gl X "zip")(hm:X.mg "zip" =none)(ha:PA X [a,b] ta)(hs:zC [a,b] X.env= [(false,eval a X.env),(false,eval b X.env)])(hs2:zC [b] X.env= [(false,eval b X.env)])(hbt:zU "zip" =some (.type "zip")):
 PI X (.Tuple es x1 tp) (.Call (.Name "zip" p) [a,b] [] pos) (Gz X.K ta):=by
 intro om s σ H R I h;refine Call_ (kC I hg hm hbt (xY (thn (ha pos om s σ H _ I h) λus s1 ph=>ph.elim λvs H1 I1 r1 q1=>?_) (by rw[hs,hs2]) (by rw[hs2];rfl)));obtain⟨k1,k2,l1,l2,xs,ys,rfl,q1,q2,q⟩:=q1;obtain⟨u1,u2,rfl,ru1,ru2⟩:=CA r1
 cases ru1
 cases ru2
 obtain⟨its1,rr1,c1,z1⟩:=vD I1 q1;obtain⟨sj,rr2,c2,z2⟩:=vD I1 q2;refine Dp c1 c2 λh5 n en Z=>?_;have n1:=dP (en▸c1.lt);have n2:=dP (en▸c2.lt);refine wpAny_pyIter_zip Z.g5 ?_;refine⟨(n+4:Nat),_,_,Itz X.K k1 k2 l1 l2,H1,rfl,I1.kept Z.keep,Cg (aj n) n1 n2,⟨Z.g5,Z.g3,⟨_,_,Z.g4⟩,Z.s1,Z.s2⟩,λb hb=>?_,q⟩;have si:s1.heap.objs.size<=b:=en▸kq hb;exact I1.fpOk si (I1.hok.fresh si)
open Classical in
def ckO(r:Nat)(o:DO):DH->Bool:=λG=>decide (G[r]? =some o)
def Q2:D->M Src:=λx=>match x with
| .tup l=>pure ⟨l,λ_=>true⟩
| .ref r=>do
  let o <-M7 r
  let l <-listOf o
  pure ⟨l,ckO r o⟩
|_=>M.stuck
def dh(c:Wc)(μ:List Addr)(H:Hp)(k:Bool)(a:Addr)(s:Src):Prop:=∀ X2 G' H',Ext μ H X2 H'->j9 c X2 G' H'->s.ck G'=true->∃vs,Sq c.K k H' a vs/\g8 c X2 H' s.items vs
theorem tH{H:Hp}{G:DH}{d:D}{v:V}{f:Src->M α}{K:α->List Addr->DH->Hp->Prop}(h:j9 c μ G H)(r:d7 c μ H d v)(p:c7 c Z μ H ((Q2 d >>= f) G) K):
 ∃s k a vs,v= .ref a/\Sq c.K k H a vs/\g8 c μ H s.items vs/\dh c μ H k a s/\s.ck G=true/\(∀i,d= .ref i->k=false)/\c7 c Z μ H (f s G) K:=by
 rcases d with _|_|_|_|l|i|_|_<;>try (exact p.elim;done)
 ·
   unfold d7 at r;obtain⟨a,vs,rfl,q,rl⟩:=r;exact⟨⟨l,λ_=>true⟩,true,a,vs,rfl,q,rl,λX2 G' H' x h' _=>⟨vs,x.sqT q,rl.mono x⟩,rfl,(λi z=>nomatch z),p⟩
 ·
   unfold d7 at r;obtain⟨a,m,rfl⟩:=r;have p':c7 c Z μ H ((M7 i >>= λo=>(listOf o >>= λl=>(pure ⟨l,ckO i o⟩:M Src)) >>= f) G) K:=by rw[<-M.bind_assoc];exact p
   obtain⟨o,g,p2⟩:=Q5 p';have ro:=h.obj i o a g m;have ck:ckO i o G=true:=by unfold ckO;simp[g]
   cases o with
   |lst l=>
     obtain⟨vs,q,rl⟩:=ro;refine⟨⟨l,ckO i (.lst l)⟩,false,a,vs,rfl,SqL.of q,rl,λX2 G' H' x h' sk=>?_,ck,(λ_ _=>rfl),p2⟩;have g':G'[i]? =some (.lst l):=by unfold ckO at sk;simpa using sk
     obtain⟨px,q',pz⟩:=h'.obj i _ a g' (BH x.pre m);exact⟨px,SqL.of q',pz⟩
   |rol l=>
     obtain⟨vs,q,rl⟩:=ro;refine⟨⟨l,ckO i (.rol l)⟩,false,a,vs,rfl,q.sq,rl,λX2 G' H' x h' sk=>?_,ck,(λ_ _=>rfl),p2⟩;have g':G'[i]? =some (.rol l):=by unfold ckO at sk;simpa using sk
     obtain⟨px,q',pz⟩:=h'.obj i _ a g' (BH x.pre m);exact⟨px,q'.sq,pz⟩
   |dct l=>exact p2.elim
   |rod l=>exact p2.elim
theorem RO{H:Hp}{i:Nat}{d:D}{x:V}(r:g8 c μ H l vs)(h:l[i]? =some d)(hx:vs[i]? =some x):d7 c μ H d x:=by
 obtain⟨v,e,q⟩:=r.get h;rw[hx]at e
 cases e
 exact q
def X6(lo:Int)(n:Nat):List D:=(zR n).map fun(i:Nat)=>D.int (lo+(i:Int))
def KA(fs:DSt->M (List D)):DSt->M Src:=λσ=>do
 match <-fs σ with
 |[.int j]=>if -(2 ^ 62)<=j/\j<2 ^ 62 then pure ⟨X6 0 j.toNat,λ_=>true⟩else M.stuck
 |_=>M.stuck
theorem TZ(lo:Int)(n:Nat):ItD c μ H (Itr lo n) ⟨X6 lo n,λ_=>true⟩:=λX2 G' H' x' h' _ i=>by
 refine⟨λd hd=>?_,λhi=>?_⟩
 ·have hi:i<n:=by have:=lt_of_get hd;simpa [X6]using this
  have e:d= .int (lo+i):=by unfold X6 at hd;rw[jW,List.getElem?_range hi]at hd;simp at hd;exact hd.symm
  subst e;exact⟨hi,λx H2 ⟨e1,e2⟩=>by subst e1 e2;exact⟨Ext.refl _ _,h',ofI⟩⟩
 ·show n<=i;simpa [X6]using hi
theorem Kj(hg:Gl X "range")(hm:X.mg "range" =none)(ha:DA X Z [a] fs)(hs:zC [a] X.env= [(false,eval a X.env)]):DI X Z tg (.Call (.Name "range" p) [a] [] pos) (KA fs):=
 DI.of (UV hg hm ha.h hs) λσ H R ov=>ov.elim λX9 μ G s h p=>⟨X9,μ,G,s,h,(c7.bind p).mono λds X0 G1 H1 x1 h1 p1 vs rv=>by
  rcases ds with _|⟨_|_|j|_|_|_|_|_,_|⟨_,_⟩⟩<;>dsimp only at p1<;>try exact p1.elim
  ·split at p1
   ·rename_i hj;obtain⟨v,t,rfl,r0,e⟩:=rv
    cases e
    exact⟨j,by rw[W0 r0],hj.1,hj.2,c7.ok p1 h1 _ (TZ 0 _)⟩
   ·exact p1.elim⟩
def l5(fs:DSt->M (List D)):DSt->M Src:=λσ=>do
 match <-fs σ with
 |[a,b]=>do
   let s1 <-Q2 a
   let s2 <-Q2 b
   pure ⟨(s1.items.zip s2.items).map λp=>.tup [p.1,p.2],λG=>s1.ck G&&s2.ck G⟩
 |_=>M.stuck
theorem uX(h:j9 c μ G H)(hq:H q=none)(r:g8 c μ H ds vs):Ext μ H μ (upd H q (.tup vs))/\j9 c μ G (upd H q (.tup vs))/\d7 c μ (upd H q (.tup vs)) (.tup ds) (.ref q):=by have k:Ext μ H μ (upd H q (.tup vs)):=Ext.lay hq _;refine⟨k,h.same k λa o e n=>by rw[m7 (m8 e hq)];exact e,?_⟩;unfold d7;exact⟨q,vs,rfl,SqT.of v9,r.mono k⟩
theorem Bv{tp:Pos}{p pos:Pos}(hg:Gl X "zip")(hm:X.mg "zip" =none)(ha:DA X Z [a,b] fs)(hs:zC [a,b] X.env= [(false,eval a X.env),(false,eval b X.env)])(hs2:zC [b] X.env= [(false,eval b X.env)])(hbt:zU "zip" =some (.type "zip")):
 DI X Z (.Tuple es x1 tp) (.Call (.Name "zip" p) [a,b] [] pos) (l5 fs):=
 DI.of (Rj hg hm ha.h hs hs2 hbt) λσ H R ov=>ov.elim λX9 μ G s h p=>⟨X9,μ,G,s,h,(c7.bind p).mono λds X0 G1 H1 x1 h1 p1 vs rv=>by
  rcases ds with _|⟨d1,_|⟨d2,_|⟨_,_⟩⟩⟩<;>dsimp only at p1<;>try exact p1.elim
  ·obtain⟨v1,t1,rfl,r1,v2,t2,rfl,r2,e⟩:=rv
   cases e
   obtain⟨s1,k1,a1,w1,rfl,q1,l1,is1,ck1,_,p2⟩:=tH h1 r1 p1;obtain⟨s2,k2,a2,w2,rfl,q2,l2,is2,ck2,_,p3⟩:=tH h1 r2 p2;refine⟨k1,k2,a1,a2,w1,w2,rfl,q1,q2,c7.ok p3 h1 _ λX2 G' H' x' h' ck' i=>?_⟩;have ck'':s1.ck G'=true/\s2.ck G'=true:=by simpa using ck'
   obtain⟨u1,q1',l1'⟩:=is1 X2 G' H' x' h' ck''.1;obtain⟨u2,q2',l2'⟩:=is2 X2 G' H' x' h' ck''.2;refine⟨λd hd=>?_,λhi=>?_⟩
   ·rw[jW]at hd;rcases hz:(s1.items.zip s2.items)[i]? with _|pr
    ·rw[hz]at hd;cases hd
    ·
      rw[hz]at hd;obtain⟨e1,e2⟩:=pr;have rz:d= .tup [e1,e2]:=by simpa using hd.symm
      subst rz;rw[List.getElem?_zip_eq_some]at hz;obtain⟨y1,hy1,ry1⟩:=l1'.get hz.1;obtain⟨y2,hy2,ry2⟩:=l2'.get hz.2;refine⟨⟨u1,u2,y1,y2,q1',q2',hy1,hy2⟩,λx H2 ⟨q,z1,z2,hq,ex,eH,f1,f2⟩=>?_⟩;subst ex eH;have g1:=f1 u1 q1';have g2:=f2 u2 q2';rw[hy1]at g1;rw[hy2]at g2
      cases g1
      cases g2
      exact uX h' hq ⟨y1,_,rfl,ry1,y2,_,rfl,ry2,rfl⟩
   ·refine⟨u1,u2,q1',q2',?_⟩;rw[<-l1'.length,<-l2'.length];simp at hi;lia⟩
end
def lenF:List D->M D:=λds=>match ds with
|[.str z]=>if z.length<=zi then pure (.int z.length)else M.stuck
|[.tup l]=>pure (.int l.length)
|[.ref r]=>do
  match <-M7 r with
  | .lst l=>pure (.int l.length)
  | .rol l=>pure (.int l.length)
  | .dct l=>pure (.int l.length)
  | .rod _=>M.stuck
|_=>M.stuck
def d6:List D->M D:=λds=>match ds with
|[.tup l]=>pure (.tup l)
|[.ref r]=>do
  let l <-M7 r >>= listOf
  pure (.tup l)
|_=>M.stuck
def NA:List D->M D:=λds=>match ds with
|[.tup l]=>K7 (.lst l)
|[.ref r]=>do
  let l <-M7 r >>= listOf
  K7 (.lst l)
|_=>M.stuck
def PC:List D->M D:=λds=>match ds with
|[.int i,.int j]=>pure (.int (if j<i then j else i))
|_=>M.stuck
def gF:List D->M D:=λds=>match ds with
|[.int i]=>pure (.int (if i<0 then -i else i))
|_=>M.stuck
def UQ:List D->M D:=λds=>match ds with
|[.int i]=>pure (.int i)
|[.bl k]=>pure (.int (if k then 1 else 0))
|_=>M.stuck
def nA:List D->Option (List Int)
|[]=>some []
| .int i::r=>(nA r).map (i :: ·)
|_=>none
def c8:List D->Option (List Bool)
|[]=>some []
| .bl b::r=>(c8 r).map (b :: ·)
|_=>none
def KB:List D->M D:=λds=>match ds with
|[.ref r]=>do
  let l <-M7 r >>= listOf
  let bs <-Q1 (c8 l)
  pure (.bl (bs.all id))
|_=>M.stuck
def RE:List D->M D:=λds=>match ds with
|[.ref r]=>do
  let l <-M7 r >>= listOf
  let bs <-Q1 (c8 l)
  pure (.bl (bs.any id))
|_=>M.stuck
theorem LM{F:List D->M α}{c:Wc}{Z:XC}{H:Hp}{G:DH}{K:α->List Addr->DH->Hp->Prop}(p:c7 c Z μ H (F ds G) K)(h0:F []=M.stuck)(h2:∀a b t,F (a::b::t)=M.stuck)(hn:F [.non]=M.stuck)(hb:∀b,F [.bl b]=M.stuck)(hi:∀b,F [.int b]=M.stuck)(hs:∀b,F [.str b]=M.stuck)(ht:∀b,F [.tup b]=M.stuck)(hf:∀b,F [.fn b]=M.stuck)(hy:∀b,F [.ty b]=M.stuck):∃r,ds= [.ref r]:=by
 rcases ds with _|⟨d,_|⟨_,_⟩⟩
 ·rw[h0]at p;exact p.elim
 ·rcases d with _|b|b|b|b|b|b|b
  ·rw[hn]at p;exact p.elim
  ·rw[hb]at p;exact p.elim
  ·rw[hi]at p;exact p.elim
  ·rw[hs]at p;exact p.elim
  ·rw[ht]at p;exact p.elim
  ·exact⟨b,rfl⟩
  ·rw[hf]at p;exact p.elim
  ·rw[hy]at p;exact p.elim
 ·rw[h2]at p;exact p.elim
section
theorem S2(r:g8 c μ H [d] vs):∃v,vs= [v]/\d7 c μ H d v:=by
 obtain⟨v,t,rfl,q,e⟩:=r
 cases e
 exact⟨v,rfl,q⟩
theorem TH(r:g8 c μ H [d,e] vs):∃v w,vs= [v,w]/\d7 c μ H d v/\d7 c μ H e w:=by
 obtain⟨v,t,rfl,q,v',t',rfl,q',z⟩:=r
 cases z
 exact⟨v,v',rfl,q,q'⟩
theorem Bw:R9 X Z (.builtin "len") lenF:=R9.of (R7.or Mm (R7.or Cf Bq)) λxs H Q ov=>ov.elim λds μ G rl hr p=>by
 rcases ds with _|⟨_|_|_|z|l|i|_|_,_|⟨_,_⟩⟩<;>try exact p.elim
 all_goals (delta lenF at p;dsimp only at p)
 ·obtain⟨v,rfl,r⟩:=S2 rl;split at p
  ·rename_i hz;exact .inr (.inl ⟨z,by rw[S1 r],hz,c7.ok p hr _ ofI⟩)
  ·exact p.elim
 ·obtain⟨v,rfl,r⟩:=S2 rl;unfold d7 at r;obtain⟨a,vs,rfl,q,pz⟩:=r;exact .inl ⟨a,vs,rfl,.inr q,by rw[<-pz.length];exact c7.ok p hr _ ofI⟩
 ·obtain⟨v,rfl,r⟩:=S2 rl;unfold d7 at r;obtain⟨a,m,rfl⟩:=r;obtain⟨o,g,p1⟩:=Q5 p;have ro:=hr.obj i o a g m;rcases o with l|l|l|l
  ·obtain⟨vs,q,pz⟩:=ro;exact .inl ⟨a,vs,rfl,.inl (SqL.of q),by rw[<-pz.length];exact c7.ok p1 hr _ ofI⟩
  ·obtain⟨vs,q,pz⟩:=ro;exact .inl ⟨a,vs,rfl,.inl q.sq,by rw[<-pz.length];exact c7.ok p1 hr _ ofI⟩
  ·obtain⟨oq,q,rk⟩:=ro;exact .inr (.inr ⟨a,oq,rfl,q,by rw[<-rk.length];exact c7.ok p1 hr _ ofI⟩)
  ·exact p1.elim
theorem Z4{f:List D->M α}{K:α->List Addr->DH->Hp->Prop}(h:j9 c μ G H)(rv:d7 c μ H (.ref r) v)(p:c7 c Z μ H (((M7 r >>= listOf) >>= f) G) K):
 ∃l a vs,v= .ref a/\g8 c μ H l vs/\SqL c.K H a vs/\c7 c Z μ H (f l G) K:=by
 obtain⟨l,a,vs,rfl,rl,p2,hq⟩:=sF h rv p;refine⟨l,a,vs,rfl,rl,?_,p2⟩;rcases hq with⟨z,_⟩|⟨_,_,_,⟨_,q⟩|⟨_,q⟩⟩
 ·cases z
 ·exact SqL.of q
 ·exact q.sq
theorem ai:R9 X Z (.type "tuple") d6:=R9.of Nv λxs H Q ov=>ov.elim λds μ G rl hr p=>by
 rcases ds with _|⟨_|_|_|_|l|i|_|_,_|⟨_,_⟩⟩<;>try exact p.elim
 all_goals (delta d6 at p;dsimp only at p)
 ·obtain⟨v,rfl,r⟩:=S2 rl;have r':=r;unfold d7 at r';obtain⟨a,vs,rfl,q,pz⟩:=r';exact⟨a,vs,rfl,.inr ⟨q,c7.ok p hr _ r⟩⟩
 ·obtain⟨v,rfl,r⟩:=S2 rl;obtain⟨l,a,vs,rfl,pz,q,p2⟩:=Z4 hr r p;exact⟨a,vs,rfl,.inl ⟨q,λl' hl=>aH hr pz p2 l' hl⟩⟩
theorem Dh:R9 X Z (.type "list") NA:=R9.of Mb λxs H Q ov=>ov.elim λds μ G rl hr p=>by
 rcases ds with _|⟨_|_|_|_|l|i|_|_,_|⟨_,_⟩⟩<;>try exact p.elim
 all_goals (delta NA at p;dsimp only at p)
 ·obtain⟨v,rfl,r⟩:=S2 rl;unfold d7 at r;obtain⟨a,vs,rfl,q,pz⟩:=r;exact⟨a,vs,rfl,.inr q,λl' hl=>Z2 hr pz p l' hl⟩
 ·obtain⟨v,rfl,r⟩:=S2 rl;obtain⟨l,a,vs,rfl,pz,q,p2⟩:=Z4 hr r p;exact⟨a,vs,rfl,.inl q,λl' hl=>Z2 hr pz p2 l' hl⟩
theorem Mf(hc:X.calm=true):R9 X Z (.builtin "min") PC:=R9.of (Kz hc) λxs H Q ov=>ov.elim λds μ G rl hr p=>by
 delta PC at p;rcases ds with _|⟨_|_|i|_|_|_|_|_,t⟩<;>try exact p.elim
 rcases t with _|⟨_|_|j|_|_|_|_|_,_|⟨_,_⟩⟩<;>try exact p.elim
 obtain⟨v,w,rfl,r,r'⟩:=TH rl;exact⟨_,_,by rw[W0 r,W0 r'],c7.ok p hr _ ofI⟩
theorem QX:R9 X Z (.builtin "abs") gF:=R9.of cb λxs H Q ov=>ov.elim λds μ G rl hr p=>by
 rcases ds with _|⟨_|_|_|_|_|_|_|_,_|⟨_,_⟩⟩<;>try exact p.elim
 all_goals (delta gF at p;dsimp only at p)
 ·obtain⟨v,rfl,r⟩:=S2 rl;exact⟨_,by rw[W0 r],c7.ok p hr _ ofI⟩
theorem cN:R9 X Z (.type "int") UQ:=R9.of fU λxs H Q ov=>ov.elim λds μ G rl hr p=>by
 rcases ds with _|⟨_|_|_|_|_|_|_|_,_|⟨_,_⟩⟩<;>try exact p.elim
 all_goals (delta UQ at p;dsimp only at p)
 ·obtain⟨v,rfl,r⟩:=S2 rl;exact .inr ⟨_,by rw[L6 r],c7.ok p hr _ ofI⟩
 ·obtain⟨v,rfl,r⟩:=S2 rl;exact .inl ⟨_,by rw[W0 r],c7.ok p hr _ ofI⟩
theorem TQ:∀ {l} {ns} {vs} {us},nA l=some ns->g8 c μ H l vs->m6 vs us->us.length=ns.length/\∀i u,us[i]? =some u->∃t,u=Value.int (ns.getD i 0) t
|[],_,_,_,e,r,q=>by cases e;cases r;cases q;exact⟨rfl,λi u h=>by simp at h⟩
|d::ds,ns,_,_,e,r,q=>by
  obtain⟨v,t,rfl,r0,rt⟩:=r
  cases q with
  |cons q0 qt=>
    rcases d with _|_|n|_|_|_|_|_<;>try (cases e;done)
    ·
      replace e:(nA ds).map (n :: ·)=some ns:=e;rcases h:nA ds with _|ms
      ·rw[h]at e;exact w6 e
      ·
        rw[h]at e
        cases e
        obtain⟨h1,h2⟩:=TQ h rt qt;refine⟨by simp[h1],λi u hu=>?_⟩
        cases i with
        |zero=>
          simp at hu;subst hu;rw[W0 r0]at q0;exact q0
        |succ i=>simpa using h2 i u (by simpa using hu)
theorem cL:∀ {l} {bs} {vs} {us},c8 l=some bs->g8 c μ H l vs->m6 vs us->us.length=bs.length/\∀i u,us[i]? =some u->u=Value.bool (bs.getD i false)
|[],_,_,_,e,r,q=>by cases e;cases r;cases q;exact⟨rfl,λi u h=>by simp at h⟩
|d::ds,ns,_,_,e,r,q=>by
  obtain⟨v,t,rfl,r0,rt⟩:=r
  cases q with
  |cons q0 qt=>
    rcases d with _|n|_|_|_|_|_|_<;>try (cases e;done)
    ·
      replace e:(c8 ds).map (n :: ·)=some ns:=e;rcases h:c8 ds with _|ms
      ·rw[h]at e;exact w6 e
      ·
        rw[h]at e
        cases e
        obtain⟨h1,h2⟩:=cL h rt qt;refine⟨by simp[h1],λi u hu=>?_⟩
        cases i with
        |zero=>
          simp at hu;subst hu;rw[L6 r0]at q0;exact q0
        |succ i=>simpa using h2 i u (by simpa using hu)
theorem HX(bs:List Bool):((zR bs.length).all λi=>bs.getD i false)=bs.all id:=by
 induction bs with
 |nil=>rfl
 |cons b t ih=>rw[zD,yK,jC,JF,jC];simp[Zr];rw[<-ih];simp
theorem cy(bs:List Bool):((zR bs.length).any λi=>bs.getD i false)=bs.any id:=by
 induction bs with
 |nil=>rfl
 |cons b t ih=>rw[zD,yK,yt,List.any_map,yt];simp[Zr];rw[<-ih];simp
theorem oS{σ:St}{a:Addr}{ou:List ze}(hc:X.calm=true)(I:Inv X om σ H s)(hl:s.heap.IsList a ou.toArray)
 (h:Walks X.prog X.w X.A.in1 s.heap.objs.size [s.heap.objs.size,a] [s.heap.objs.size] ou.toArray.size (λi v=>ou.toArray[i]? =some v) (λi h=>h.IsListIter s.heap.objs.size a i/\h.IsList a ou.toArray)->
   ∀h2:Heap,(h2.IsListIter s.heap.objs.size a 0/\h2.IsList a ou.toArray)->(∀b∈ [s.heap.objs.size,a],b<h2.objs.size)->(∀h' tk,(∀b o,b∉ [s.heap.objs.size]->h2.get? b=some o->h'.get? b=some o)->Inv X om σ H {s with heap:=h',toks:=tk})->Q (.ref s.heap.objs.size) {s with heap:=h2}):
 zq (zz X.prog X.w) X.A.in1 (pyIter (.ref a)) Q E s:=by
 have pj:a<s.heap.objs.size:=by obtain⟨_,e,_⟩:=hl;exact zj e
 refine Za hl ?_;have hh:X.A.in1.handled=none:=I.ok.hd hc;refine h (Walks.list hh s.heap.objs.size a (zu pj) ou.toArray) _ ⟨⟨_,zy _ rfl,rfl,rfl⟩,hl.push _⟩ (λb hb=>?_) λh' tk k=>?_
 ·rw[xg];simp only[zk,jm,or_false]at hb;rcases hb with rfl|rfl
  ·exact ZT _
  ·exact xz pj
 ·exact I.kept λb o e=>k b o (by simp only[zt];exact zu (zj e)) (zf _ e)
theorem hZ(hc:X.calm=true):R9 X Z (.builtin "all") KB:=⟨by
 intro om s σ H xs us Q I r ov;obtain⟨ds,μ,G,rl,hr,p⟩:=ov;obtain⟨i,rfl⟩:=LM p rfl (λa _ _=>by cases a<;>rfl) rfl (λ_=>rfl) (λ_=>rfl) (λ_=>rfl) (λ_=>rfl) (λ_=>rfl) λ_=>rfl
 ·obtain⟨v,rfl,rv⟩:=S2 rl;obtain⟨u,rfl,ru⟩:=S3 r;obtain⟨l,a,vs,rfl,pz,q,p2⟩:=Z4 hr rv p
  cases ru
  obtain⟨bs,en,p3⟩:=uB p2;obtain⟨ou,rr,pl,hz⟩:=I.list q;obtain⟨h1,h2⟩:=cL en pz rr;refine call_all_walk (oS hc I pl.isList λW g hg hb hk=>⟨_,_,_,_,_,_,λi=>bs.getD i false,rfl,W,hg,λi v s' Q' E' hv hq=>?_,λh' tk k=>?_⟩)
  ·rw[h2 i v (by simpa using hv)];exact yH hq
  ·refine⟨.bl (bs.all id),H,hk h' tk k,?_,c7.ok p3 hr _ ofB⟩;have e:ou.toArray.size=bs.length:=by rw[zn];exact h1
   rw[e,HX];rfl⟩
theorem ng(hc:X.calm=true):R9 X Z (.builtin "any") RE:=⟨by
 intro om s σ H xs us Q I r ov;obtain⟨ds,μ,G,rl,hr,p⟩:=ov;obtain⟨i,rfl⟩:=LM p rfl (λa _ _=>by cases a<;>rfl) rfl (λ_=>rfl) (λ_=>rfl) (λ_=>rfl) (λ_=>rfl) (λ_=>rfl) λ_=>rfl
 ·obtain⟨v,rfl,rv⟩:=S2 rl;obtain⟨u,rfl,ru⟩:=S3 r;obtain⟨l,a,vs,rfl,pz,q,p2⟩:=Z4 hr rv p
  cases ru
  obtain⟨bs,en,p3⟩:=uB p2;obtain⟨ou,rr,pl,hz⟩:=I.list q;obtain⟨h1,h2⟩:=cL en pz rr;refine call_any_walk (oS hc I pl.isList λW g hg hb hk=>⟨_,_,_,_,_,_,λi=>bs.getD i false,rfl,W,hg,λi v s' Q' E' hv hq=>?_,λh' tk k=>?_⟩)
  ·rw[h2 i v (by simpa using hv)];exact yH hq
  ·refine⟨.bl (bs.any id),H,hk h' tk k,?_,c7.ok p3 hr _ ofB⟩;have e:ou.toArray.size=bs.length:=by rw[zn];exact h1
   rw[e,cy];rfl⟩
theorem rX(hg:Gl X x)(hm:X.mg x=none)(hv:zU x=some (.type n))(hn:x≠ "__name__")(hd:(x==("__debug__" :Str))=false):DE X Z (.Name x pos) (cE (.ty n)):=
 bF (v:=.ty n) (SM hg hm hv rfl hn hd) λ_ _=>by unfold d7;rfl
end
def W5:D->M Bool:=λx=>match x with
| .non=>pure false
| .bl b=>pure b
| .int i=>pure (i != 0)
| .str y=>if y.length<=zi then pure ((y.length:Int) != 0)else M.stuck
| .tup l=>pure (!l.isEmpty)
| .ref r=>do
  match <-M7 r with
  | .lst l=>pure (!l.isEmpty)
  | .rol l=>pure (!l.isEmpty)
  | .dct l=>pure (!l.isEmpty)
  | .rod _=>M.stuck
|_=>M.stuck
def truthE(f:Fe):DSt->M Bool:=λσ=>do W5 (<-f σ)
section
theorem Z9(r:g8 cc μ H l vs):vs.isEmpty=l.isEmpty:=by
 cases l with
 |nil=>cases r;rfl
 |cons _ _=>obtain⟨_,_,rfl,_⟩:=r;rfl
theorem KN(r:T8 cc μ H l vs):vs.isEmpty=l.isEmpty:=by
 cases l with
 |nil=>cases r;rfl
 |cons _ _=>obtain⟨_,_,rfl,_⟩:=r;rfl
theorem Td(ha:DE X Z a fa)(he:∀whole,isTrue a X.env whole= (do let v <-whole;standAt a.pos;holding [v] (truthy v))):DT X Z a (truthE fa):=
 DT.of (lg ha.h he) λσ H Q ov=>ov.elim λX9 μ G s h p=>⟨X9,μ,G,s,h,(c7.bind p).mono λd X0 G1 H1 x1 h1 p1 v rv=>by
  cases d with
  |non=>rw[HE rv];exact⟨false,rfl,c7.ok p1 h1⟩
  |bl b=>rw[L6 rv];exact⟨b,rfl,c7.ok p1 h1⟩
  |int b=>rw[W0 rv];exact⟨_,rfl,c7.ok p1 h1⟩
  |str y=>
    rw[S1 rv];unfold W5 at p1;dsimp only at p1;split at p1
    ·rename_i hz;exact⟨_,⟨hz,rfl⟩,c7.ok p1 h1⟩
    ·exact p1.elim
  |tup l=>
    unfold d7 at rv;obtain⟨a,vs,rfl,q,rl⟩:=rv;exact⟨!vs.isEmpty,.inr (.inl ⟨vs,q,rfl⟩),by rw[Z9 rl];exact c7.ok p1 h1⟩
  |ref r=>
    unfold d7 at rv;obtain⟨a,m,rfl⟩:=rv;obtain⟨o,g,p2⟩:=Q5 p1;have ro:=h1.obj r o a g m
    cases o with
    |lst l=>obtain⟨vs,q,rl⟩:=ro;exact⟨!vs.isEmpty,.inl ⟨vs,SqL.of q,rfl⟩,by rw[Z9 rl];exact c7.ok p2 h1⟩
    |rol l=>obtain⟨vs,q,rl⟩:=ro;exact⟨!vs.isEmpty,.inl ⟨vs,q.sq,rfl⟩,by rw[Z9 rl];exact c7.ok p2 h1⟩
    |dct l=>obtain⟨vs,q,rl⟩:=ro;exact⟨!vs.isEmpty,.inr (.inr ⟨vs,q,rfl⟩),by rw[KN rl];exact c7.ok p2 h1⟩
    |rod l=>exact p2.elim
  |_=>exact p1.elim⟩
def nF(o o':D->D->M D)(fa fb fc:Fe):Fe:=λσ=>do
 let x <-fa σ
 let y <-fb σ
 if <-rE (<-o x y)then o' y (<-fc σ)else pure (.bl false)
end
def AF(osc scope:Scope)(N XN:List Str)(caps:List (Option Nat)):Bool:=
 decide (scope.kind= .function)&&scope.names.all (λy=>decide (y.2≠ .cell))&&scope.names.all (λy=>decide (y.2= .local->scope.names.lookup y.1=some .local)) &&
 scope.names.all (λy=>decide (y.2= .free->(osc.names.lookup y.1=some .cell\/osc.names.lookup y.1=some .free)))&&scope.names.all (λy=>decide (y.2= .free->scope.names.lookup y.1=some .free)) &&
 decide (caps.length=N.length)&&(zR caps.length).all λi=>match caps[i]? with
  |some (some j)=>match N[i]?,XN[j]? with
    |some x,some y=>decide (x=y)&&decide ((x,NameKind.free)∈scope.names)
    |_,_=>false
  |_=>true
theorem d5.of{caps:List (Option Nat)}(h:AF osc scope N XN caps=true)(hs:X.env.scope=osc)(hN:X.N=XN):d5 X scope N caps:=by
 unfold AF at h;simp only[zS,decide_eq_true_eq,Xr]at h;obtain⟨⟨⟨⟨⟨⟨h1,h2⟩,h3⟩,h4⟩,h5⟩,h6⟩,h7⟩:=h;refine⟨h1,h2,h3,λy hy e=>?_,h5,h6,λi j e=>?_⟩
 ·have:=h4 y hy e;show X.env.scope.names.lookup y.1=_\/X.env.scope.names.lookup y.1=_;rw[hs];exact this
 ·have hi:i∈zR caps.length:=by rw[yz];exact lt_of_get e
  have q:=h7 i hi;simp only[e]at q;rw[hN];split at q
  ·rename_i x y e1 e2;simp only[zS,decide_eq_true_eq]at q;exact⟨x,e1,by rw[e2,q.1],q.2⟩
  ·exact sE q
def m9(m:Nat)(fb:Fs):List D->M D:=λds=>do
 match <-fb (ds.map some++jE (m-ds.length) none) with
 | .nx _=>pure .non
 | .rt d=>pure d
 |_=>M.stuck
structure FF(K:zc)(mg:Str->Option ze)(x:Str)(st:Stmt)(ps:List Str)(f:Addr)(fd:xm):Prop where
 F:Fun K x x st f fd
 b:y4 K fd ps []
 m:mg x=some (.ref f)
theorem cQ(r:g8 c μ H ds vs):v5 c μ H (ds.map some++jE (N.length-ds.length) none) (L2.start N vs):=by
 unfold L2.start;rw[r.length];refine⟨by simp[r.length],λi d e=>?_⟩;by_cases hi:i<ds.length
 ·rw[zA (by simpa using hi),jW]at e;have hd:ds[i]? =some d:=by
   cases h:ds[i]? with
   |none=>rw[h]at e;exact w6 e
   |some d'=>rw[h]at e;simpa using e
  obtain⟨v,hv,rv⟩:=r.get hd;refine⟨v,?_,rv⟩;rw[zA (by simp;rw[<-r.length];exact hi),jW,hv];rfl
 ·rw[ye (by simpa using hi),JA]at e;split at e<;>cases e
theorem NP{w:zI}{K:zc}{base:Heap}{x:Str}{st:Stmt}{f:Addr}{k n m:Nat}{fb:Fs}(F:FF K mg x st ps f fd)(S:M4 N ps (o5 st))(hn:ps.length=n)(hm:N.length=m)
 (hbody:∀(pq:ze) (A:zL) (outer:List Env) (s:zh) (H:Hp) (E:XK),K8 k (A.deeper (yb x (o5 st) s.heap.objs.size f pq))->DB (U5 CX0 P w K mg base N x (o5 st) f pq A outer s H E).nox ZF (O9 st) fb):
 V2 P w K mg base CX0 (k+1) f fd ps (spD ⟨K,mg⟩ n (m9 m fb)):=by
 refine F.F.ok S (λvs H Q E h=>by rw[hn];exact h.1) λpq A outer s H vs Q E hr h=>⟨_,(hbody pq A outer s H E hr).h,?_⟩;obtain⟨hl,ds,μ,G,rl,hG,p⟩:=h;subst hm;refine⟨_,μ,G,cQ rl,hG,(c7.bind p).mono λfl X0 G1 H1 x1 h1 p1=>?_⟩
 cases fl with
 |nx X9=>exact λσ _=>c7.ok p1 h1 _ ofN
 |rt d=>exact λv rv=>c7.ok p1 h1 v rv
 |bk _=>exact p1.elim
 |ct _=>exact p1.elim
def aG(K:zc):Sp:=λvs H Q _=>∃(a:Addr) (ns:List Int),vs= [.ref a]/\SqL K H a (ns.map V.int)/\iG H/\ns.length<=63/\∀H',Q (.bl true) H'
theorem wQ:∀ns:List Int,g8 c μ H (ns.map D.int) (ns.map V.int)
|[]=>rfl
|n::t=>⟨.int n,_,rfl,ofI,wQ t⟩
theorem MZ{w:zI}{K:zc}{base:Heap}{f:Addr}{k:Nat}(hF:V2 P w K mg base CX0 k f fd ["script"] (spD ⟨K,mg⟩ 1 F))
 (pure:∀ns:List Int,ns.length<=63->∃G',F [.ref 0] [.rol (ns.map D.int)]=some (.ok (.bl true),G')):V2 P w K mg base CX0 k f fd ["script"] (aG K):=
 hF.imp λvs H Q E h=>by
  obtain⟨a,ns,rfl,hS,hO,hl,q⟩:=h;obtain⟨G',e⟩:=pure ns hl;refine⟨rfl, [.ref 0], [a], [.rol (ns.map D.int)],⟨.ref a, [],rfl,by unfold d7;exact⟨a,rfl,rfl⟩,rfl⟩,⟨rfl,λi j b e1 e2=>?_,λi o b e1 e2=>?_⟩,?_⟩
  ·have h1:=lt_of_get e1;have h2:=lt_of_get e2;simp at h1 h2;left;lia
  ·have h1:=lt_of_get e2;simp at h1;subst h1;have e1':o= .rol (ns.map D.int):=by simpa using e1.symm
   have e2':b=a:=by simpa using e2.symm
   subst e1' e2';refine⟨ns.map V.int,?_,wQ ns⟩;rcases hS with(hS|⟨o,hS⟩)|hS
   ·rcases hO b with z|⟨o,xs,z⟩
    ·rw[z]at hS;exact w6 hS
    ·rw[z]at hS;cases hS
   ·exact .inl ⟨o,hS⟩
   ·exact .inr (.inr hS)
  ·rw[e];exact λX2 H' _ _ v rv=>by rw[L6 rv];exact q H'
theorem vv:zU "len" =some (.builtin "len"):=by decide +kernel
theorem FJ:zU "isinstance" =some (.builtin "isinstance"):=by decide +kernel
theorem Hq:zU "all" =some (.builtin "all"):=by decide +kernel
theorem nY:zU "any" =some (.builtin "any"):=by decide +kernel
theorem CZ:zU "min" =some (.builtin "min"):=by decide +kernel
theorem dX:zU "max" =some (.builtin "max"):=by decide +kernel
theorem QV:zU "abs" =some (.builtin "abs"):=by decide +kernel
theorem sU:zU "sorted" =some (.builtin "sorted"):=by decide +kernel
theorem cz:zU "tuple" =some (.type "tuple"):=by decide +kernel
theorem SU:zU "list" =some (.type "list"):=by decide +kernel
theorem Wv:zU "int" =some (.type "int"):=by decide +kernel
theorem eZ:zU "dict" =some (.type "dict"):=by decide +kernel
theorem kW:zU "zip" =some (.type "zip"):=by decide +kernel
end DL
namespace DL
open PySem L2
def Wp{α:Type}(m:M α)(G:DH)(Q:α->DH->Prop):Prop:=∃a G',m G=some (.ok a,G')/\Q a G'
section
theorem Wp.mono(h:Wp m G Q)(k:∀a G',Q a G'->Q' a G'):Wp m G Q':=let ⟨a,G',e,q⟩:=h;⟨a,G',e,k a G' q⟩
theorem d8:Wp (pure a) G Q↔Q a G:=by
 constructor
 ·rintro⟨b,G',e,q⟩
  cases e
  exact q
 ·exact λq=>⟨a,G,rfl,q⟩
theorem EA:Wp (M.stuck:M α) G Q↔False:=by
 constructor
 ·rintro⟨b,G',e,q⟩;exact w6 e
 ·exact yc
theorem f9:Wp (m >>= f) G Q↔Wp m G λa G1=>Wp (f a) G1 Q:=by
 constructor
 ·rintro⟨a,G',e,q⟩;rw[M.bind_eq]at e
  match h:m G,e with
  |some (.ok b,G1),e=>exact⟨b,G1,h,a,G',e,q⟩
 ·rintro⟨b,G1,e,a,G',e',q⟩;exact⟨a,G',by rw[M.bind_ok e];exact e',q⟩
theorem oD(h:m G=some (.ok a,G')):Wp m G Q↔Q a G':=⟨fun⟨b,G2,e,q⟩=>by rw[h]at e;cases e;exact q,λq=>⟨a,G',h,q⟩⟩
theorem g9:Wp (Q1 o) G Q↔∃a,o=some a/\Q a G:=by
 rcases o with _|a
 ·
   constructor
   ·rintro⟨_,_,e,_⟩;exact w6 e
   ·rintro⟨_,e,_⟩;exact w6 e
 ·
   constructor
   ·rintro⟨_,_,e,q⟩
    cases e
    exact⟨_,rfl,q⟩
   ·rintro⟨_,e,q⟩
    cases e
    exact⟨_,_,rfl,q⟩
theorem O3{Q:DO->DH->Prop}:Wp (M7 r) G Q↔∃o,G[r]? =some o/\Q o G:=by
 constructor
 ·rintro⟨a,G',e,q⟩;delta M7 at e;rcases h:G[r]? with _|o
  ·rw[h]at e;exact w6 e
  ·rw[h]at e;cases e;exact⟨_,rfl,q⟩
 ·rintro⟨o,e,q⟩;refine⟨o,G,?_,q⟩;delta M7;rw[e]
theorem Q7{Q:DPP}:Wp (K7 o) G Q↔Q (.ref G.length) (G++[o]):=oD rfl
theorem NS{Q:Unit->DH->Prop}:Wp (rA r o) G Q↔Q () (G.set r o):=oD rfl
theorem D6:Wp (K9 i σ) G Q↔∃d,σ[i]? =some (some d)/\Q d G:=by
 constructor
 ·rintro⟨d,G',e,q⟩;delta K9 at e;rcases h:σ[i]? with _|o
  ·rw[h]at e;exact w6 e
  ·
    rw[h]at e;rcases o with _|d'
    ·exact w6 e
    ·cases e;exact⟨_,rfl,q⟩
 ·rintro⟨d,h,q⟩;exact⟨d,G,by delta K9;rw[h],q⟩
theorem A7:Wp (cE d σ) G Q↔Q d G:=d8
theorem dA:Wp (binE o a b σ) G Q↔Wp (a σ) G λx G1=>Wp (b σ) G1 λy G2=>Wp (o x y) G2 Q:=by unfold binE;simp only[f9]
theorem l9:Wp (if k=true then m else n) G R↔if k=true then Wp m G R else Wp n G R:=by cases k<;>exact Iff.rfl
theorem RJ:Wp (rE d) G B↔∃k,d= .bl k/\B k G:=by
 constructor
 ·rintro⟨k,G',e,q⟩;rcases d with _|b|_|_|_|_|_|_<;>try (cases e;done)
  ·cases e;exact⟨_,rfl,q⟩
 ·rintro⟨k,e,q⟩;subst e;exact⟨k,G,rfl,q⟩
theorem kj:Wp (mC a σ) G Q↔Wp (a σ) G λx G1=>∃k,x= .bl k/\Q (.bl (!k)) G1:=by unfold mC;simp only[f9,RJ,d8]
theorem E9:Wp (ifE t a b σ) G Q↔Wp (t σ) G λk G1=>if k=true then Wp (a σ) G1 Q else Wp (b σ) G1 Q:=by unfold ifE;simp only[f9,l9]
theorem kE:Wp (g6 a σ) G B↔Wp (a σ) G λx G1=>∃k,x= .bl k/\B k G1:=by unfold g6;simp only[f9,RJ]
theorem W3:Wp (truthE a σ) G B↔Wp (a σ) G λx G1=>Wp (W5 x) G1 B:=by unfold truthE;simp only[f9]
theorem dI:Wp (w4 t u σ) G B↔Wp (t σ) G λk G1=>if k=true then Wp (u σ) G1 B else B false G1:=by unfold w4;simp only[f9,l9,d8]
theorem SX:Wp (orT t u σ) G B↔Wp (t σ) G λk G1=>if k=true then B true G1 else Wp (u σ) G1 B:=by unfold orT;simp only[f9,l9,d8]
theorem X8:Wp (t5 t σ) G B↔Wp (t σ) G λk G1=>B (!k) G1:=by unfold t5;simp only[f9,d8]
theorem v7:Wp (z0 σ) G R↔R [] G:=d8
theorem W9:Wp (C0 a fs σ) G R↔Wp (a σ) G λx G1=>Wp (fs σ) G1 λxs G2=>R (x::xs) G2:=by unfold C0;simp only[f9,d8]
theorem D9:Wp (D0 F fs σ) G Q↔Wp (fs σ) G λds G1=>Wp (F ds) G1 Q:=by unfold D0;simp only[f9]
theorem FC{α:Type}{m:M α}{R:α->DH->Prop}:Wp (noX m) G R↔Wp m G R:=by
 constructor
 ·rintro⟨x,G',e,q⟩;delta noX at e;rcases h:m G with _|p
  ·rw[h]at e;exact w6 e
  ·
    rw[h]at e;obtain⟨_|y,G1⟩:=p
    ·exact w6 e
    ·cases e;exact⟨_,_,h,q⟩
 ·rintro⟨x,G',e,q⟩;exact⟨x,G',by delta noX;rw[e],q⟩
theorem W8:Wp (fnX n F ds) G Q↔ds.length=n/\Wp (F ds) G Q:=by
 unfold fnX;by_cases h:ds.length=n
 ·rw[if_pos h,FC];exact⟨λq=>⟨h,q⟩,λq=>q.2⟩
 ·rw[if_neg h];exact⟨λq=>(EA.mp q).elim,λq=>(h q.1).elim⟩
theorem R3:Wp (T9 fs σ) G Q↔Wp (fs σ) G λxs G1=>xs.length<=zi/\Q (.tup xs) G1:=by
 unfold T9;simp only[f9];constructor
 ·rintro⟨xs,G1,e,q⟩;refine⟨xs,G1,e,?_⟩;by_cases h:xs.length<=zi
  ·rw[if_pos h]at q;exact⟨h,d8.mp q⟩
  ·rw[if_neg h]at q;exact(EA.mp q).elim
 ·rintro⟨xs,G1,e,h,q⟩;exact⟨xs,G1,e,by dsimp only;rw[if_pos h];exact d8.mpr q⟩
theorem OD:Wp (E1 fs σ) G Q↔Wp (fs σ) G λxs G1=>xs.length<=zi/\Q (.ref G1.length) (G1++[.lst xs]):=by
 unfold E1;simp only[f9];constructor
 ·rintro⟨xs,G1,e,q⟩;refine⟨xs,G1,e,?_⟩;by_cases h:xs.length<=zi
  ·rw[if_pos h]at q;exact⟨h,Q7.mp q⟩
  ·rw[if_neg h]at q;exact(EA.mp q).elim
 ·rintro⟨xs,G1,e,h,q⟩;exact⟨xs,G1,e,by dsimp only;rw[if_pos h];exact Q7.mpr q⟩
theorem j6:Wp (v4 σ) G P↔P (.nx σ) G:=d8
theorem d9:Wp (m5 f g σ) G P↔Wp (f σ) G λfl G1=>match fl with
 | .nx X1=>Wp (g X1) G1 P
 |r=>P r G1:=by
 delta m5;refine Iff.trans f9 ?_;constructor
 ·rintro⟨fl,G1,e,q⟩;refine⟨fl,G1,e,?_⟩
  cases fl<;>first
   |exact q
   |exact d8.mp q
 ·rintro⟨fl,G1,e,q⟩;refine⟨fl,G1,e,?_⟩
  cases fl<;>first
   |exact q
   |exact d8.mpr q
theorem lC:Wp (u9 a σ) G P↔Wp (a σ) G λd G1=>P (.rt d) G1:=by unfold u9;simp only[f9,d8]
theorem sB:Wp (A8 a σ) G P↔Wp (a σ) G λ_ G1=>P (.nx σ) G1:=by unfold A8;simp only[f9,d8]
theorem pF:Wp (ifS t f g σ) G P↔Wp (t σ) G λk G1=>if k=true then Wp (f σ) G1 P else Wp (g σ) G1 P:=by unfold ifS;simp only[f9,l9]
theorem N9:Wp (J4 a gg σ) G P↔Wp (a σ) G λd G1=>Wp (gg d σ) G1 λX1 G2=>P (.nx X1) G2:=by unfold J4;simp only[f9,d8]
theorem R8:Wp (O0 i d σ) G S↔S (σ.set i (some d)) G:=d8
theorem bD:Wp (m9 m f ds) G Q↔Wp (f (ds.map some++jE (m-ds.length) none)) G λfl G1=>match fl with
 | .nx _=>Q .non G1
 | .rt d=>Q d G1
 |_=>False:=by
 delta m9;refine Iff.trans f9 ?_;constructor
 ·rintro⟨fl,G1,e,q⟩;refine⟨fl,G1,e,?_⟩
  cases fl<;>first
   |exact d8.mp q
   |exact EA.mp q
 ·rintro⟨fl,G1,e,q⟩;refine⟨fl,G1,e,?_⟩
  cases fl<;>first
   |exact d8.mpr q
   |exact EA.mpr q
def iO(o:Option Bool)(g:Bool->Bool)(G:DH):Option (Except Str D×DH):=match o with
|some b=>some (.ok (.bl (g b)),G)
|none=>none
theorem WD{g:Bool->Bool}(h:m G=iO o g G):Wp m G Q↔∃k,o=some k/\Q (.bl (g k)) G:=by
 unfold Wp;rw[h];rcases o with _|k
 ·
   constructor
   ·rintro⟨_,_,e,_⟩;exact w6 e
   ·rintro⟨_,e,_⟩;exact w6 e
 ·
   constructor
   ·rintro⟨_,_,e,q⟩
    cases e
    exact⟨_,rfl,q⟩
   ·rintro⟨_,e,q⟩
    cases e
    exact⟨_,_,rfl,q⟩
theorem sA:Wp (eqD x y) G Q↔∃k,eqN 40 G x y=some k/\Q (.bl k) G:=WD rfl
theorem QK:Wp (neD x y) G Q↔∃k,eqN 40 G x y=some k/\Q (.bl (!k)) G:=WD rfl
theorem dM:Wp (ltD x y) G Q↔∃k,ltN 40 G x y=some k/\Q (.bl k) G:=WD rfl
end
end DL
namespace DL
open PySem PySem.Spec L2
open PyProof.Rows hiding St
section
theorem bV(hc:X.calm=true)(hi:DI X Z tg iter it)(k:d5 X scope N caps)
 (hg:∀C s H ex,DG (O8 X scope N C s H ex) ZF tg gg) (ht:∀C s H ex,DTs (O8 X scope N C s H ex) ZF ifs tt) (he:∀C s H ex,DE (O8 X scope N C s H ex) ZF elt fe)
 (hs:∀x,xc iter X.env x=pure x) (hgo:DG X Z (.Name y py) g2) (hsw:YT (.ListComp elt [⟨tg,iter,ifs,0⟩] scope pos) (some (.Name y py)) spos.line X.env=pure true):
 DS X Z (.Assign [.Name y py] (.ListComp elt [⟨tg,iter,ifs,0⟩] scope pos) spos) (J4 (U4 it caps gg tt fe) g2):=by
 refine⟨?_⟩;intro om s σ H En I ov;refine ov.elim λX9 μ G sr hr p0=>?_;obtain⟨Q,hQ,p⟩:∃Q:VK,(∀v H',Q v H'->CD (wc X) Z g2 v σ H' En.nx)/\c7 (wc X) Z μ H (U4 it caps gg tt fe X9 G) λd X2 _ H'=>∀v,d7 (wc X) X2 H' d v->Q v H':=
  ⟨λv H'=>CD (wc X) Z g2 v σ H' En.nx,λ_ _ z=>z,(c7.bind p0).mono λd X0 G1 H1 x' h1 p1 v rv=>⟨d,X9,X0,G1,rv,sr.mono x',h1,(c7.bind p1).mono λdσ2 WW G2 H2 x2 h2 p2 WG s2=>c7.ok p2 h2 WG s2⟩⟩
 rw[exec_Assign_Name_used _ _ _ _ hsw];refine za (xO (za ?_));show zq _ X.A (do let _ <-comprehension (.ListComp elt [⟨tg,iter,ifs,0⟩] scope pos) scope X.env _ (newList []) false (eval iter X.env) (some (YR (.Name y py) X.env))) _ _ s;refine za (jg (BQ hc hi k hg ht he hs I sr hr p λDD C s4 H' m o hn fin hCn hf q9=>?_) (λ_ s' hq=>zm (zm hq)) λ_ _ e=>e);have fC:∀ {H9:Hp},H9 C=none->∀b∈ [C],T0 X om H9 b:=λ{H9} hn9 b hb=>by rw[zt]at hb;subst hb;exact hf H9 hn9
 obtain⟨oC,zC1,zC2,hoC,zC3⟩:=id hn;have I5:=(fin s4.heap ⟨rfl,λ_ _=>rfl⟩).pinned (fC hCn) (λb hb=>by rw[zt]at hb;subst hb;exact⟨oC,hoC,λv z=>by first|(rw[zC3.1]at z;cases z)|(rw[zC3.2.1]at z;cases z)⟩)
 refine thn (hgo.h _ s4 σ H' (.ref DD) (.ref DD) _ I5 rfl (hQ _ _ q9)) λ_ s5 ⟨σ5,H5,I6,q6⟩=>?_;obtain⟨g5,g5n,_⟩:=I6.pin (C,oC) (zG _ (zG _ (V1 (by simp) hoC)));refine⟨m,hn.at' (λo e=>by rw[hoC]at e;cases e;exact g5),λh'' sb=>⟨σ5,H5,iJ I6.unpinned (fC g5n) λb o hb e=>(sb.2 b (by simpa using hb)).trans e,q6⟩⟩
end
def J1:List (Key×D)->Option (List Str)
|[]=>some []
|(.inr x,_)::r=>(J1 r).map (x :: ·)
|_=>none
section
theorem oM:∀ {l} {ss},J1 l=some ss->ss.length=l.length
|[],_,e=>by cases e;rfl
|(.inr x,_)::r,ss,e=>by
 replace e:=show (J1 r).map (_ :: ·)=some _ from e;rcases h:J1 r with _|t
 ·rw[h]at e;cases e
 ·rw[h]at e;cases e;simp[oM h]
|(.inl _,_)::_,_,e=>by cases e
theorem IP{w:zI}:∀ {l} {ss:List Str} {oq} {xs} {vs},J1 l=some ss->T8 c μ H l oq->KV oq xs->vs.length=xs.length->
 (∀(j:Nat) (v:ze),vs[j]? =some v->∃k x,xs[j]? =some (k,x)/\(O1 P w).is k v=true)->StrsAre vs ss
 |[],_,_,xs,vs,e,r,kv,hl,hv=>by
   cases e;cases r;cases kv
   rcases vs with _|⟨_,_⟩
   ·exact .nil
   ·simp at hl
 |(.inr x,d)::t,ss,oq,xs,vs,e,r,kv,hl,hv=>by
  replace e:=show (J1 t).map (_ :: ·)=some _ from e;rcases h:J1 t with _|q
  ·rw[h]at e;cases e
  ·
    rw[h]at e
    cases e
    obtain⟨v0,tl,rfl,r0,rt⟩:=r
    cases kv with
    |cons hk ht=>
      cases vs with
      |nil=>simp at hl
      |cons u us=>
        obtain⟨k,y,e1,e2⟩:=hv 0 u rfl;simp only[zK,jf]at e1;have hk1:(Sum.inr x:Key)=_:=hk.1;rw[e1]at hk1;have e3:bC (.inr x) u=true:=by rw[hk1];exact e2
        rcases K6 e3 with⟨_,_,z,_⟩|⟨x',t',z,eu⟩
        ·cases z
        ·cases z
         subst eu;exact .cons _ _ (IP h rt ht (by simpa using hl) λj v hj=>by simpa using hv (j+1) v (by simpa using hj))
 |(.inl _,_)::_,_,_,_,_,e,_,_,_,_=>by cases e
theorem bM:∀ {out} {ss},StrsAre out ss->∃vs,vs=ss.map V.str/\m6 vs out/\g8 c μ H (ss.map D.str) vs
|_,_,.nil=>⟨[],rfl,.nil,rfl⟩
|_,_,.cons x t q=>by obtain⟨vs,e,h1,h2⟩:=bM q;subst e;exact⟨_,rfl,.cons ⟨t,rfl⟩ h1,_,_,rfl,by unfold d7;rfl,h2⟩
end
def Its(z:Str):It:=⟨λi _=>∃c,z.cps[i]? =some c,λi H x H'=>H'=H/\∃c,z.cps[i]? =some c/\x= .str ⟨#[c]⟩,λi _=>z.cps[i]? =none⟩
theorem Hv{K:zc}(z:Str)(t:Tok)(it:Addr):P7 P w K tg (Its z) [it] it (λi h=>h.IsStrIter it "str_ascii_iterator" z t i) where
 mem:=by simp
 obj:=λi h st b hb=>by
  have e:b=it:=by simpa using hb
  subst e;obtain⟨o,e,c,d⟩:=st;exact⟨o,e,λv z=>by rw[d]at z;cases z⟩
 keep:=λi h h' st k=>let ⟨o,ho,r⟩:=st;⟨o,k it (by simp) o ho,r⟩
 item:=by intro X hP hw hK hc i om s σ H E I hf st hg;subst hP hw hK;obtain⟨c,hx⟩:=hg;obtain⟨f0,f1,f2,f3,f4,f5⟩:=hf it (by simp);refine wpAny_pyNext_ascii_item st hx λh' pc sb=>?_;have I1:Inv X om σ H {s with heap:=h',toks:=s.toks+1}:=I.turned (λb o hb e=>(sb.2 b hb).trans e) f0 f1 f3 f4 f5;obtain⟨o,e,cc,d⟩:=id pc;exact⟨_,rfl,cD e cc d (by decide) ⟨.str ⟨#[c]⟩,H,I1,⟨_,rfl⟩,⟨rfl,c,hx,rfl⟩,pc,λb hb=>(hf b hb).1⟩⟩
 done:=by intro X hP hw hK hc i om s σ H E I hf st hg;subst hP hw hK;obtain⟨f0,f1,f2,f3,f4,f5⟩:=hf it (by simp);exact wpAny_pyNext_ascii_end (I.ok.hd hc) st hg λh' eb=>⟨rfl,I.turned (λb o hb e=>eb b o hb e) f0 f1 f3 f4 f5⟩
 self:=λ_ _ _ _ _ st h=>wpAny_pyIter_striter_ascii st h
theorem oj{K:zc}(z:Str)(t:Tok)(it:Addr):P7 P w K tg (Its z) [it] it (λi h=>h.IsStrIter it "str_iterator" z t i) where
 mem:=by simp
 obj:=λi h st b hb=>by
  have e:b=it:=by simpa using hb
  subst e;obtain⟨o,e,c,d⟩:=st;exact⟨o,e,λv z=>by rw[d]at z;cases z⟩
 keep:=λi h h' st k=>let ⟨o,ho,r⟩:=st;⟨o,k it (by simp) o ho,r⟩
 item:=by intro X hP hw hK hc i om s σ H E I hf st hg;subst hP hw hK;obtain⟨c,hx⟩:=hg;obtain⟨f0,f1,f2,f3,f4,f5⟩:=hf it (by simp);refine wpAny_pyNext_wide_item st hx λh' pc sb=>?_;have I1:Inv X om σ H {s with heap:=h',toks:=s.toks+1}:=I.turned (λb o hb e=>(sb.2 b hb).trans e) f0 f1 f3 f4 f5;obtain⟨o,e,cc,d⟩:=id pc;exact⟨_,rfl,cD e cc d (by decide) ⟨.str ⟨#[c]⟩,H,I1,⟨_,rfl⟩,⟨rfl,c,hx,rfl⟩,pc,λb hb=>(hf b hb).1⟩⟩
 done:=by intro X hP hw hK hc i om s σ H E I hf st hg;subst hP hw hK;obtain⟨f0,f1,f2,f3,f4,f5⟩:=hf it (by simp);exact wpAny_pyNext_wide_end (I.ok.hd hc) st hg λh' eb=>⟨rfl,I.turned (λb o hb e=>eb b o hb e) f0 f1 f3 f4 f5⟩
 self:=λ_ _ _ _ _ st h=>wpAny_pyIter_striter_wide st h
section
def bL(z:Str):List D:=z.cps.toList.map λc=>.str ⟨#[c]⟩
def UG:D->M Src:=λx=>match x with
| .str z=>pure ⟨bL z,λ_=>true⟩
| .tup l=>Q2 (.tup l)
| .ref r=>Q2 (.ref r)
|_=>M.stuck
end
theorem cx{w:zI}{K:zc}{base:Heap}{CX:CXT}{k n:Nat}{f:Addr}(hn:ps.length=n):V2 P w K mg base CX k f fd ps (spD ⟨K,mg⟩ n λ_=>M.stuck):=
 ⟨λvs H Q E h=>by rw[hn];exact h.1,λA outer s H args us vs Q E hr=>by
  intros;rename_i h
  first
   |exact h.2.elim
   |(obtain⟨_,_,_,_,_,_,z⟩:=h;exact z.elim)⟩
end DL
namespace W
open PySem PySem.Spec L2 DL
open PyProof.Rows hiding St
def g7(G:DH)(d:D):Prop:=∃k,i7 G d=some k
theorem st1:([d].map some++jE n none:DSt)[0]? =some (some d):=by rfl
theorem VH{P:Bool->Prop}:(∃k,D.bl b= .bl k/\P k)↔P b:=⟨fun⟨k,e,p⟩=>by cases e;exact p,λp=>⟨b,rfl,p⟩⟩
theorem Q0{P:α->Prop}:(∃k,some b=some k/\P k)↔P b:=⟨fun⟨k,e,p⟩=>by cases e;exact p,λp=>⟨b,rfl,p⟩⟩
def pI:Option Int->D
|none=>.non
|some i=>.int i
theorem UA:Wp (gtD (.int i) (.int j)) G Q↔Q (.bl (decide (j<i))) G:=d8
theorem ix_tup:Wp (ixD (.tup l) (.int i)) G Q↔∃d,atI l i=some d/\Q d G:=g9
def F9:Nat->DH->D->Prop
|0,G,d=>g7 G d
|n+1,G,d=>g7 G d/\∀l,d= .tup l->∀x∈l,F9 n G x
theorem F9.there(h:F9 n G d):g7 G d:=by cases n;exact h;exact h.1
theorem M6:Wp (W5 (.bl b)) G B↔B b G:=d8
theorem TR:Wp (lenF [.tup l]) G Q↔Q (.int l.length) G:=d8
theorem TB:Wp (eqD (.int i) (.int j)) G Q↔Q (.bl (decide (i=j))) G:=by
 have e:eqN 40 G (.int i) (.int j)=some (decide (i=j)):=by rfl
 rw[sA,e];exact Q0
theorem C3(h:Wp m G λa G'=>a=x/\G'=G):m G=some (.ok x,G):=by obtain⟨a,G',e,e1,e2⟩:=h;subst e1 e2;exact e
theorem VO{g:Fg}{e:Fe}{G:DH}{I:DSt->Prop}(sk:ck G=true):∀items (σ:DSt),I σ->
 (∀d∈items,∀ σ,I σ->∃ WX,g d σ G=some (.ok WX,G)/\I WX/\t WX G=some (.ok true,G)/\e WX G=some (.ok (f d),G))->N5 g t e ck items σ G=some (.ok (items.map f),G)
 |[],σ,_,_=>by unfold N5;simp only[sk,if_true,List.map]
 |d::r,σ,i,h=>by obtain⟨WX,h1,i1,h2,h3⟩:=h d (by simp) σ i;have h4:=VO sk r WX i1 λd hd=>h d (by simp[hd]);unfold N5;simp only[sk,if_true];rw[M.bind_ok h1,M.bind_ok h2,if_pos rfl,M.bind_ok h3,M.bind_ok h4];rfl
theorem mz{it:DSt->M Src}{g:Fg}{e:Fe}{G:DH}{σ:DSt}{s:Src}(I:DSt->Prop)(hs:it σ G=some (.ok s,G))(hn:s.items.length<=zi)(sk:s.ck G=true)(hi:I (U2 caps σ))
 (h:∀d∈s.items,∀ σ,I σ->∃ WX,g d σ G=some (.ok WX,G)/\I WX/\t WX G=some (.ok true,G)/\e WX G=some (.ok (f d),G)):
 Wp (U4 it caps g t e σ) G Q↔Q (.ref G.length) (G++[.lst (s.items.map f)]):=by
 unfold U4;simp only[f9];rw[oD hs,if_pos hn];simp only[f9,FC];rw[oD (VO sk s.items _ hi h),Q7]
theorem fS:∀l:List α,c8 (l.map λx=>D.bl (f x))=some (l.map f)
|[]=>rfl
|a::r=>by show (c8 (r.map λx=>D.bl (f x))).map (f a :: ·)=_;rw[fS r];rfl
theorem Rf{l:List D}{Q:DPP}(h:G[r]? =some (.lst (l.map λx=>.bl (f x)))):Wp (KB [.ref r]) G Q↔Q (.bl (l.all f)) G:=by unfold KB;simp only[f9,O3,h,Q0,DL.listOf,d8,g9,fS];simp[JF,Zr]
theorem lt_int:Wp (ltD (.int i) (.int j)) G Q↔Q (.bl (decide (i<j))) G:=by
 have e:ltN 40 G (.int i) (.int j)=some (decide (i<j)):=by rfl
 rw[dM,e];exact Q0
theorem pD:Wp (addD (.int i) (.int j)) G Q↔Q (.int (i+j)) G:=d8
theorem gM(l:List D):DL.cutD l (some 1) none=l.drop 1:=by
 unfold DL.cutD;rw[HT.sIx_none,show (some (1:Int))=some ((1:Nat):Int)from rfl,HT.sIx_nat];rcases l with _|⟨a,r⟩
 ·rfl
 ·simp[zD]
section
theorem aC:Wp (A1 g b ck [] σ) G P↔ck G=true/\P (.nx σ) G:=by
 unfold A1;constructor
 ·rintro⟨a,G',e,q⟩;by_cases h:ck G=true
  ·simp only[h,if_true]at e;cases e;exact⟨h,q⟩
  ·simp only[h]at e;exact w6 e
 ·rintro⟨h,q⟩;exact⟨_,G,by simp only[h,if_true],q⟩
theorem GA:Wp (A1 g b ck (d::r) σ) G P↔ck G=true/\Wp (g d σ) G λWX G1=>Wp (b WX) G1 λfl G2=>match fl with
 | .nx X1=>Wp (A1 g b ck r X1) G2 P
 | .ct X1=>Wp (A1 g b ck r X1) G2 P
 | .bk X1=>P (.nx X1) G2
 | .rt d=>P (.rt d) G2:=by
 have e:Wp (A1 g b ck (d::r) σ) G P↔ck G=true/\Wp (do
  match <-b (<-g d σ) with
  | .nx X1=>A1 g b ck r X1
  | .ct X1=>A1 g b ck r X1
  | .bk X1=>pure (.nx X1)
  | .rt d=>pure (.rt d):M Fl) G P:=by
  rw[A1];constructor
  ·rintro⟨a,G',e,q⟩;by_cases h:ck G=true
   ·simp only[h,if_true]at e;exact⟨h,a,G',e,q⟩
   ·simp only[h]at e;exact w6 e
  ·rintro⟨h,a,G',e,q⟩;exact⟨a,G',by simp only[h,if_true];exact e,q⟩
 rw[e];simp only[f9];refine and_congr_right λ_=>?_;constructor
 ·rintro⟨WX,G1,e1,fl,G2,e2,q⟩;refine⟨WX,G1,e1,fl,G2,e2,?_⟩
  cases fl<;>first
   |exact q
   |exact d8.mp q
 ·rintro⟨WX,G1,e1,fl,G2,e2,q⟩;refine⟨WX,G1,e1,fl,G2,e2,?_⟩
  cases fl<;>first
   |exact q
   |exact d8.mpr q
theorem dD:Wp (F8 it g b σ) G P↔Wp (it σ) G λs G1=>Wp (A1 g b s.ck s.items σ) G1 P:=by unfold F8;simp only[f9]
end
theorem Lm:Wp (wB (.int i) (.int j)) G Q↔Q (.int (i-j)) G:=d8
theorem SY:Wp (neD (.int i) (.int j)) G Q↔Q (.bl (!decide (i=j))) G:=by
 have e:eqN 40 G (.int i) (.int j)=some (decide (i=j)):=by rfl
 rw[QK,e];exact Q0
theorem atI_nat{k:Nat}(h:l[k]? =some s):atI l (k:Int)=some s:=by
 have hk:k<l.length:=by
  by_cases hk:k<l.length
  ·exact hk
  ·rw[zO (by omega)]at h;exact w6 h
 unfold atI ixN;rw[if_pos (by omega),if_pos (by omega)];simpa using h
section
theorem Z1(h:0<j):Wp (t4 (.int i) (.int j)) G Q↔Q (.int (i % j)) G:=by have e:t4 (.int i) (.int j)=if 0<j then pure (.int (i % j))else M.stuck:=rfl;rw[e,if_pos h];exact d8
theorem gH(h:0<j/\j<2 ^ 100):Wp (LB (.int i) (.int j)) G Q↔Q (.int (i / j)) G:=by have e:LB (.int i) (.int j)=if KC i j then pure (.int (i / j))else M.stuck:=rfl;rw[e,if_pos (show KC i j from h)];exact d8
theorem gC(h:C7 i j):Wp (A5 (.int i) (.int j)) G Q↔Q (.int (i*j)) G:=by have e:A5 (.int i) (.int j)=if C7 i j then pure (.int (i*j))else M.stuck:=rfl;rw[e,if_pos h];exact d8
theorem OA{l:List D}(h:G[r]? =some (.lst l)):Wp (ixD (.ref r) (.int i)) G Q↔∃d,atI l i=some d/\Q d G:=by
 have e:ixD (.ref r) (.int i)= (do
  let l <-M7 r >>= DL.listOf
  Q1 (atI l i)):=rfl
 rw[e];simp only[f9,O3,h,Q0,DL.listOf,d8,g9]
end
def B6(G:DH)(r:Nat):Prop:=∃a b c e:Int,G[r]? =some (.lst [.int a,.int b,.int c,.int e])/\0<=b/\b<2 ^ 40
def Fr(r:Nat)(G G':DH):Prop:=G.length<=G'.length/\(∀i,i≠r->i<G.length->G'[i]? =G[i]?)/\B6 G' r
theorem B6.lt(h:B6 G r):r<G.length:=by
 obtain⟨a,b,c,e,hr,_⟩:=h;by_cases hi:r<G.length
 ·exact hi
 ·rw[zO (by omega)]at hr;exact w6 hr
theorem B6.app(h:B6 G r):B6 (G++t) r:=by have hl:=h.lt;obtain⟨a,b,c,e,hr,hb⟩:=h;exact⟨a,b,c,e,by rw[zA hl];exact hr,hb⟩
theorem Fr.refl(h:B6 G r):Fr r G G:=⟨zg _,λ_ _ _=>rfl,h⟩
theorem Fr.trans(h:Fr r G G1)(k:Fr r G1 G2):Fr r G G2:=
 ⟨jc h.1 k.1,λi hi hl=>by rw[k.2.1 i hi (by have:=h.1;omega),h.2.1 i hi hl],k.2.2⟩
theorem Fr.app(h:B6 G r):Fr r G (G++t):=⟨by simp,λi _ hl=>zA hl,h.app⟩
theorem Fr.set(h:B6 (G.set r o) r):Fr r G (G.set r o):=⟨by simp,λi hi hl=>by rw[jb (Ne.symm hi)],h⟩
theorem wU(h:kA i j):Wp (PD (.int i) (.int j)) G Q↔Q (.int (i ^ j.toNat)) G:=by have e:PD (.int i) (.int j)=if kA i j then pure (.int (i ^ j.toNat))else M.stuck:=rfl;rw[e,if_pos h];exact d8
theorem p18:Wp (PD (.int 10) (.int 18)) G Q↔Q (.int 1000000000000000000) G:=by rw[wU (by decide)];exact Iff.rfl
theorem ol:Wp (nG (.int i)) G Q↔Q (.int (-i)) G:=d8
theorem tU{l:List D}{k:Int}(h0:0<=k)(h1:k<l.length):∃d,d∈l/\atI l k=some d:=by
 obtain⟨n,rfl⟩:=yE h0;have hn:n<l.length:=by omega
 exact⟨l[n],List.getElem_mem hn,atI_nat (zr hn)⟩
theorem sz{l:List D}(h:Nat.ble l.length 100=true:=by rfl):l.length<=zi:=jc (Nat.le_of_ble_eq_true h) (by decide)
theorem Fr.lt(h:Fr r G G'):r<G'.length:=h.2.2.lt
theorem Fr.at(h:Fr r G G')(hp:p≠r)(e:G[p]? =some o):G'[p]? =some o:=by
 have hl:p<G.length:=by
  by_cases hi:p<G.length
  ·exact hi
  ·rw[zO (by omega)]at e;exact w6 e
 rw[h.2.1 p hp hl];exact e
theorem g7.fr(h:g7 G d)(f:Fr r G G'):g7 G' d:=by
 obtain⟨k,h⟩:=h;rcases d with _|_|_|_|_|i|_|_<;>try (exact⟨k,h⟩;done)
 ·
   delta i7 at h;dsimp only at h;by_cases hr:i=r
   ·subst hr;obtain⟨a,b,c,e,hh,_⟩:=f.2.2;exact⟨.list,by delta i7;dsimp only;rw[hh]⟩
   ·have hi:i<G.length:=by
     by_cases hi:i<G.length
     ·exact hi
     ·rw[zO (by omega)]at h;exact w6 h
    refine⟨k,?_⟩;delta i7;dsimp only;rw[f.2.1 i hr hi];exact h
theorem F9.fr(f:Fr r G G'):∀n {d},F9 n G d->F9 n G' d
|0,_,h=>g7.fr h f
|n+1,_,h=>⟨g7.fr h.1 f,λl e x hx=>F9.fr f n (h.2 l e x hx)⟩
theorem Hx{G t:DH}:(G++t)[G.length+k]? =t[k]? :=by rw[ye (by omega)];congr 1;omega
theorem sR{G t:DH}:(G++t)[G.length]? =t[0]? :=Hx (k:=0)
section
theorem aV:Wp (PC [.int i,.int j]) G Q↔Q (.int (if j<i then j else i)) G:=d8
theorem c9:Wp (mtE t m fo fs σ) G Q↔Wp (fo σ) G λx G1=>Wp (t x) G1 λ_ G2=>Wp (fs σ) G2 λxs G3=>Wp (m x xs) G3 Q:=by unfold mtE;simp only[f9]
theorem V0(h:G[r]? =some (.lst l)):Wp (S8 (.ref r)) G R↔R () G:=by delta S8;exact f9.trans ((O3.trans (by rw[h];exact Q0)).trans d8)
theorem vC{l:List D}(h:G[r]? =some (.lst l))(hl:l.length<zi):Wp (W4 (.ref r) [y]) G Q↔Q .non (G.set r (.lst (l++[y]))):=by
 have e:W4 (.ref r) [y]= (do
  let l <-lstM r
  if l.length<zi then do
   let _ <-rA r (.lst (l++[y]))
   pure .non
  else M.stuck):=rfl
 rw[e];unfold lstM;simp only[f9,O3,h,Q0,d8,hl,if_true,NS]
theorem Z5{l:List D}(h:G[r]? =some (.lst l)):Wp (d6 [.ref r]) G Q↔Q (.tup l) G:=by
 have e:d6 [.ref r]= (do
  let l <-M7 r >>= DL.listOf
  pure (.tup l)):=rfl
 rw[e];simp only[f9,O3,h,Q0,DL.listOf,d8]
theorem Cq:Wp (NA [.tup l]) G Q↔Q (.ref G.length) (G++[.lst l]):=Q7
theorem eK:Wp (KA fs σ) G R↔Wp (fs σ) G λxs G1=>Wp (match xs with
 |[.int j]=>if -(2 ^ 62)<=j/\j<2 ^ 62 then pure ⟨X6 0 j.toNat,λ_=>true⟩else M.stuck
 |_=>M.stuck:M Src) G1 R:=by
 delta KA;exact f9
theorem KH(h: -(2 ^ 62)<=j/\j<2 ^ 62):Wp (match [D.int j] with
 |[.int j]=>if -(2 ^ 62)<=j/\j<2 ^ 62 then pure ⟨X6 0 j.toNat,λ_=>true⟩else M.stuck
 |_=>M.stuck:M Src) G R↔R ⟨X6 0 j.toNat,λ_=>true⟩ G:=by
 show Wp (if -(2 ^ 62)<=j/\j<2 ^ 62 then pure ⟨X6 0 j.toNat,λ_=>true⟩else M.stuck:M Src) G R↔_;rw[if_pos h];exact d8
theorem sT{a b:List D}(ha:G[i]? =some (.lst a))(hb:G[j]? =some (.lst b))(hl:a.length+b.length<=zi):Wp (addD (.ref i) (.ref j)) G Q↔Q (.ref G.length) (G++[.lst (a++b)]):=by
 have e:addD (.ref i) (.ref j)= (do
  match <-M7 i,<-M7 j with
  | .lst a,.lst b=>if a.length+b.length<=zi then K7 (.lst (a++b))else M.stuck
  |_,_=>M.stuck):=rfl
 rw[e];simp only[f9,O3,ha,hb,Q0,if_pos hl,Q7]
theorem aO(hl:a.length+b.length<=zi):Wp (addD (.tup a) (.tup b)) G Q↔Q (.tup (a++b)) G:=by have e:addD (.tup a) (.tup b)=if a.length+b.length<=zi then pure (.tup (a++b))else M.stuck:=rfl;rw[e,if_pos hl];exact d8
theorem RH:Wp (J7 σ) G R↔R none G:=d8
theorem aK:Wp (J3 f σ) G R↔Wp (f σ) G λx G1=>∃i,x= .int i/\R (some i) G1:=by
 delta J3;refine Iff.trans f9 ?_;constructor
 ·rintro⟨x,G1,e,q⟩;refine⟨x,G1,e,?_⟩;rcases x with _|_|i|_|_|_|_|_<;>try (exact(EA.mp q).elim;done)
  ·exact⟨i,rfl,d8.mp q⟩
 ·rintro⟨x,G1,e,i,rfl,q⟩;exact⟨_,G1,e,d8.mpr q⟩
theorem sl_tup{lo hi:Option Int}:Wp (slD (.tup l) lo hi) G Q↔Q (.tup (DL.cutD l lo hi)) G:=d8
theorem Bd{P:Int->Prop}:(∃k,D.int i= .int k/\P k)↔P i:=⟨fun⟨k,e,p⟩=>by cases e;exact p,λp=>⟨i,rfl,p⟩⟩
end
def mD(d:D):Prop:=∃x y:Option Int,d= .tup [pI x,pI y]
def Fr2(r p:Nat)(G G':DH):Prop:=G.length<=G'.length/\(∀i,i≠r->i≠p->i<G.length->G'[i]? =G[i]?)/\B6 G' r
theorem Fr2.trans(h:Fr2 r p G G1)(k:Fr2 r p G1 G2):Fr2 r p G G2:=
 ⟨jc h.1 k.1,λi hi hp hl=>by rw[k.2.1 i hi hp (by have:=h.1;omega),h.2.1 i hi hp hl],k.2.2⟩
theorem Fr.two(h:Fr r G G1):Fr2 r p G G1:=⟨h.1,λi hi _ hl=>h.2.1 i hi hl,h.2.2⟩
theorem Fr2.set(hp:p≠r)(h:B6 G r):Fr2 r p G (G.set p o):=by refine⟨by simp,λi _ hi hl=>by rw[jb (Ne.symm hi)],?_⟩;obtain⟨a,b,c,e,hr,hb⟩:=h;exact⟨a,b,c,e,by rw[jb hp];exact hr,hb⟩
theorem mD.set{xs:List D}(h:∀d∈xs,mD d)(hd:mD d):∀x∈xs.set j d,mD x:=λx hx=>by
 rcases List.mem_or_eq_of_mem_set hx with hx|rfl
 ·exact h x hx
 ·exact hd
theorem o4{G:DH}:(G++[o])[G.length]? =some o:=sR
theorem U0{G t:DH}{p:Nat}(e:G[p]? =some o):(G++t)[p]? =some o:=by
 have pj:p<G.length:=by
  by_cases hi:p<G.length
  ·exact hi
  ·rw[zO (by omega)]at e;exact w6 e
 rw[zA pj];exact e
def okD:D->Bool
| .non=>true
| .bl _=>true
| .int _=>true
| .str _=>true
| .tup _=>true
|_=>false
theorem Tc(x:Option Int):okD (pI x)=true:=by cases x<;>rfl
theorem Pk(h:okD d=true):g7 G d:=by
 cases d<;>first|exact⟨_,rfl⟩|exact sE h
theorem lY(h:∀x∈l,okD x=true):F9 1 G (.tup l):=⟨⟨_,rfl⟩,λl' e x hx=>by cases e;exact Pk (h x hx)⟩
theorem mD.there(h:mD d):F9 1 G d:=by
 obtain⟨x,y,rfl⟩:=h;exact lY λz hz=>by simp only[zk,jm,or_false]at hz;rcases hz with rfl|rfl<;>exact Tc _
def Gr(G G':DH):Prop:=G.length<=G'.length/\∀i,i<G.length->G'[i]? =G[i]?
theorem Gr.refl:Gr G G:=⟨zg _,λ_ _=>rfl⟩
theorem Gr.trans(h:Gr G G1)(k:Gr G1 G2):Gr G G2:=⟨jc h.1 k.1,λi hi=>by rw[k.2 i (by have:=h.1;omega),h.2 i hi]⟩
theorem Gr.app:Gr G (G++t):=⟨by simp,λi hi=>zA hi⟩
theorem Gr.of(h:Gr G G1)(f:Fr r G1 G2)(hr:G.length<=r):Gr G G2:=⟨jc h.1 f.1,λi hi=>by rw[f.2.1 i (by omega) (by have:=h.1;omega),h.2 i hi]⟩
theorem Gr.at{p:Nat}(h:Gr G G')(e:G[p]? =some o):G'[p]? =some o:=by
 have hl:p<G.length:=by
  by_cases hi:p<G.length
  ·exact hi
  ·rw[zO (by omega)]at e;cases e
 rw[h.2 p hl];exact e
theorem FI{σ:DSt}{l:List D}{R:Src->DH->Prop}(e:G[p]? =some (.lst l)):Wp (Q2 (.ref p)) G R↔R ⟨l,ckO p (.lst l)⟩ G:=by
 have h:Q2 (.ref p)= (do
  let o <-M7 p
  let l <-DL.listOf o
  pure ⟨l,ckO p o⟩):=rfl
 rw[h];simp only[f9,O3,e,Q0,DL.listOf,d8]
section
theorem qL:Wp (nF o o' a b c σ) G Q↔Wp (a σ) G λx G1=>Wp (b σ) G1 λy G2=>Wp (o x y) G2 λz G3=>∃k,z= .bl k/\if k=true then Wp (c σ) G3 λw G4=>Wp (o' y w) G4 Q else Q (.bl false) G3:=by unfold nF;simp only[f9,RJ,l9,d8]
theorem gA:Wp (N5 g t e ck [] σ) G R↔ck G=true/\R [] G:=by
 unfold N5;constructor
 ·rintro⟨a,G',e,q⟩;by_cases h:ck G=true
  ·simp only[h,if_true]at e;cases e;exact⟨h,q⟩
  ·simp only[h]at e;exact w6 e
 ·rintro⟨h,q⟩;exact⟨_,G,by simp only[h,if_true],q⟩
theorem mF:Wp (N5 g t e ck (d::r) σ) G R↔ck G=true/\Wp (g d σ) G λWX G1=>Wp (t WX) G1 λb G2=>if b=true then Wp (e WX) G2 λy G3=>Wp (N5 g t e ck r WX) G3 λys G4=>R (y::ys) G4 else Wp (N5 g t e ck r WX) G2 R:=by
 have h0:Wp (N5 g t e ck (d::r) σ) G R↔ck G=true/\Wp (do
  let WX <-g d σ
  if <-t WX then do
   let y <-e WX
   let ys <-N5 g t e ck r WX
   pure (y::ys)
  else N5 g t e ck r WX:M (List D)) G R:=by
  rw[N5];constructor
  ·rintro⟨a,G',e,q⟩;by_cases h:ck G=true
   ·simp only[h,if_true]at e;exact⟨h,a,G',e,q⟩
   ·simp only[h]at e;exact w6 e
  ·rintro⟨h,a,G',e,q⟩;exact⟨a,G',by simp only[h,if_true];exact e,q⟩
 rw[h0];simp only[f9,l9,d8]
theorem wp_comp:Wp (U4 it caps g t e σ) G Q↔Wp (it σ) G λs G1=>s.items.length<=zi/\Wp (N5 g t e s.ck s.items (U2 caps σ)) G1 λys G2=>Q (.ref G2.length) (G2++[.lst ys]):=by
 unfold U4;simp only[f9];constructor
 ·rintro⟨s,G1,e1,q⟩;refine⟨s,G1,e1,?_⟩;by_cases h:s.items.length<=zi
  ·rw[if_pos h]at q;simp only[f9,FC,Q7]at q;exact⟨h,q⟩
  ·rw[if_neg h]at q;exact(EA.mp q).elim
 ·rintro⟨s,G1,e1,h,q⟩;refine⟨s,G1,e1,?_⟩;dsimp only;rw[if_pos h];simp only[f9,FC,Q7];exact q
theorem eS:Wp (eqD (.str a) (.str b)) G Q↔Q (.bl (a==b)) G:=by
 have e:eqN 40 G (.str a) (.str b)=some (a==b):=by rfl
 rw[sA,e];exact Q0
theorem eX:Wp (leD (.str a) (.str b)) G Q↔Q (.bl (!decide (b.cps.toList<a.cps.toList))) G:=d8
theorem VU(h:a.length+b.length<=zi):Wp (addD (.str a) (.str b)) G Q↔Q (.str (a++b)) G:=by have e:addD (.str a) (.str b)=if a.length+b.length<=zi then pure (.str (a++b))else M.stuck:=rfl;rw[e,if_pos h];exact d8
theorem VD(h:z.length<=zi):Wp (lenF [.str z]) G Q↔Q (.int z.length) G:=by have e:lenF [.str z]=if z.length<=zi then pure (.int z.length)else M.stuck:=rfl;rw[e,if_pos h];exact d8
theorem wf:Wp (inD x y) G Q↔∃k,inB x y G=some k/\Q (.bl k) G:=WD (by unfold inD iO;cases inB x y G<;>rfl)
theorem GX(e:G[p]? =some (.lst l)):Wp (UG (.ref p)) G R↔R ⟨l,ckO p (.lst l)⟩ G:=FI (σ:= []) e
end
def CQ(c:Nat):Bool:=decide (97<=c)&&decide (c<=122)
def EQ(z:Str):Bool:=z.cps.toList.all CQ
end W
namespace DL
open PySem PySem.Spec L2
open PyProof.Rows hiding St
section
end
end DL
namespace DL
open PySem PySem.Spec L2 Builtin Builtin.Str
open PyProof.Rows hiding St
section
variable{X:Cx}{Z:XC}{e:Expr}{fa:Fe}{p2 pos:Pos}{lo hi:Option Expr}{fl fh:Fo}
theorem MS(p:IsPart v o):∃l:Option (Int×Tok),v=partValue l/\l.map (·.1)=o:=by
 cases p with
 |none=>exact⟨none,rfl,rfl⟩
 |int i t=>exact⟨some (i,t),rfl,rfl⟩
theorem nv:SlR X (λx lo hi H Q=>∃z,x= .str z/\z.length<=zi/\Q (.str (Zt z lo hi)) H):=by
 intro om s σ H x v vl vu lo hi sl Q I rx hs pl pu h;obtain⟨z,rfl,hz,q⟩:=h;obtain⟨t,rfl⟩:=rx;obtain⟨l,el,eml⟩:=MS pl;obtain⟨u,eu,emu⟩:=MS pu;subst el eu eml emu;refine⟨"str",_,PySem.F.slot_str_getitem.lookup,Xs _ z t,?_⟩;refine wpAny_getItem_str_slice (st:=none) (let ⟨o,h1,h2,h3⟩:=hs;⟨o,h1,h2,h3⟩) rfl ?_;unfold sliceMade;unfold Zt at q;unfold slicePicked;have e1:((Option.map (λx:Int×Tok=>x.1) none).getD 1)= (1:Int):=rfl;simp only[e1];by_cases hc:((1:Int)==1&&(strSliceIndices (l.map (·.1)) (u.map (·.1)) 1 z.length).length==z.length)=true
 ·rw[if_pos hc]at q;rw[if_pos hc];exact⟨.str z,H,I,⟨t,rfl⟩,q⟩
 ·rw[if_neg hc]at q;rw[if_neg hc];refine⟨?_,.str _,H,I.tok _,⟨_,rfl⟩,q⟩;have hle:=Txt.slice_le z (l.map (·.1)) (u.map (·.1));unfold Zt at hle;rw[if_neg hc]at hle;exact jc hle hz
def slT:D->Option Int->Option Int->M D:=λx lo hi=>match x with
| .str z=>if z.length<=zi then pure (.str (Zt z lo hi))else M.stuck
| .tup l=>slD (.tup l) lo hi
| .ref r=>slD (.ref r) lo hi
|_=>M.stuck
def J5(f:Fe)(lo hi:Fo):Fe:=λσ=>do
 let x <-f σ
 let l <-lo σ
 let h <-hi σ
 slT x l h
theorem NY:SlD X Z slT:=SlR.mono (nv.or (LU)) λx lo hi H Q ⟨dx,μ,G,rx,hr,p⟩=>by
 rcases dx with _|_|_|z|l|r|_|_<;>try (exact p.elim;done)
 ·
   unfold slT at p;dsimp only at p;split at p
   ·rename_i hz;exact .inl ⟨z,S1 rx,hz,c7.ok p hr _ (by unfold d7;rfl)⟩
   ·exact p.elim
 ·exact .inr ⟨.tup l,μ,G,rx,hr,p⟩
 ·exact .inr ⟨.ref r,μ,G,rx,hr,p⟩
theorem nZ(he:DE X Z e fa)(hl:DOp X Z lo fl)(hu:DOp X Z hi fh):DE X Z (.Subscript e (.Slice lo hi none p2) pos) (J5 fa fl fh):=
 DE.of (Pc NY he.h hl.h hu.h) λσ H Q ov=>ov.elim λX9 μ G s h p=>⟨X9,μ,G,s,h,(c7.bind p).mono λd X0 G1 H1 x1 h1 p1 v rv=>
  ⟨X9,X0,G1,s.mono x1,h1,(c7.bind p1).mono λl WW G2 H2 x2 h2 p2=>⟨X9,WW,G2,s.mono (x1.trans x2),h2,(c7.bind p2).mono λu WJ G3 H3 x3 h3 p3=>⟨d,WJ,G3,rv.mono (x2.trans x3),h3,p3⟩⟩⟩⟩
end
section
end
end DL
namespace W
open PySem PySem.Spec L2 DL Builtin Builtin.Str
open PyProof.Rows hiding St
section
theorem TC{lo hi:Fo}:Wp (J5 f lo hi σ) G Q↔Wp (f σ) G λx G1=>Wp (lo σ) G1 λl G2=>Wp (hi σ) G2 λh G3=>Wp (slT x l h) G3 Q:=by unfold J5;simp only[f9]
theorem RK{lo hi:Option Int}(h:z.length<=zi):Wp (slT (.str z) lo hi) G Q↔Q (.str (Zt z lo hi)) G:=by have e:slT (.str z) lo hi=if z.length<=zi then pure (.str (Zt z lo hi))else M.stuck:=rfl;rw[e,if_pos h];exact d8
end
end W
namespace DL
open PySem PySem.Spec L2
open PyProof.Rows hiding St
def P2:D->D->M D:=λx y=>match y with
| .non=>pure (.bl (TK x))
| .bl c=>match x with
  | .bl d=>pure (.bl (d==c))
  |_=>M.stuck
|_=>M.stuck
def n9:D->D->M D:=λx y=>match y with
| .non=>pure (.bl (!TK x))
| .bl c=>match x with
  | .bl d=>pure (.bl (d != c))
  |_=>M.stuck
|_=>M.stuck
def rC(a b:Fe):Fe:=λσ=>do
 let x <-a σ
 if <-W5 x then pure x else b σ
def W6(a b:Fe):Fe:=λσ=>do
 let x <-a σ
 if <-W5 x then b σ else pure x
section
theorem Pb:OpR X (zM .Is) (λx y H Q=>(y= .non/\Q (.bl (decide (x= .non))) H)\/∃c d,x= .bl c/\y= .bl d/\Q (.bl (c==d)) H):=by
 intro om s σ H x y v u Q I rx ry h;rcases h with h|⟨c,d,rfl,rfl,q⟩
 ·exact ae om s σ H x y v u Q I rx ry h
 ·cases rx
  cases ry
  exact is_bool ⟨.bl (c==d),H,I,rfl,q⟩
theorem km:OpR X (zM .IsNot) (λx y H Q=>(y= .non/\Q (.bl (!decide (x= .non))) H)\/∃c d,x= .bl c/\y= .bl d/\Q (.bl (c != d)) H):=by
 intro om s σ H x y v u Q I rx ry h;rcases h with h|⟨c,d,rfl,rfl,q⟩
 ·exact Rv om s σ H x y v u Q I rx ry h
 ·cases rx
  cases ry
  exact isnot_bool ⟨.bl (c != d),H,I,rfl,q⟩
theorem oh:OpD X Z (zM .Is) P2:=OpD.of Pb λx y H Q ov=>ov.elim λdx dy μ G qa qe hr p=>by
 rcases dy with _|d|_|_|_|_|_|_<;>try (exact p.elim;done)
 ·exact .inl ⟨HE qe,by rw[RL qa];exact c7.ok p hr _ ofB⟩
 ·
   rcases dx with _|c|_|_|_|_|_|_<;>try (exact p.elim;done)
   ·exact .inr ⟨c,d,L6 qa,L6 qe,c7.ok p hr _ ofB⟩
theorem oY:OpD X Z (zM .IsNot) n9:=OpD.of km λx y H Q ov=>ov.elim λdx dy μ G qa qe hr p=>by
 rcases dy with _|d|_|_|_|_|_|_<;>try (exact p.elim;done)
 ·exact .inl ⟨HE qe,by rw[RL qa];exact c7.ok p hr _ ofB⟩
 ·
   rcases dx with _|c|_|_|_|_|_|_<;>try (exact p.elim;done)
   ·exact .inr ⟨c,d,L6 qa,L6 qe,c7.ok p hr _ ofB⟩
theorem nR{G:DH}{d:D}{v:V}{f:Bool->M α}{K:α->List Addr->DH->Hp->Prop}(h:j9 (wc X) μ G H)(rv:d7 (wc X) μ H d v)(p:c7 (wc X) Z μ H ((W5 d >>= f) G) K):
 ∃k,PK X.K v H k/\c7 (wc X) Z μ H (f k G) K:=by
 have p1:=c7.bind p;rcases d with _|b|b|y|l|r|_|_<;>try (exact p1.elim;done)
 ·rw[HE rv];exact⟨false,rfl,c7.ok p1 h⟩
 ·rw[L6 rv];exact⟨b,rfl,c7.ok p1 h⟩
 ·rw[W0 rv];exact⟨_,rfl,c7.ok p1 h⟩
 ·
   rw[S1 rv];unfold W5 at p1;dsimp only at p1;split at p1
   ·rename_i hz;exact⟨_,⟨hz,rfl⟩,c7.ok p1 h⟩
   ·exact p1.elim
 ·
   unfold d7 at rv;obtain⟨a,vs,rfl,q,rl⟩:=rv;exact⟨!vs.isEmpty,.inr (.inl ⟨vs,q,rfl⟩),by rw[Z9 rl];exact c7.ok p1 h⟩
 ·
   unfold d7 at rv;obtain⟨a,m,rfl⟩:=rv;obtain⟨o,g,p2⟩:=Q5 p1;have ro:=h.obj r o a g m;rcases o with l|l|l|l
   ·obtain⟨vs,q,rl⟩:=ro;exact⟨!vs.isEmpty,.inl ⟨vs,SqL.of q,rfl⟩,by rw[Z9 rl];exact c7.ok p2 h⟩
   ·obtain⟨vs,q,rl⟩:=ro;exact⟨!vs.isEmpty,.inl ⟨vs,q.sq,rfl⟩,by rw[Z9 rl];exact c7.ok p2 h⟩
   ·obtain⟨vs,q,rl⟩:=ro;exact⟨!vs.isEmpty,.inr (.inr ⟨vs,q,rfl⟩),by rw[KN rl];exact c7.ok p2 h⟩
   ·exact p2.elim
theorem Tg{rest:List Expr}(ha:DE X Z a fa)(hb:DE X Z (.BoolOp .Or (b::rest) pos) fb):DE X Z (.BoolOp .Or (a::b::rest) pos) (rC fa fb):=by
 refine⟨?_⟩;intro om s σ H Q I ov;refine ov.elim λX9 μ G sr h p=>?_;refine BoolOp_or (thn (ha.h om s σ H _ I ⟨X9,μ,G,sr,h,(c7.bind p).mono λd X0 G1 H1 x1 h1 p1 v rv=>(⟨d,X0,G1,x1,rv,h1,p1⟩:∃d X0 G1,Ext μ H X0 H1/\d7 (wc X) X0 H1 d v/\j9 (wc X) X0 G1 H1/\c7 (wc X) Z X0 H1 ((W5 d >>= λk=>if k=true then pure d else fb X9) G1) λd X2 _ H'=>∀v,d7 (wc X) X2 H' d v->Q v H')⟩) λv s1 ⟨x,H1,I1,r1,d,X0,G1,x1,rd,h1,p1⟩=>?_);obtain⟨k,tk,p2⟩:=nR h1 rd p1;refine thn (QI om s1 σ H1 x v (λc H'=>c=k/\H'=H1) I1 r1 ⟨k,tk,rfl,rfl⟩) λc s2 ⟨H2,I2,e1,e2⟩=>?_;subst e1 e2;rcases c with _|_
 ·exact hb.h om s2 σ H2 Q I2 ⟨X9,X0,G1,sr.mono x1,h1,p2⟩
 ·exact⟨x,H2,I2,r1,c7.ok p2 h1 _ rd⟩
theorem tZ{rest:List Expr}(ha:DE X Z a fa)(hb:DE X Z (.BoolOp .And (b::rest) pos) fb):DE X Z (.BoolOp .And (a::b::rest) pos) (W6 fa fb):=by
 refine⟨?_⟩;intro om s σ H Q I ov;refine ov.elim λX9 μ G sr h p=>?_;refine BoolOp_and (thn (ha.h om s σ H _ I ⟨X9,μ,G,sr,h,(c7.bind p).mono λd X0 G1 H1 x1 h1 p1 v rv=>(⟨d,X0,G1,x1,rv,h1,p1⟩:∃d X0 G1,Ext μ H X0 H1/\d7 (wc X) X0 H1 d v/\j9 (wc X) X0 G1 H1/\c7 (wc X) Z X0 H1 ((W5 d >>= λk=>if k=true then fb X9 else pure d) G1) λd X2 _ H'=>∀v,d7 (wc X) X2 H' d v->Q v H')⟩) λv s1 ⟨x,H1,I1,r1,d,X0,G1,x1,rd,h1,p1⟩=>?_);obtain⟨k,tk,p2⟩:=nR h1 rd p1;refine thn (QI om s1 σ H1 x v (λc H'=>c=k/\H'=H1) I1 r1 ⟨k,tk,rfl,rfl⟩) λc s2 ⟨H2,I2,e1,e2⟩=>?_;subst e1 e2;rcases c with _|_
 ·exact⟨x,H2,I2,r1,c7.ok p2 h1 _ rd⟩
 ·exact hb.h om s2 σ H2 Q I2 ⟨X9,X0,G1,sr.mono x1,h1,p2⟩
end
end DL
namespace W
open PySem PySem.Spec L2 DL
open PyProof.Rows hiding St
section
theorem GH:Wp (rC a b σ) G Q↔Wp (a σ) G λx G1=>Wp (W5 x) G1 λk G2=>if k=true then Q x G2 else Wp (b σ) G2 Q:=by unfold rC;simp only[f9,l9,d8]
theorem nH:Wp (W6 a b σ) G Q↔Wp (a σ) G λx G1=>Wp (W5 x) G1 λk G2=>if k=true then Wp (b σ) G2 Q else Q x G2:=by unfold W6;simp only[f9,l9,d8]
end
end W
namespace DL
open PySem PySem.Spec L2
open PyProof.Rows hiding St
structure Q6(F:List D->M D)(n:Nat)(x:Str)(P:zB)(w:zI)(K:zc)(mg:Str->Option ze)(base:Heap)(k:Nat):Prop where
 ex:∃f fd ps,V2 P w K mg base CX0 k f fd ps (spD ⟨K,mg⟩ n F)/\mg x=some (.ref f)/\jU K (.ref f)=true/\y4 K fd ps []
theorem Q6.of{P:zB}{w:zI}{K:zc}{base:Heap}{k n:Nat}{x:Str}{st:Stmt}{f:Addr}(c:FF K mg x st ps f fd)(h:V2 P w K mg base CX0 k f fd ps (spD ⟨K,mg⟩ n F)):Q6 F n x P w K mg base k:=
 ⟨f,fd,ps,h,c.m,c.F.kp,c.b⟩
def bltL:List Str:= ["len", "isinstance", "all", "any", "sum", "min", "max", "abs", "sorted", "tuple", "list", "int", "str", "bool", "dict", "zip", "enumerate", "range", "reversed", "set"]
structure BLs(mg:Str->Option ze):Prop where
 h:∀b∈bltL,mg b=none
theorem M5:(yo p l).any (·.1)=l.any (·.1):=by unfold yo;rw[List.any_map];rfl
theorem Q3:∀ {es},es.all J9=true->(zC es env).any (·.1)=false
|[],_=>rfl
|e::es,h=>by rw[jC,zS]at h;rw[N0 h.1,yt,Q3 h.2];rfl
section
theorem Gh(hN:∃N ps sc,M4 N ps sc/\X.N=N)(hi:X.N[i]? =some x)(hx:Loc X.env.scope x)(hf:X.fn x=true\/X.env.scope.names.lookup x=some .local):DG X Z (.Name x pos) (O0 i):=by obtain⟨N,ps,sc,S,e⟩:=hN;exact bS (by rw[e];exact S.nd) hi hx hf
theorem UX(ha:DE X Z e fa)(hr:DA X Z es fs)(hs:J9 e=true):DA X Z (e::es) (C0 fa fs):=GM ha hr (N0 hs)
theorem uU(hF:∃k kk,Q6 F n x X.prog X.w X.K X.mg X.base k/\K8 kk X.A/\k<=kk)(hg:Gl X x)(ha:DA X Z (e::es) fs)(hdb:(x==("__debug__" :Str))=false)(hs:(e::es).all J9=true):
 DE X Z (.Call (.Name x p) (e::es) [] pos) (D0 (fnX n F) fs):=by
 obtain⟨k,kk,hF,hr,hk⟩:=hF;obtain⟨f,fd,ps,h1,h2,h3,h4⟩:=hF.ex;rw[jC,zS]at hs;exact HZ h1 (hr.mono hk) hg h2 h3 h4 ha hdb (N0 hs.1) (by rw[M5];exact Q3 hs.2)
structure BD(F:List D->M D)(x:Str)(X:Cx)(Z:XC):Prop where
 ex:(∃id,R9 X Z (.builtin id) F/\zU x=some (.builtin id))\/(∃T,R9 X Z (.type T) F/\zU x=some (.type T))
theorem BV(hc:X.calm=true)(hF:X.calm=true->BD F x X Z)(hb:BLs X.mg)(hx:bltL.elem x=true)(hg:Gl X x)(ha:DA X Z (e::es) fs)(hn:x≠ "__name__")(hdb:(x==("__debug__" :Str))=false)(hs:(e::es).all J9=true):
 DE X Z (.Call (.Name x p) (e::es) [] pos) (D0 F fs):=by
 have hm:=hb.h x (List.elem_iff.mp hx);rw[jC,zS]at hs;rcases (hF hc).ex with⟨id,h1,h2⟩|⟨T,h1,h2⟩
 ·exact vT h1 hg hm h2 ha hn hdb (N0 hs.1) (by rw[M5];exact Q3 hs.2)
 ·exact Mj h1 hg hm h2 ha hn hdb (N0 hs.1) (by rw[M5];exact Q3 hs.2)
theorem GZ(_:X.calm=true):BD lenF "len" X Z:=⟨.inl ⟨_,Bw,vv⟩⟩
theorem Dq(_:X.calm=true):BD P0 "isinstance" X Z:=⟨.inl ⟨_,lT,FJ⟩⟩
theorem fW(h:X.calm=true):BD KB "all" X Z:=⟨.inl ⟨_,hZ h,Hq⟩⟩
theorem KW(h:X.calm=true):BD RE "any" X Z:=⟨.inl ⟨_,ng h,nY⟩⟩
theorem KU(h:X.calm=true):BD PC "min" X Z:=⟨.inl ⟨_,Mf h,CZ⟩⟩
theorem bq(_:X.calm=true):BD gF "abs" X Z:=⟨.inl ⟨_,QX,QV⟩⟩
theorem gX(_:X.calm=true):BD d6 "tuple" X Z:=⟨.inr ⟨_,ai,cz⟩⟩
theorem Tv(_:X.calm=true):BD NA "list" X Z:=⟨.inr ⟨_,Dh,SU⟩⟩
theorem NV:∀n∈ ["int", "bool", "str", "tuple", "list", "dict"],zU (yw n)=some (.type n):=by decide +kernel
theorem Dw(hb:BLs X.mg)(hn:n∈ ["int", "bool", "str", "tuple", "list", "dict"])(hx:bltL.elem (yw n)=true)(hg:Gl X (yw n))(hnn:yw n≠ "__name__")(hd:(yw n==("__debug__" :Str))=false):DE X Z (.Name (yw n) pos) (cE (.ty n)):=
 rX hg (hb.h _ (List.elem_iff.mp hx)) (NV n hn) hnn hd
theorem ny(hb:BLs X.mg)(hg:Gl X "range")(ha:DA X Z [a] fs)(hs:J9 a=true):DI X Z tg (.Call (.Name "range" p) [a] [] pos) (KA fs):=Kj hg (hb.h _ (by decide +kernel)) ha (RG hs)
theorem Bc(hb:BLs X.mg)(hg:Gl X "zip")(ha:DA X Z [a,b] fs)(hs:J9 a=true)(hs2:J9 b=true):DI X Z (.Tuple es1 x1 tp) (.Call (.Name "zip" p) [a,b] [] pos) (l5 fs):=Bv hg (hb.h _ (by decide +kernel)) ha (Kf hs hs2) (RG hs2) kW
def L5(sc:Scope):List Str:=(sc.names.filterMap λy=>if y.2 == .local&&y.1 != (".0" :Str)then some y.1 else none)++(sc.names.filterMap λy=>if y.2 == .free then some y.1 else none)
theorem qv(hc:X.calm=true)(hi:DI X Z tg iter it)(k:∃XN ps osc,M4 XN ps osc/\X.env.scope=osc/\X.N=XN/\AF osc scope (L5 scope) XN caps=true)(nd:(L5 scope).Nodup)
 (hg:(L5 scope).Nodup->∀C s H ex,DG (O8 X scope (L5 scope) C s H ex) ZF tg gg) (ht:∀C s H ex,DTs (O8 X scope (L5 scope) C s H ex) ZF ifs tt) (he:∀C s H ex,DE (O8 X scope (L5 scope) C s H ex) ZF elt fe)
 (hf:∀x,xc iter X.env x=pure x):DE X Z (.ListComp elt [⟨tg,iter,ifs,0⟩] scope pos) (U4 it caps gg tt fe):=let ⟨_,_,_,_,hs,hN,k⟩:=k;ni hc hi (d5.of k hs hN) (hg nd) ht he hf
theorem Gd(hc:X.calm=true)(hi:DI X Z tg iter it)(k:∃XN ps osc,M4 XN ps osc/\X.env.scope=osc/\X.N=XN/\AF osc scope (L5 scope) XN caps=true)(nd:(L5 scope).Nodup)
 (hg:(L5 scope).Nodup->∀C s H ex,DG (O8 X scope (L5 scope) C s H ex) ZF tg gg) (ht:∀C s H ex,DTs (O8 X scope (L5 scope) C s H ex) ZF ifs tt) (he:∀C s H ex,DE (O8 X scope (L5 scope) C s H ex) ZF elt fe)
 (hf:∀x,xc iter X.env x=pure x) (hgo:DG X Z (.Name y py) g2) (hsw:YT (.ListComp elt [⟨tg,iter,ifs,0⟩] scope pos) (some (.Name y py)) spos.line X.env=pure true):
 DS X Z (.Assign [.Name y py] (.ListComp elt [⟨tg,iter,ifs,0⟩] scope pos) spos) (J4 (U4 it caps gg tt fe) g2):=let ⟨_,_,_,_,hs,hN,k⟩:=k;bV hc hi (d5.of k hs hN) (hg nd) ht he hf hgo hsw
end
end DL
namespace W
open PySem PySem.Spec L2 DL
open PyProof.Rows hiding St
section
end
end W
namespace DL
open PySem PySem.Spec L2
open PyProof.Rows hiding St
def Itd(a:Addr)(o:Obj)(oq:List (Key×V)):It:=
 ⟨λi H=>H a=some (.frz o (.dK oq))/\∃kv,oq[i]? =some kv,λi H x H'=>H'=H/\∃kv,oq[i]? =some kv/\x=kV kv.1,λi H=>H a=some (.frz o (.dK oq))/\oq.length<=i⟩
theorem VP:∀ {oq} {vs} {i:Nat} {kv:κ×V},KV oq vs->oq[i]? =some kv->∃v,vs[i]? =some (kv.1,v)
|_,_,_,_,.nil,e=>by simp at e
|_,_,0,_,.cons h t,e=>by simp only[zK,jf]at e;subst e;exact⟨_,by rw[zK,h.1]⟩
|_,_,i+1,_,.cons h t,e=>by simp only[jt]at e ⊢;exact VP t e
theorem dz(h:(O1 P w).is k u=true):u5 (kV k) u:=by
 rcases K6 h with⟨i,t,rfl,rfl⟩|⟨x,t,rfl,rfl⟩
 ·exact⟨t,rfl⟩
 ·exact⟨t,rfl⟩
theorem qO(I:Inv X om σ H s)(ho:o.data= .dict es ep)(e:H a=some (.frz o (.dK oq))):
 (a==xU)=false/\∃vs,KV oq vs/\s.heap.DictAt (O1 X.prog X.w) a vs ep:=by
 obtain⟨hget,hz,hS,vs,r,m⟩:=(show R0 X.prog X.w H s.heap a (.frz o (.dK oq))from I.hok a _ e);obtain⟨ep',dat⟩:=m.dictAt;have hep:ep'=ep:=by
  obtain⟨o',sy,h1,_,h3,_⟩:=id dat;rw[hget]at h1
  cases h1
  rw[ho]at h3
  cases h3
  rfl
 subst hep;exact⟨hS,vs,r,dat⟩
theorem tL{P:zB}{w:zI}{K:zc}{tg:Expr}{a:Addr}{o:Obj}{ep:Nat}(ho:o.data= .dict es ep)(it:Addr):P7 P w K tg (Itd a o oq) [it] it (λi h=>h.IsKeyIter it a i oq.length ep) where
 mem:=by simp
 obj:=λi h st b hb=>by
  have e:b=it:=by simpa using hb
  subst e;obtain⟨o,e,c,d⟩:=st;exact⟨o,e,λv z=>by rw[d]at z;cases z⟩
 keep:=λi h h' st k=>let ⟨o,ho,r⟩:=st;⟨o,k it (by simp) o ho,r⟩
 item:=by intro X hP hw hK hc i om s σ H E I hf st hg;subst hP hw hK;obtain⟨hfr,kv,hx⟩:=hg;obtain⟨f0,f1,f2,f3,f4,f5⟩:=hf it (by simp);obtain⟨hS,vs,rel,dat⟩:=qO I ho hfr;obtain⟨v,hv⟩:=VP rel hx;have ow:oq.length=vs.length:=xH rel;rw[ow]at st;refine wpAny_pyNext_dict_item st dat hv λkey h' hk pc sb=>?_;have I1:Inv X om σ H {s with heap:=h'}:=I.turned (λb o hb e=>(sb.2 b hb).trans e) f0 f1 f3 f4 f5;obtain⟨o',e,cc,d⟩:=id pc;refine⟨_,rfl,cD e cc d (by decide) ⟨kV kv.1,H,I1,dz hk,⟨rfl,kv,hx,rfl⟩,by rw[ow];exact pc,λb hb=>(hf b hb).1⟩⟩
 done:=by intro X hP hw hK hc i om s σ H E I hf st hg;subst hP hw hK;obtain⟨hfr,hi⟩:=hg;obtain⟨f0,f1,f2,f3,f4,f5⟩:=hf it (by simp);obtain⟨hS,vs,rel,dat⟩:=qO I ho hfr;have ow:oq.length=vs.length:=xH rel;rw[ow]at st hi;exact wpAny_pyNext_dict_end (I.ok.hd hc) st dat (zO hi) λh' eb=>⟨rfl,I.turned (λb o hb e=>eb b o hb e) f0 f1 f3 f4 f5⟩
 self:=λ_ _ _ _ _ st h=>wpAny_pyIter_keyiter st h
theorem j9.setR(h:j9 c μ G H)(g:G[i]? =some o)(n:¬o6 (some o))(m:μ[i]? =some a)(k:Ext μ H μ (upd H a u))(ho:w8 c μ (upd H a u) a o'):j9 c μ (G.set i o') (upd H a u):=by
 have hi:i<G.length:=lt_of_get g;have get:∀j,(G.set i o')[j]? =if i=j then some o' else G[j]? :=λj=>by
  rw[YY];by_cases e:i=j
  ·subst e;simp[hi]
  ·simp[e]
 refine⟨by simp[h.len],λj l b ej el=>?_,λj o2 b gj mj=>?_⟩
 ·rcases h.inj j l b ej el with e|e|e
  ·exact .inl e
  ·by_cases ij:i=j
   ·subst ij;rw[g]at e;exact(n e).elim
   ·right;left;rw[get,if_neg ij];exact e
  ·by_cases ij:i=l
   ·subst ij;rw[g]at e;exact(n e).elim
   ·right;right;rw[get,if_neg ij];exact e
 ·rw[get]at gj;by_cases ij:i=j
  ·subst ij;rw[if_pos rfl]at gj
   cases gj
   rw[m]at mj
   cases mj
   exact ho
  ·rw[if_neg ij]at gj;have q:=h.obj j o2 b gj mj;by_cases hr:o6 (some o2)
   ·exact q.mono k (.inr hr)
   ·have nb:b≠a:=λe=>by
     subst e;rcases h.inj i j b m mj with e|e|e
     ·exact ij e
     ·rw[g]at e;exact n e
     ·rw[gj]at e;exact hr e
    exact q.mono k (.inl (m7 nb))
section
theorem Inv.freeze(I:Inv X om σ H s)(e:H a=some (.dK oq))(ho:s.heap.get? a=some o):Inv X om σ (upd H a (.frz o (.dK oq))) s:=by have q:R0 X.prog X.w H s.heap a (.dK oq):=I.hok a _ e;exact I.write (by rw[e];exact trivial) (.inl rfl) (λb u _ z=>z) ⟨o,ho⟩ ⟨ho,q⟩
def iW(K:zc)(tl:TE):TI:=λσ H R=>tl σ H λx H1=>((∃z,x= .str z/\R (Its z) H1)\/(∃k a xs,x= .ref a/\Sq K k H1 a xs/\R (if k=true then Itt K a else Itl K a) H1))\/
 (∃a oq,x= .ref a/\H1 a=some (.dK oq)/\∀o,R (Itd a o oq) (upd H1 a (.frz o (.dK oq))))\/(∃a o oq,x= .ref a/\H1 a=some (.frz o (.dK oq))/\R (Itd a o oq) H1)
theorem pY(hl:PE X e tl):PI X tg e (iW X.K tl):=by
 intro om s σ H R I h;refine thn (hl om s σ H _ I h) λv s1 ph=>ph.elim λx H1 I1 r1 q1=>?_;have fpo:∀b∈ [s1.heap.objs.size],T0 X om H1 b:=λb hb=>by
  have z:b=s1.heap.objs.size:=by simpa using hb
  subst z;exact I1.fpOk (zg _) (I1.hok.fresh (zg _))
 rcases q1 with(⟨z,rfl,q⟩|⟨k,a,xs,rfl,hq,q⟩)|⟨a,oq,rfl,hq,q⟩|⟨a,o,oq,rfl,hq,q⟩
 ·obtain⟨t,rfl⟩:=(show ∃t,v=Value.str z t from r1);refine wpAny_pyIter_strU ?_;have I2:Inv X om σ H1 {s1 with heap:=s1.heap.push {cls:=.type (Zn z),data:=.fields #[.str z t,.int 0 0]}}:=I1.kept λb o z=>zf _ z;have hg:(s1.heap.push {cls:=.type (Zn z),data:=.fields #[.str z t,.int 0 0]}).get? s1.heap.objs.size=some {cls:=.type (Zn z),data:=.fields #[.str z t,.int 0 0]}:=zy _ rfl;by_cases ha:z.cps.all (· < 128)=true
  ·have e:Zn z= "str_ascii_iterator":=by unfold Zn;rw[if_pos ha]
   refine⟨s1.heap.objs.size, [s1.heap.objs.size],_,_,H1,rfl,I2,Hv z t _,?_,fpo,q⟩;rw[e]at hg ⊢;exact⟨_,hg,rfl,rfl⟩
  ·have e:Zn z= "str_iterator":=by unfold Zn;rw[if_neg ha]
   refine⟨s1.heap.objs.size, [s1.heap.objs.size],_,_,H1,rfl,I2,oj z t _,?_,fpo,q⟩;rw[e]at hg ⊢;exact⟨_,hg,rfl,rfl⟩
 ·cases r1
  rcases k with _|_
  ·
    obtain⟨ou,rv,p,hz⟩:=I1.list hq;exact Za p.isList ⟨s1.heap.objs.size, [s1.heap.objs.size],_,_,H1,rfl,I1.kept λb o z=>zf _ z,qf a _,⟨_,zy _ rfl,rfl,rfl⟩,fpo,q⟩
  ·
    obtain⟨ou,rv,p,hz⟩:=I1.tuple hq;exact wpAny_pyIter_tuple (show s1.heap.IsTuple a ou.toArray from p) ⟨s1.heap.objs.size, [s1.heap.objs.size],_,_,H1,rfl,I1.kept λb o z=>zf _ z,oX a _,⟨_,zy _ rfl,rfl,rfl⟩,fpo,q⟩
 ·cases r1
  obtain⟨hz,hS,vs,rel,dd⟩:=MM I1.hok hq;obtain⟨ep,dat⟩:=dd.dictAt;obtain⟨o,es,h1,h2,h3,h4⟩:=id dat;have ow:oq.length=vs.length:=xH rel;have I2:=DL.Inv.freeze I1 hq h1;have fpo2:∀b∈ [s1.heap.objs.size],T0 X om (upd H1 a (.frz o (.dK oq))) b:=λb hb=>by
   have z:b=s1.heap.objs.size:=by simpa using hb
   subst z;exact I2.fpOk (zg _) (I2.hok.fresh (zg _))
  refine wpAny_pyIter_dict hS dat ⟨s1.heap.objs.size, [s1.heap.objs.size],_,_,upd H1 a (.frz o (.dK oq)),rfl,I2.kept λb o z=>zf _ z,tL h3 _,?_,fpo2,q o⟩;rw[ow];exact⟨_,zy _ rfl,rfl,rfl⟩
 ·cases r1
  obtain⟨hget,hz,hS,vs,rel,dd⟩:=(show R0 X.prog X.w H1 s1.heap a (.frz o (.dK oq))from I1.hok a _ hq);obtain⟨ep,dat⟩:=dd.dictAt;obtain⟨o',es,h1,h2,h3,h4⟩:=id dat;rw[hget]at h1
  cases h1
  have ow:oq.length=vs.length:=xH rel;refine wpAny_pyIter_dict hS dat ⟨s1.heap.objs.size, [s1.heap.objs.size],_,_,H1,rfl,I1.kept λb o z=>zf _ z,tL h3 _,?_,fpo,q⟩;rw[ow];exact⟨_,zy _ rfl,rfl,rfl⟩
def vI:Key->D
| .inl i=>.int i
| .inr x=>.str x
def fE(l:List (Key×D)):List D:=l.map λkv=>vI kv.1
def SE:D->M Src:=λx=>match x with
| .ref r=>do
  match <-M7 r with
  | .dct l=>do
    let _ <-rA r (.rod l)
    pure ⟨fE l,λ_=>true⟩
  | .rod l=>pure ⟨fE l,λ_=>true⟩
  |_=>UG (.ref r)
|d=>UG d
def itW(f:Fe):DSt->M Src:=λσ=>do SE (<-f σ)
theorem aL{v:V}{R:It->Hp->Prop}(h1:j9 (wc X) X0 G1 H1)(rv:d7 (wc X) X0 H1 d v)(p1:c7 (wc X) Z X0 H1 (UG d G1) λs X2 _ H'=>∀J,ItD (wc X) X2 H' J s->R J H'):
 (∃z,v= .str z/\R (Its z) H1)\/(∃k a xs,v= .ref a/\Sq X.K k H1 a xs/\R (if k=true then Itt X.K a else Itl X.K a) H1):=by
 have main:∀dd:D,(∀z,dd≠ .str z)->d7 (wc X) X0 H1 dd v->c7 (wc X) Z X0 H1 (Q2 dd G1) (λs X2 _ H'=>∀J,ItD (wc X) X2 H' J s->R J H')->(∃z,v= .str z/\R (Its z) H1)\/(∃k a xs,v= .ref a/\Sq X.K k H1 a xs/\R (if k=true then Itt X.K a else Itl X.K a) H1):=by
  intro dd _ rv p1;have p1':c7 (wc X) Z X0 H1 ((Q2 dd >>= λs=>(pure s:M Src)) G1) λs X2 _ H'=>∀J,ItD (wc X) X2 H' J s->R J H':=by
   have e:(Q2 dd >>= λs=>(pure s:M Src))=Q2 dd:=by
    funext G;rw[M.bind_eq];rcases Q2 dd G with _|q
    ·rfl
    ·obtain⟨r,G'⟩:=q;cases r<;>rfl
   rw[e];exact p1
  obtain⟨sr,k,a,vs,rfl,q,rl,is,ck,_,p2⟩:=tH h1 rv p1';refine .inr ⟨k,a,vs,rfl,q,c7.ok p2 h1 _ λX2 G' H' x' h' ck' i=>?_⟩;obtain⟨px,q',pz⟩:=is X2 G' H' x' h' ck';refine⟨λd hd=>?_,λhi=>?_⟩
  ·obtain⟨y,hy,ry⟩:=pz.get hd
   cases k with
   |true=>
     rw[if_pos rfl];exact⟨⟨px,y,q',hy⟩,λx H2 ⟨e1,e2⟩=>by subst e1;exact⟨Ext.refl _ _,h',RO pz hd (e2 px q')⟩⟩
   |false=>
     rw[if_neg zw];exact⟨⟨px,y,q',hy⟩,λx H2 ⟨e1,e2⟩=>by subst e1;exact⟨Ext.refl _ _,h',RO pz hd (e2 px q')⟩⟩
  ·cases k with
   |true=>rw[if_pos rfl];exact⟨px,q',by rw[<-pz.length];exact hi⟩
   |false=>rw[if_neg zw];exact⟨px,q',by rw[<-pz.length];exact hi⟩
 cases d with
 |str z=>
   refine .inl ⟨z,S1 rv,c7.ok p1 h1 _ λX2 G' H' x' h' ck' i=>⟨λd hd=>?_,λhi=>?_⟩⟩
   ·simp only[bL,jW]at hd
    cases hc:z.cps.toList[i]? with
    |none=>rw[hc]at hd;cases hd
    |some c=>
      rw[hc]at hd
      cases hd
      have hc':z.cps[i]? =some c:=by rw[<-jd];exact hc
      exact⟨⟨c,hc'⟩,λx H2 ⟨e1,c2,e2,e3⟩=>by
       subst e1;rw[hc']at e2
       cases e2
       exact⟨Ext.refl _ _,h',by rw[e3];unfold d7;rfl⟩⟩
   ·simp only[bL,zE]at hi;show z.cps[i]? =none;rw[<-jd];exact zO hi
 |tup l=>exact main (.tup l) (λz q=>nomatch q) rv p1
 |ref r=>exact main (.ref r) (λz q=>nomatch q) rv p1
 |_=>exact p1.elim
theorem cP{H:Hp}:∀ {l} {oq} {i:Nat} {kd},T8 c μ H l oq->l[i]? =some kd->∃v,oq[i]? =some (kd.1,v)
|[],_,_,_,_,e=>by simp at e
|(k,d)::r,_,0,_,h,e=>by obtain⟨v,t,rfl,_,_⟩:=h;simp only[zK,jf]at e;subst e;exact⟨v,rfl⟩
|(k,d)::r,_,i+1,_,h,e=>by obtain⟨v,t,rfl,_,ht⟩:=h;simp only[jt]at e ⊢;exact cP ht e
theorem vY(k:Key):d7 c μ H (vI k) (kV k):=by
 cases k<;>(unfold vI d7;rfl)
theorem dS{c:Wc}{H:Hp}(e:H a=some (.frz o (.dK oq)))(rk:T8 c μ H l oq):ItD c μ H (Itd a o oq) ⟨fE l,λ_=>true⟩:=by
 intro X2 G' H' x h' _ i;have e':=x.frz _ _ _ e;refine⟨λd hd=>?_,λhi=>⟨e',by rw[<-rk.length];simpa [fE]using hi⟩⟩;simp only[fE,jW]at hd
 cases hl:l[i]? with
 |none=>rw[hl]at hd;cases hd
 |some kd=>
   rw[hl]at hd
   cases hd
   obtain⟨v,hv⟩:=cP rk hl;exact⟨⟨e',_,hv⟩,λy H2 ⟨e1,kv,e2,e3⟩=>by
    subst e1;rw[hv]at e2
    cases e2
    exact⟨Ext.refl _ _,h',by rw[e3];exact vY _⟩⟩
theorem bx(he:DE X Z e f):DI X Z tg e (itW f):=
 DI.of (pY he.h) λσ H R ov=>ov.elim λX9 μ G s h p=>⟨X9,μ,G,s,h,(c7.bind p).mono λd X0 G1 H1 x1 h1 p1 v rv=>by
  cases d with
  |ref r=>
    have rv':=rv;unfold d7 at rv';obtain⟨a,m,rfl⟩:=rv';obtain⟨o,g,p2⟩:=Q5 p1;have ro:=h1.obj r o a g m;rcases o with l|l|l|l
    ·exact .inl (aL h1 rv p2)
    ·exact .inl (aL h1 rv p2)
    ·
      obtain⟨oq,q,rk⟩:=ro;refine .inr (.inl ⟨a,oq,rfl,q,λo=>?_⟩);have x:Ext X0 H1 X0 (upd H1 a (.frz o (.dK oq))):=Ext.mut (yA m) q (λ_ z=>nomatch z) (λ_ _ z=>nomatch z) _;have sw:=rk.mono x;have h2:j9 (wc X) X0 (G1.set r (.rod l)) (upd H1 a (.frz o (.dK oq))):=h1.setR g (λz=>z) m x ⟨oq,o,v9,sw⟩;have p3:=c7.from p2 x;exact c7.ok p3 h2 _ (dS v9 sw)
    ·
      obtain⟨oq,o,q,rk⟩:=ro;exact .inr (.inr ⟨a,o,oq,rfl,q,c7.ok p2 h1 _ (dS q rk)⟩)
  |_=>exact .inl (aL h1 rv p1)⟩
end
end DL
namespace W
open PySem PySem.Spec L2 DL
open PyProof.Rows hiding St
section
theorem wp_itW:Wp (itW f σ) G R↔Wp (f σ) G λx G1=>Wp (SE x) G1 R:=by unfold itW;simp only[f9]
theorem srcW_tup:Wp (SE (.tup l)) G R↔R ⟨l,λ_=>true⟩ G:=d8
theorem IM(e:G[p]? =some (.lst l)):Wp (SE (.ref p)) G R↔R ⟨l,ckO p (.lst l)⟩ G:=by unfold SE;simp only[f9,O3,e,Q0];exact GX e
end
end W
namespace DL
open PySem PySem.Spec L2
open PyProof.Rows hiding St
section
end
end DL
namespace W
open PySem PySem.Spec L2 DL
open PyProof.Rows hiding St
section
end
end W
namespace DL
open PySem
theorem nj:typeLookup (.type "list") "keys" =pure none:=by rw[typeLookup_type,builtinLookup_eq_fast];kernel_rfl
section
theorem ky{h:Heap}{t:Nat}{os:OsState}{a:Addr}{o:Obj}{k:Nat}
 (hx:h.get? a=some o) (hc:o.cls= .type "list") (qi:o.data= .seq xs k) (hd:o.dict=none) (hA:A.handled=none)
 (hq:∀h' tk,(∀b ob,h.get? b=some ob->h'.get? b=some ob)->Q none ⟨h',g,d,tk,os⟩):
 zq (zz prog w) A (getAttr? (.ref a) "keys") Q E ⟨h,g,d,t,os⟩:=by
 obtain⟨c,dct,dat,sl⟩:=o;simp only at hc qi hd;subst hc qi hd;have hT:∀tk',(⟨h,g,d,tk',os⟩:zh).TypeIs (.ref a) "list":=λ_=>⟨_,hx,rfl⟩;have f1:=sub_AttributeError;have f3:=ZR.lookup;have f4:=ZR.bind (.ref a);have f5:=am_list_getattr_none;unfold getAttr? getAttrBy? getAttrBy
 repeat (any_goals (first|assumption|exact hT _|((with_reducible show zq _ _ (call (Value.builtin "list.__getattribute__") _ _) _ _ _);refine call_meets ZR (hT _) am_entry_list_getattribute (F.args_list_getattribute_2 _ _) (meets_getattribute_miss_list a xs k sl "keys" _ nj (by decide +kernel) (by decide +kernel)) ⟨hx,hA,λh' tk' e hx'=>?_⟩)|wp_step))
 obtain⟨t',u',he⟩:=hx'.there;have hTe:∀tk'',(⟨h',g,d,tk'',os⟩:zh).TypeIs (.ref e) "AttributeError":=λ_=>⟨_,he,rfl⟩;show zq _ _ (getattributeRaised _ _ _ _ _ _ _) _ _ _;unfold getattributeRaised
 repeat (any_goals (first|assumption|exact hTe _|wp_step))
 exact hq _ _ hx'.keeps
end
end DL
namespace DL
open PySem
open PyProof.Rows (IsTup)
theorem kO:entryFor table "dict.update.loop" =some xR.«dict.update.loop»:=entryFor_of_tree (by kernel_rfl)
theorem U8:plainId "dict.update.loop" =true:=by decide +kernel
section
variable{prog:zB}{w:zI}{A:zL}{R:Jl->zh->Prop}{I:Addr}{fp wr:List Addr}{n:Nat}{P:Nat->ze->Prop}{St:Nat->Heap->Prop}{K:Type}[DecidableEq K]{knd:KeyKind prog w K}
theorem Ww(h:Yr s.heap ta #[x,y])(q:Q [x,y] s):zq (zz prog w) A (Xm (.ref ta)) Q E s:=by obtain⟨o,ho,hc,m,hd⟩:=h;have hT:s.TypeIs (.ref ta) "tuple":=⟨_,ho,hc⟩;unfold Xm;refine za (Yu hT ?_);rw[if_pos (by decide)];exact za (yg ho hd (zm q))
theorem Sx(W:Walks prog w A.in1 I fp wr n P St)(S:Addr)(hSf:S∉fp)(h0:Heap)(ps:List (K×ze))(hn:ps.length=n)
 (hval:∀i v,P i v->∃ta key kv,v= .ref ta/\ps[i]? =some kv/\Yr h0 ta #[key,kv.2]/\knd.is kv.1 key=true/\ta≠S/\ta∉wr) (hsz:n<=zi):
 ∀k i s m tk,n-i=k->i<=n->St i s.heap->s.heap.DictOf knd S (JI [] (ps.take i))->(∀b o,b≠S->b∉wr->h0.get? b=some o->s.heap.get? b=some o)->
  (∀h' tk',h'.DictOf knd S (JI [] ps)->(∀b o,b≠S->b∉wr->h0.get? b=some o->h'.get? b=some o)->R (.ok (.ret .none)) {s with heap:=h',toks:=tk'})->
  ZC (zz prog w) A (.builtin "dict.update.loop" ⟨[.ref S,.ref I,.int m tk,.none], []⟩) R s:=by
 have hSw:S∉wr:=λh=>hSf (W.sub _ h);intro k
 induction k with
 |zero=>
   intro i s m tk hk hi hst hS hh hR;have hin:i=n:=by lia
   subst hin;refine jY kO ?_;rw[jG U8 _];show zq _ A.in1 (Yw (.ref I) >>= _) _ _ s;refine za (W.done s _ _ hst λh' tk' hm=>?_);show zq _ A.in1 (Builtin.Dict.addKeywords S [] >>= _) _ _ _;refine za (zm ?_);refine zm (hR h' tk' ?_ λb o hb si e=>hm b o si (hh b o hb si e));rw[xS (by lia)]at hS;obtain⟨o,es,ep,ho,rest⟩:=hS;exact⟨o,es,ep,hm S _ hSw ho,rest⟩
 |succ k ih=>
   intro i s m tk hk hi hst hS hh hR;have pj:i<n:=by lia
   refine jY kO ?_;rw[jG U8 _];show zq _ A.in1 (Yw (.ref I) >>= _) _ _ s;refine za (W.item i s _ _ pj hst λv h' tk' hP hst' hm=>?_);obtain⟨ta,key,kv,rfl,hkv,⟨ot,hot,hct,mt,hdt⟩,hkey,qo,hnw⟩:=hval i v hP;have td:h'.DictOf knd S (JI [] (ps.take i)):=by obtain⟨o,es,ep,ho,rest⟩:=hS;exact⟨o,es,ep,hm S _ hSw ho,rest⟩
   have ht':Yr h' ta #[key,kv.2]:=⟨ot,hm ta _ hnw (hh ta _ qo hnw hot),hct,mt,hdt⟩;refine za (jQ ?_);refine za (YO (Ww ht' ?_));refine jQ ?_;have ow:(JI [] (ps.take i)).length<=zi:=by have:=merged_length_le [] (ps.take i);rw[jL,jK]at this;lia
   refine wpAny_dictSet_pairs hkey td λh'' hd'' hsb=>?_;refine zm ⟨yS U8 _,ih (i+1) _ _ _ (by lia) pj (W.frame _ _ _ hst' λb hb o e=>?_) ?_ (λb o hb si e=>?_) λh3 tk3 hd3 hk3=>hR h3 tk3 hd3 hk3⟩
   ·rw[hsb.2 b (λh:b=S=>hSf (by rw[<-h];exact hb))];exact e
   ·rw[merged_take_succ [] ps i kv hkv];exact hd''
   ·rw[hsb.2 b hb];exact hm b o si (hh b o hb si e)
end
section
variable{prog:zB}{w:zI}{A:zL}{E:VSP}{s:zh}{K:Type}[DecidableEq K]{knd:KeyKind prog w K}
theorem wg{m:Nat}(hx:s.heap.get? src=some o)(hc:o.cls= .type "list")(hd:o.data= .seq items m)(hdict:o.dict=none)(hA:A.handled=none)
 (hn:ps.length=items.size) (hsz:items.size<=zi) (hval:∀(i:Nat) (v:ze),items[i]? =some v->∃(ta:Addr) (key:ze) (kv:K×ze),v= .ref ta/\ps[i]? =some kv/\Yr s.heap ta #[key,kv.2]/\knd.is kv.1 key=true)
 (h:∀h' tk,h'.DictOf knd s.heap.objs.size (JI [] ps)->(∀b o,s.heap.get? b=some o->h'.get? b=some o)->Q (.ref s.heap.objs.size) {s with heap:=h',toks:=tk}):
 zq (zz prog w) A (call (.type "dict") [.ref src]) Q E s:=by
 refine callType_codes (Q₁:=λobj W1=>obj= .ref s.heap.objs.size/\W1= {s with heap:=s.heap.push {cls:=.type "dict",data:=.dict #[]}}) F.kt_called_dict (F.kt_typeCall_dict_1 _) F.entry_dict_init (kt_code_dict_new _ ⟨rfl,rfl⟩) ?_;rintro obj W1 ⟨rfl,rfl⟩;have hnew:(s.heap.push {cls:=.type "dict",data:=.dict #[]}).DictOf knd s.heap.objs.size []:=Heap.DictOf.new s.heap;have pj:src<s.heap.objs.size:=zj hx;have hx1:(s.heap.push {cls:=.type "dict",data:=.dict #[]}).get? src=some o:=zf _ hx;have hT1:Shared.TypeIs {s with heap:=s.heap.push {cls:=.type "dict",data:=.dict #[]}} (.ref src) "list":=⟨_,hx1,hc⟩;refine⟨hnew.typeIs,F.args_dict_init_2 _ _,?_⟩;unfold xR.«dict.__init__»;refine za ?_;unfold Builtin.Dict.selfAndRest;refine za (wpAny_notOrdered_dict hnew.typeIs ?_);show zq _ _ (pure (s.heap.objs.size, [Value.ref src])) _ _ _;refine zm ?_;show zq _ _ (Xd "dict.__init__" s.heap.objs.size (.ref src) [] .none) _ _ _;unfold Xd;refine za (Yu hT1 ?_);rw[if_pos (by decide)];have hA2:A.in1.in1.handled=none:=by simp[hA]
 refine za (ky hx1 hc hd hdict hA2 λh2 tk2 k2=>?_);simp only[Option.isNone_none,if_true];refine za (ZK ?_);have hx2:h2.get? src=some o:=k2 _ _ hx1;have hl2:h2.IsList src items:=⟨o,hx2,hc,m,hd⟩;have hS2:h2.DictOf knd s.heap.objs.size []:=by obtain⟨o,es,ep,ho,rest⟩:=hnew;exact⟨o,es,ep,k2 _ _ ho,rest⟩
 have hlt2:s.heap.objs.size<h2.objs.size:=by obtain⟨o,es,ep,ho,rest⟩:=hS2;exact zj ho
 refine za (Za hl2 ?_);have hA1:A.in1.in1.handled=none:=hA2;refine zm ⟨yS U8 _,?_⟩;have hkeep:∀b ob,s.heap.get? b=some ob->h2.get? b=some ob:=λb ob e=>k2 _ _ (zf _ e);refine Sx (knd:=knd) (Walks.list hA1 h2.objs.size src (zu (xV pj hlt2)) items) s.heap.objs.size ?_ s.heap ps hn ?_ hsz items.size 0 _ _ _ (by lia) (jl _) ?_ ?_ ?_ ?_
 ·simp only[zk,jm,or_false,not_or];exact⟨zu hlt2,xp pj⟩
 ·intro i v hv;obtain⟨ta,key,kv,e1,e2,e3,e4⟩:=hval i v hv;have hta:ta<s.heap.objs.size:=by obtain⟨_,e,_⟩:=e3;exact zj e
  exact⟨ta,key,kv,e1,e2,e3,e4,zu hta,by simp only[zk,jm,or_false];exact zu (xV hta hlt2)⟩
 ·exact⟨⟨_,zy _ rfl,rfl,rfl⟩,hl2.push _⟩
 ·show Heap.DictOf knd (h2.push _) _ _;exact hS2.push _
 ·intro b ob hb si e;exact zf _ (hkeep b ob e)
 ·intro h' tk' rz sw;refine⟨rfl,h h' tk' rz λb ob e=>sw b ob ?_ ?_ e⟩
  ·exact zu (zj e)
  ·simp only[zk,jm,or_false];exact zu (xV (zj e) hlt2)
end
end DL
namespace DL
open PySem PySem.Spec L2
open PyProof.Rows hiding St
def gD:D->Option (Key×D)
| .tup [k,v]=>match WB k with
  |some q=>some (q,v)
  |none=>none
|_=>none
def vA:List D->Option (List (Key×D))
|[]=>some []
|d::r=>match gD d,vA r with
  |some p,some ps=>some (p::ps)
  |_,_=>none
def wD(pi:List (Key×D))(l:List (Key×D)):List (Key×D):=l.foldl (λpi kv=>BE pi kv.1 kv.2) pi
def CB:List D->M D:=λds=>match ds with
|[.ref r]=>do
  let l <-M7 r >>= listOf
  let ps <-Q1 (vA l)
  K7 (.dct (wD [] ps))
|_=>M.stuck
section
variable{X:Cx}{Z:XC}{μ:List Addr}{H:Hp}{G:DH}
theorem Wm(h:gD d=some p):∃k,d= .tup [k,p.2]/\WB k=some p.1:=by
 rcases d with _|_|_|_|l|_|_|_<;>try (cases h;done)
 rcases l with _|⟨k,_|⟨v,_|⟨_,_⟩⟩⟩<;>try (cases h;done)
 delta gD at h;dsimp only at h;rcases e:WB k with _|q
 ·rw[e]at h;cases h
 ·rw[e]at h;cases h;exact⟨k,rfl,e⟩
theorem gO{σ:St}(I:Inv X om σ H s):∀ {l:List D} {ps} {vs:List V} {ou},vA l=some ps->g8 (wc X) μ H l vs->m6 vs ou->
 ∃(oq:List (Key×V)) (ws:List (Key×ze)),T8 (wc X) μ H ps oq/\KV oq ws/\ws.length=ou.length/\∀(i:Nat) v,ou[i]? =some v->∃(ta:Addr) (key:ze) (kv:Key×ze),v= .ref ta/\ws[i]? =some kv/\Yr s.heap ta #[key,kv.2]/\(O1 X.prog X.w).is kv.1 key=true
 |[],ps,vs,ou,e,rl,rv=>by
   cases e;cases rl;cases rv
   exact⟨[], [],rfl,.nil,rfl,λi v h=>by simp at h⟩
 |d::r,ps,vs,ou,e,rl,rv=>by
   replace e:(match gD d,vA r with|some p,some ps=>some (p::ps)|_,_=>none)=some ps:=e;rcases e1:gD d with _|p
   ·rw[e1]at e;cases e
   ·
     rcases e2:vA r with _|qs
     ·rw[e1,e2]at e;cases e
     ·
       rw[e1,e2]at e
       cases e
       obtain⟨v,t,rfl,r0,rt⟩:=rl
       cases rv with
       |cons q0 qt=>
         obtain⟨oq,ws,h1,h2,h3,h4⟩:=gO I e2 rt qt;obtain⟨k,rfl,hk⟩:=Wm e1;unfold d7 at r0;obtain⟨a,us,rfl,hq,ru⟩:=r0;obtain⟨x,y,rfl,rx,ry⟩:=TH ru;obtain⟨sj,rr,ht,_⟩:=I.tuple hq;obtain⟨p1,p2⟩:=p
         cases rr with
         |cons rr0 rr1=>
           cases rr1 with
           |cons rr2 rr3=>
             cases rr3
             rename_i w0 w1;have ex:=FN hk rx;subst ex
             cases (show _=Value.ref a from q0)
             refine⟨(p1,y)::oq,(p1,w1)::ws,⟨y,oq,rfl,ry,h1⟩,.cons ⟨rfl,rr2⟩ h2,by simp[h3],λi v hv=>?_⟩
             cases i with
             |zero=>
               simp only[zK,jf]at hv;subst hv;exact⟨a,w0,(p1,w1),rfl,rfl,ht,OG rr0⟩
             |succ i=>exact h4 i v (by simpa using hv)
theorem fP:∀ {ps} {oq} {pi} {sx},T8 c μ H ps oq->T8 c μ H pi sx->T8 c μ H (wD pi ps) (oq.foldl (λpi kv=>P3 pi kv.1 kv.2) sx)
|[],_,_,_,r,q=>by cases r;exact q
|(k,d)::t,_,_,_,r,q=>by obtain⟨v,kt,rfl,rv,rt⟩:=r;have z:=fP rt (fq (k:=k) rv q);exact z
theorem NR:∀ {oq} {ws} {pi:List (Key×V)} {sx},KV oq ws->KV pi sx->KV (oq.foldl (λpi kv=>P3 pi kv.1 kv.2) pi) (JI sx ws)
|_,_,_,_,.nil,q=>q
|_,_,_,_,.cons (a:=p) (b:=r) ⟨e,rv⟩ t,q=>by
  obtain⟨k,v⟩:=p;obtain⟨k',u⟩:=r
  cases (show k=k' from e)
  have z:=NR t (q.put k rv);exact z
theorem Vp{σ:St}{Q:VK}{ps:List (Key×D)}{h':Heap}{tk:Nat}(I:Inv X om σ H s)(hr:j9 (wc X) μ G H)(h1:T8 (wc X) μ H ps oq)(h2:KV oq ws)(hz:ws.length<=zi)
 (p:c7 (wc X) Z μ H (K7 (.dct (wD [] ps)) G) λd X2 _ H'=>∀v,d7 (wc X) X2 H' d v->Q v H')
 (hd:h'.DictOf (O1 X.prog X.w) s.heap.objs.size (JI [] ws)) (hk:∀b o,s.heap.get? b=some o->h'.get? b=some o):EP X om σ Q (.ref s.heap.objs.size) {s with heap:=h',toks:=tk}:=by
 have k3:=NR h2 (.nil:KV [] []);have hl:(oq.foldl (λpi kv=>P3 pi kv.1 kv.2) []).length<=zi:=by rw[k3.length];have:=merged_length_le [] ws;rw[jK]at this;lia
 have hq:H s.heap.objs.size=none:=I.hok.fresh (zg _);refine⟨.ref s.heap.objs.size,_,I.laid hk (zg _) (fZ hl (beq_eq_false_iff_ne.mpr (Ne.symm (zu I.big))) k3 hd),rfl,?_⟩;have k:Ext μ H (μ++[s.heap.objs.size]) (upd H s.heap.objs.size (.dK (oq.foldl (λpi kv=>P3 pi kv.1 kv.2) []))):=Ext.add hq _;have e0:T8 (wc X) μ H (wD [] ps) (oq.foldl (λpi kv=>P3 pi kv.1 kv.2) []):=fP h1 rfl;refine p (μ++[s.heap.objs.size]) _ k (hr.new hq ⟨_,v9,e0.mono k⟩) _ ?_;unfold d7;exact⟨s.heap.objs.size,by rw[<-hr.len];simp,rfl⟩
theorem oZ(hc:X.calm=true):R9 X Z (.type "dict") CB:=⟨by
 intro om s σ H xs us Q I r ov;obtain⟨ds,μ,G,rl,hr,p⟩:=ov;have hh:X.A.handled=none:=I.ok.hd hc;rcases ds with _|⟨_|_|_|_|l|i|_|_,_|⟨_,_⟩⟩<;>try exact p.elim
 all_goals (delta CB at p;dsimp only at p)
 ·obtain⟨v,rfl,rv⟩:=S2 rl;obtain⟨u,rfl,ru⟩:=S3 r;obtain⟨l,a,vs,rfl,pz,q,p1⟩:=Z4 hr rv p
  cases ru
  obtain⟨ps,eps,p2⟩:=uB p1;obtain⟨ou,rr,⟨o,n,g1,g2,g3,g4⟩,hz⟩:=I.list q;obtain⟨oq,ws,h1,h2,h3,h4⟩:=gO I eps pz rr;have ow:=rr.length;exact wg g1 g2 g4 g3 hh (by simpa using h3) (by simp only[zn];lia) (λi v hv=>h4 i v (by simpa using hv)) λh' tk hd hk=>Vp I hr h1 h2 (by lia) p2 hd hk⟩
theorem Nf(h:X.calm=true):BD CB "dict" X Z:=⟨.inr ⟨_,oZ h,eZ⟩⟩
end
def QG:D->List D->M D:=λx xs=>match x,xs with
| .ref r, [.int k]=>do
  let l <-lstM r
  match l[k.toNat]? with
  |some y=>
    if 0<=k/\k<2 ^ 62 then do
     let _ <-rA r (.lst (l.eraseIdx k.toNat))
     pure y
    else M.stuck
  |none=>M.stuck
|_,_=>M.stuck
section
theorem g8.eraseIdx(n:Nat)(h:g8 c μ H l vs):g8 c μ H (l.eraseIdx n) (vs.eraseIdx n):=by rw[Xg,Xg];exact(g8.take _ h).append (g8.drop _ h)
theorem Vc:MtD X Z "list.pop" QG:=by
 intro om s σ H x xs v us Q I rx rs ov;obtain⟨d,ds,μ,G,rd,rds,hr,p⟩:=ov;rcases d with _|_|_|_|_|r|_|_<;>try (exact p.elim;done)
 ·
   unfold d7 at rd;obtain⟨a,m,rfl⟩:=rd;rcases ds with _|⟨kd,t⟩
   ·exact p.elim
   ·
     rcases t with _|⟨_,_⟩
     ·
       rcases kd with _|_|k|_|_|_|_|_<;>try (exact p.elim;done)
       ·
         obtain⟨kv,rfl,rk⟩:=S2 rds;have ek:=W0 rk;subst ek;obtain⟨l,vs,g,ea,rl,p1⟩:=SO hr m p;rcases hy:l[k.toNat]? with _|y
         ·simp only[hy]at p1;exact p1.elim
         ·
           simp only[hy]at p1;split at p1
           ·rename_i hz;obtain⟨x1,h1,p2⟩:=bN hr g m (λx=>(rl.mono x).eraseIdx _) p1;obtain⟨yv,e1,ry⟩:=rl.get hy;have pj:k.toNat<vs.length:=by
             by_cases q:k.toNat<vs.length
             ·exact q
             ·rw[zO (by lia)]at e1;exact w6 e1
            refine Tq om s σ H (.ref a) [.int k] v us Q I rx rs ⟨a,vs,k,k.toNat,yv,rfl,rfl,ea,by lia,by lia,?_,e1,c7.ok p2 h1 _ (ry.mono x1)⟩;unfold seqIndex?;have h0:¬k<0:=by lia
            have h2:(0<=k&&k<(vs.length:Int))=true:=by simp;lia
            simp only[if_neg h0,h2,if_true]
           ·exact p1.elim
     ·cases kd<;>exact p.elim
end
end DL
namespace W
open PySem PySem.Spec L2 DL
open PyProof.Rows hiding St
theorem Gw(h:G[r]? =some (.lst (y::l))):Wp (QG (.ref r) [.int 0]) G Q↔Q y (G.set r (.lst l)):=by
 have e:QG (.ref r) [.int 0]= (do
  let l <-lstM r
  match l[(0:Int).toNat]? with
  |some y=>
    if 0<=(0:Int)/\(0:Int)<2 ^ 62 then do
     let _ <-rA r (.lst (l.eraseIdx (0:Int).toNat))
     pure y
    else M.stuck
  |none=>M.stuck):=rfl
 rw[e];unfold lstM;simp only[f9,O3,h,Q0,d8];show Wp (if 0<=(0:Int)/\(0:Int)<2 ^ 62 then (do let _ <-rA r (.lst l);pure y)else M.stuck) G Q↔_;rw[if_pos (by decide)];simp only[f9,d8,NS]
end W
namespace DL
open PySem PySem.Spec L2
open PyProof.Rows hiding St
section
end
end DL
namespace W
open PySem PySem.Spec L2 DL
open PyProof.Rows hiding St
end W
namespace DL
open PySem PySem.W
open PyProof.Rows hiding St
def tOk{α:Type}(lt:Nat->Nat->Bool)(n:Nat):KasT α->(α->Prop)->Prop
| .ret a,Q=>Q a
| .ask i j k,Q=>i<n/\j<n/\tOk lt n (k (lt i j)) Q
section
theorem tOk.bind:∀t,tOk lt n t (λa=>tOk lt n (f a) Q)->tOk lt n (t.bind f) Q
| .ret _,h=>h
| .ask i j k,h=>⟨h.1,h.2.1,tOk.bind (k (lt i j)) h.2.2⟩
theorem tOk.mono(hq:∀a,Q a->Q' a):∀t,tOk lt n t Q->tOk lt n t Q'
| .ret a,h=>hq a h
| .ask i j k,h=>⟨h.1,h.2.1,tOk.mono hq (k (lt i j)) h.2.2⟩
theorem tOk.wp(hc:∀i j C,i<n->j<n->C (lt i j) s->cmp i j C s):∀t,tOk lt n t Q->t.kasWp cmp (λa s'=>s'=s/\Q a) s
| .ret a,h=>⟨rfl,h⟩
| .ask i j k,h=>hc i j _ h.1 h.2.1 (tOk.wp hc (k (lt i j)) h.2.2)
end
structure r8(lt:Nat->Nat->Bool)(n:Nat):Prop where
 tr:∀i j k,lt i j=true->lt j k=true->lt i k=true
 tot:∀i j,i<n->j<n->i≠j->lt i j=false->lt j i=true
structure K1(p:Array Nat)(n:Nat):Prop where
 pm:p.toList.Perm (zR n)
section
theorem K1.size(h:K1 p n):p.size=n:=by have:=h.pm.length_eq;simpa using this
theorem K1.bd(h:K1 p n)(hk:k<n):p.getD k 0<n:=by
 have hs:=h.size;have e:p.getD k 0=p[k]'(by lia):=by simp[ZV,hs,hk]
 rw[e];have:p[k]'(by lia)∈p.toList:=by simp
 have:=h.pm.mem_iff.mp this;simpa using this
theorem K1.ne(h:K1 p n)(hi:i<n)(hj:j<n)(hij:i≠j):p.getD i 0≠p.getD j 0:=by
 have hs:=h.size;have nd:p.toList.Nodup:=h.pm.nodup_iff.mpr List.nodup_range;have e1:p.getD i 0=p.toList[i]'(by simp;lia):=by simp[ZV,hs,hi]
 have e2:p.getD j 0=p.toList[j]'(by simp;lia):=by simp[ZV,hs,hj]
 rw[e1,e2];intro e;exact hij ((ZP nd).mp e)
def B5(lt:Nat->Nat->Bool)(p:Array Nat)(m:Nat):Prop:=∀i j,i<j->j<m->lt (p.getD i 0) (p.getD j 0)=true
def RC(lt:Nat->Nat->Bool)(p:Array Nat)(m:Nat):Prop:=∀i j,i<j->j<m->lt (p.getD j 0) (p.getD i 0)=true
theorem Sh(O:r8 lt n)(hk:1<=k)(h:B5 lt p k)(hl:lt (p.getD (k-1) 0) (p.getD k 0)=true):B5 lt p (k+1):=by
 intro i j hij hj;by_cases hj':j<k
 ·exact h i j hij hj'
 ·have ej:j=k:=by lia
  subst ej;by_cases hi:i=j-1
  ·rw[hi];exact hl
  ·exact O.tr _ _ _ (h i (j-1) (by lia) (by lia)) hl
theorem CW(O:r8 lt n)(hk:1<=k)(h:RC lt p k)(hl:lt (p.getD k 0) (p.getD (k-1) 0)=true):RC lt p (k+1):=by
 intro i j hij hj;by_cases hj':j<k
 ·exact h i j hij hj'
 ·have ej:j=k:=by lia
  subst ej;by_cases hi:i=j-1
  ·rw[hi];exact hl
  ·exact O.tr _ _ _ hl (h i (j-1) (by lia) (by lia))
theorem EJ(O:r8 lt n)(P:K1 p n):∀f k,1<=k->k+f<=n->B5 lt p k->tOk lt n (kas_asc p f k) (λm=>k<=m/\m<=k+f/\B5 lt p m/\(m<k+f->lt (p.getD m 0) (p.getD (m-1) 0)=true))
|0,k,h1,h2,u=>⟨zg _,zg _,u,λz=>by lia⟩
|f+1,k,h1,h2,u=>by
  unfold kas_asc;refine⟨P.bd (by lia),P.bd (by lia),?_⟩;rcases e:lt (p.getD k 0) (p.getD (k-1) 0)with _|_
  ·
    have hl:=O.tot _ _ (P.bd (show k<n by lia)) (P.bd (show k-1<n by lia)) (P.ne (by lia) (by lia) (by lia)) e;simp only[jp,if_false];exact(EJ O P f (k+1) (by lia) (by lia) (Sh O h1 u hl)).mono λm ⟨a,b,c,d⟩=>⟨by lia,by lia,c,λz=>d (by lia)⟩
  ·exact⟨zg _,by lia,u,λ_=>e⟩
theorem bQ(O:r8 lt n)(P:K1 p n):∀f k,1<=k->k+f<=n->RC lt p k->tOk lt n (kas_desc f p k 0) (λr=>r.1=p/\r.2.2=0/\k<=r.2.1/\r.2.1<=k+f/\RC lt p r.2.1)
|0,k,h1,h2,u=>⟨rfl,rfl,zg _,zg _,u⟩
|f+1,k,h1,h2,u=>by
  unfold kas_desc;refine⟨P.bd (by lia),P.bd (by lia),?_⟩;rcases e:lt (p.getD k 0) (p.getD (k-1) 0)with _|_
  ·
    have hl:=O.tot _ _ (P.bd (show k<n by lia)) (P.bd (show k-1<n by lia)) (P.ne (by lia) (by lia) (by lia)) e;simp only[jp,if_false];refine⟨P.bd (by lia),P.bd (by lia),?_⟩;rw[hl];exact⟨rfl,rfl,zg _,jM _ _,u⟩
  ·
    simp only[if_true,yx,if_false,gt_iff_lt];exact(bQ O P f (k+1) (by lia) (by lia) (CW O h1 u e)).mono λr ⟨a,b,c,d,g⟩=>⟨a,b,by lia,by lia,g⟩
theorem U6(p:Array Nat)(k:Nat):p.getD k 0= (p[k]?).getD 0:=by by_cases h:k<p.size<;>simp[ZV,h]
theorem GB(P:K1 p n):K1 (kas_rev p i j) n:=⟨(yN.mp (mirror_perm p i j _)).trans P.pm⟩
theorem Qg(P:K1 p n)(hm:m<=n)(d:RC lt p m):B5 lt (kas_rev p 0 m) m:=by
 intro i j hij hj;have hs:=P.size;have e:∀k,k<m->(kas_rev p 0 m).getD k 0=p.getD (m-1-k) 0:=λk hk=>by rw[U6,U6];unfold kas_rev;rw[getElem?_mirror_all (by lia),if_pos ⟨jl _,hk⟩,JQ]
 rw[e i (by lia),e j hj];exact d (m-1-j) (m-1-i) (by lia) (by lia)
theorem gn(O:r8 lt n)(P:K1 p n)(h2:2<=n)(d:RC lt p 2):tOk lt n (kas_descPart 1 n p) (λr=>K1 r.2 n/\1<=r.1/\r.1<=n/\B5 lt r.2 r.1):=by unfold kas_descPart;refine tOk.bind _ ((bQ O P (n-(1+1)) (1+1) (by lia) (by lia) d).mono λr ⟨a,b,c,e,g⟩=>?_);obtain⟨r1,r2,r3⟩:=r;dsimp only at a b c e g ⊢;subst a b;rw[if_neg (yx 0)];unfold kas_tail3;refine tOk.bind _ ((EJ O (GB P) (n-r2) r2 (by lia) (by lia) (Qg P (by lia) g)).mono λm ⟨a1,a2,a3,_⟩=>?_);exact⟨GB P,by lia,by lia,a3⟩
theorem Vq(O:r8 lt n)(P:K1 p n)(h2:2<=n):tOk lt n (kas_count n p) (λr=>K1 r.2 n/\1<=r.1/\r.1<=n/\B5 lt r.2 r.1):=by
 unfold kas_count;refine tOk.bind _ ((EJ O P (n-1) 1 (zg _) (by lia) (λi j _ _=>by lia)).mono λm ⟨a1,a2,a3,a4⟩=>?_);by_cases hm:m=n
 ·rw[if_pos (by simpa using hm)];exact⟨P,a1,by lia,a3⟩
 ·rw[if_neg (by simpa using hm)];by_cases h1:m>1
  ·rw[if_pos h1];refine⟨P.bd (by lia),P.bd (by lia),?_⟩;rw[a3 0 (m-1) (by lia) (by lia)];exact⟨P,a1,by lia,a3⟩
  ·rw[if_neg h1];have em:m=1:=by lia
   subst em;refine gn O P h2 λi j hij hj=>?_;have e1:i=0:=by lia
   have e2:j=1:=by lia
   subst e1 e2;exact a4 (by lia)
theorem QH(O:r8 lt n)(P:K1 p n)(hk:k<n)(u:B5 lt p k):∀f l r,l<=r->r<=k->r-l<=f->(∀i,i<l->lt (p.getD i 0) (p.getD k 0)=true)->(∀i,r<=i->i<k->lt (p.getD k 0) (p.getD i 0)=true)->
 tOk lt n (kas_place p k f l r) (λL=>L<=k/\(∀i,i<L->lt (p.getD i 0) (p.getD k 0)=true)/\∀i,L<=i->i<k->lt (p.getD k 0) (p.getD i 0)=true)
 |0,l,r,h1,h2,h3,a,b=>⟨by lia,a,λi hi=>b i (by lia)⟩
 |f+1,l,r,h1,h2,h3,a,b=>by
   unfold kas_place;by_cases h:l>=r
   ·rw[if_pos h];exact⟨by lia,a,λi hi=>b i (by lia)⟩
   ·rw[if_neg h];have hm1:l<=(l+r) / 2:=by lia
    have hm2:(l+r) / 2<r:=by lia
    refine⟨P.bd hk,P.bd (by lia),?_⟩;rcases e:lt (p.getD k 0) (p.getD ((l+r) / 2) 0)with _|_
    ·
      simp only[jp,if_false];have hl:=O.tot _ _ (P.bd hk) (P.bd (show (l+r) / 2<n by lia)) (P.ne hk (by lia) (by lia)) e;refine QH O P hk u f _ r (by lia) h2 (by lia) (λi hi=>?_) b;by_cases ei:i= (l+r) / 2
      ·rw[ei];exact hl
      ·exact O.tr _ _ _ (u i ((l+r) / 2) (by lia) (by lia)) hl
    ·
      simp only[if_true];refine QH O P hk u f l _ hm1 (by lia) (by lia) a λi hi hik=>?_;by_cases ei:i= (l+r) / 2
      ·rw[ei];exact e
      ·exact O.tr _ _ _ e (u _ i (by lia) hik)
theorem uN(O:r8 lt n):∀f k p,K1 p n->k+f=n->B5 lt p k->tOk lt n (kas_bin f p k) (λq=>K1 q n/\B5 lt q n)
|0,k,p,P,h,u=>⟨P,by rw[<-h];exact u⟩
|f+1,k,p,P,h,u=>by
  unfold kas_bin;refine tOk.bind _ ((QH O P (show k<n by lia) u k 0 k (jl _) (zg _) (by lia) (λi hi=>by lia) (λi h1 h2=>by lia)).mono λL ⟨hL,a,b⟩=>?_);have hs:=P.size;refine uN O f (k+1) _ ⟨(yN.mp (bubble_perm p k (k-L))).trans P.pm⟩ (by lia) ?_;have e:∀i,(bubble p k (k-L)).getD i 0=if i=L then p.getD k 0 else if L<i/\i<=k then p.getD (i-1) 0 else p.getD i 0:=λi=>by
   rw[U6,Jx (by lia) _ (by lia),show k-(k-L)=L by lia];split
   ·rw[<-U6]
   ·split<;>rw[<-U6]
  intro i j hij hj;rw[e i,e j];by_cases h1:i=L
  ·rw[if_pos h1,if_neg (by lia),if_pos (by lia)];exact b (j-1) (by lia) (by lia)
  ·rw[if_neg h1];by_cases h2:j=L
   ·rw[if_pos h2,if_neg (by lia)];exact a i (by lia)
   ·rw[if_neg h2];by_cases h3:L<i
    ·rw[if_pos (by lia),if_pos (by lia)];exact u _ _ (by lia) (by lia)
    ·rw[if_neg (by lia)];by_cases h4:L<j
     ·rw[if_pos (by lia)];by_cases h5:i<j-1
      ·exact u _ _ h5 (by lia)
      ·lia
     ·rw[if_neg (by lia)];exact u _ _ hij (by lia)
theorem Gg(O:r8 lt n)(h2:2<=n):tOk lt n (kas_sort n) (λq=>K1 q n/\B5 lt q n):=by
 unfold kas_sort;refine tOk.bind _ ((Vq O ⟨by simp⟩ h2).mono λr ⟨a,b,c,d⟩=>?_);by_cases h:r.1<n
 ·rw[if_pos h,show max r.1 1=r.1 by lia];exact uN O _ _ _ a (by lia) d
 ·rw[if_neg h];exact⟨a,by rw[show n=r.1 by lia];exact d⟩
end
end DL
namespace DL
open PySem PySem.Spec L2
open PyProof.Rows hiding St
def V5(F:List D->M D):List D->M (List D)
|[]=>pure []
|d::r=>do
  let k <-noX (F [d])
  let ks <-V5 F r
  pure (k::ks)
def gE:D->Option (Int×Str)
| .tup [.int a,.str x]=>some (a,x)
|_=>none
def PR:D->Option (Int×Str)
| .str x=>some (0,x)
|_=>none
def D5(f:D->Option (Int×Str)):List D->Option (List (Int×Str))
|[]=>some []
|d::r=>match f d,D5 f r with
  |some a,some b=>some (a::b)
  |_,_=>none
def A9(l:List D):Option (List (Int×Str)):=match D5 gE l with
|some q=>some q
|none=>D5 PR l
def X5(p q:Int×Str):Bool:=if p.1=q.1 then decide (p.2.cps.toList<q.2.cps.toList)else decide (p.1<q.1)
def C8(p q:(Int×Str)×D):Bool:= !X5 q.1 p.1
def r9(qs:List (Int×Str))(l:List D):List D:=((qs.zip l).mergeSort C8).map (·.2)
def iE(F:List D->M D)(l:List D):M D:=do
 let ks <-V5 F l
 let qs <-Q1 (A9 ks)
 if qs.Nodup then K7 (.lst (r9 qs l))else M.stuck
def eB(F:List D->M D):D->M D
| .tup l=>if l.length<64 then iE F l else M.stuck
| .ref r=>do
  match <-M7 r with
  | .lst l=>if l.length<64 then iE F l else M.stuck
  | .dct l=>do
    let ss <-Q1 (J1 l)
    if ss.length<64 then iE F (ss.map .str)else M.stuck
  |_=>M.stuck
|_=>M.stuck
def eE(F:List D->M D)(f:Fe):Fe:=λσ=>do
 let x <-f σ
 eB F x
theorem DC(p:Int×Str):X5 p p=false:=by unfold X5;rw[if_pos rfl,decide_eq_false];exact List.lt_irrefl _
theorem RA(h1:X5 p q=true)(h2:X5 q r=true):X5 p r=true:=by
 unfold X5 at *;by_cases e1:p.1=q.1
 ·rw[if_pos e1]at h1;by_cases e2:q.1=r.1
  ·rw[if_pos e2]at h2;rw[if_pos (e1.trans e2)];simp only[decide_eq_true_eq]at *;exact List.lt_trans h1 h2
  ·rw[if_neg e2]at h2;rw[if_neg (by rw[e1];exact e2),e1];exact h2
 ·rw[if_neg e1]at h1;simp only[decide_eq_true_eq]at h1;by_cases e2:q.1=r.1
  ·rw[if_pos e2]at h2;rw[if_neg (by rw[<-e2];exact e1),<-e2];exact decide_eq_true h1
  ·rw[if_neg e2]at h2;simp only[decide_eq_true_eq]at h2;rw[if_neg (by lia)];exact decide_eq_true (by lia)
theorem QE(h:p≠q)(h1:X5 p q=false):X5 q p=true:=by
 unfold X5 at *;by_cases e1:p.1=q.1
 ·rw[if_pos e1]at h1;rw[if_pos e1.symm];simp only[decide_eq_false_iff_not,decide_eq_true_eq]at *;have hle:q.2.cps.toList<=p.2.cps.toList:=h1;refine yM λn=>h ?_;have hle2:p.2.cps.toList<=q.2.cps.toList:=n;have e:=List.le_antisymm hle2 hle
  cases p with|mk a x=>cases q with|mk b y=>
  dsimp only at e1 e;subst e1;congr 1
  cases x;cases y
  congr 1;exact ZM.mp e
 ·rw[if_neg e1]at h1;rw[if_neg (λe=>e1 e.symm)];simp only[decide_eq_false_iff_not,decide_eq_true_eq]at *;lia
theorem gz{qs:List (Int×Str)}(nd:qs.Nodup):∀a∈qs.zip l,∀b∈qs.zip l,a.1=b.1->a=b:=by intro a ha b hb e;obtain⟨i,hi,rfl⟩:=xB.mp ha;obtain⟨j,hj,rfl⟩:=xB.mp hb;simp only[List.getElem_zip]at e ⊢;have:=(ZP nd).mp e;subst this;rfl
theorem qN(nd:qs.Nodup){z:List ((Int×Str)×D)}(hp:z.Perm (qs.zip l))(hs:z.Pairwise λa b=>C8 a b=true):z.map (·.2)=r9 qs l:=by
 unfold r9;congr 1;have h2:((qs.zip l).mergeSort C8).Pairwise λa b=>C8 a b=true:=Jz (λa b c h1 h2=>by
  unfold C8 at *;simp only[yD]at *;refine jO.mpr λh=>?_;by_cases e:a.1=b.1
  ·rw[e]at h;rw[h]at h2;cases h2
  ·have:=RA h (QE (λz=>e z.symm) h1);rw[this]at h2;cases h2) (λa b=>by
  unfold C8;by_cases e:a.1=b.1
  ·rw[e,DC];rfl
  ·cases q:X5 b.1 a.1 with
   |false=>rfl
   |true=>
     have:X5 a.1 b.1=false:=by refine jO.mpr λh=>?_;have:=RA q h;rw[DC]at this;cases this
     rw[this];rfl) _
 refine List.Perm.eq_of_pairwise (λa b ha hb h1 h2=>?_) hs h2 (hp.trans (YC _ _).symm);refine gz nd a (hp.mem_iff.mp ha) b ((YC _ _).mem_iff.mp hb) (yM λn=>?_);unfold C8 at *;simp only[yD]at *;have:=QE (λz=>n z.symm) h1;rw[this]at h2;cases h2
def Cx.rm(X:Cx)(A:zL):Cx:={X with A:=A,xe:=λ_ _=>False}
section
theorem Gp(I:Inv X om σ H s)(h1:A.handled=X.A.handled)(h2:A.frames=X.A.frames/\A.guards=X.A.guards):Inv (Cx.rm X A) om σ H s:=
 ⟨⟨I.ok.mod,I.ok.kind,I.ok.glob,I.ok.blt,I.ok.above,I.ok.inj,I.ok.has,I.ok.cab,λc=>h1.trans (I.ok.hd c),h2.1.trans I.ok.frames,I.ok.stk,I.ok.exf,I.ok.bs,I.ok.bsz,I.ok.noex,I.ok.exfs,I.ok.funs,I.ok.frf,h2.2.trans I.ok.gd⟩,I.os,I.bare,I.base,I.loc,I.cell,I.free,I.freeC,I.pin,I.hok,I.len⟩
theorem kc(I:Inv (Cx.rm X A) om σ H s)(h1:A.handled=X.A.handled)(h2:A.frames=X.A.frames/\A.guards=X.A.guards):Inv X om σ H s:=
 ⟨⟨I.ok.mod,I.ok.kind,I.ok.glob,I.ok.blt,I.ok.above,I.ok.inj,I.ok.has,I.ok.cab,λc=>h1.symm.trans (I.ok.hd c),h2.1.symm.trans I.ok.frames,I.ok.stk,I.ok.exf,I.ok.bs,I.ok.bsz,I.ok.noex,I.ok.exfs,I.ok.funs,I.ok.frf,h2.2.symm.trans I.ok.gd⟩,I.os,I.bare,I.base,I.loc,I.cell,I.free,I.freeC,I.pin,I.hok,I.len⟩
theorem RM(hF:V2 X.prog X.w X.K X.mg X.base CX0 k f fd ps (spD (wc X) 1 F))(hb:y4 X.K fd ps [])(hA:K8 k A)(h1:A.handled=X.A.handled)(h2:A.frames=X.A.frames/\A.guards=X.A.guards){a kS:Addr}{e1:Nat}
 (fa:∀H':Hp,H' a=none->T0 X om H' a) (fk:∀H':Hp,H' kS=none->T0 X om H' kS) (ne:a≠kS) {R:zh->Prop}
 (hbd:∀x s (R:zh->Prop),zq (zz X.prog X.w) A (call (.ref f) [x]) (λk s'=>∃ks e,List.length ks<64/\s'.heap.get? kS=some (jF "list" (zJ ks) e)/\R {s' with heap:=s'.heap.update kS (jV (·.push k))}) (λ_ _=>False) s->
   zq (zz X.prog X.w) A (body x ⟨⟩) (λr s'=>r= .yield ⟨⟩/\R s') E s):∀(r:List D) (rv:List V) ru (dn:List D) (dv:List V) (du:List ze) (e:Nat) (μ:List Addr) (G:DH) (H:Hp) (s:zh),
   g8 (wc X) μ H r rv->m6 rv ru->g8 (wc X) μ H dn dv->m6 dv du->j9 (wc X) μ G H->Inv X om σ H s->s.heap.get? kS=some (jF "list" (zJ du) e)->s.heap.get? a=some (jF "list" #[] e1)->H a=none->H kS=none->du.length+ru.length<64->
   c7 (wc X) ZF μ H (V5 F r G) (λks X2 G' H'=>∀(s':zh) (kv:List V) (ku:List ze) (e':Nat),Ext μ H X2 H'->j9 (wc X) X2 G' H'->g8 (wc X) X2 H' (dn++ks) kv->m6 kv ku->Inv X om σ H' s'->s'.heap.get? kS=some (jF "list" (zJ ku) e')->s'.heap.get? a=some (jF "list" #[] e1)->H' a=none->H' kS=none->R s')->
   zq (zz X.prog X.w) A (forIn ru PUnit.unit body) (λ_ s'=>R s') E s
 |[],_,_,dn,dv,du,e,μ,G,H,s,r1,r2,q1,q2,hr,I,g1,g2,n1,n2,hl,p=>by
   cases r1;cases r2
   rw[XV];exact zm (c7.ok p hr s dv du e (Ext.refl _ _) hr (by rw[ji];exact q1) q2 I g1 g2 n1 n2)
 |d::r,_,_,dn,dv,du,e,μ,G,H,s,r1,r2,q1,q2,hr,I,g1,g2,n1,n2,hl,p=>by
   obtain⟨v,rv,rfl,rd,rr⟩:=r1
   cases r2 with
   |cons ru rur=>
   rename_i u ur;rw[Yj];have hfp:∀b∈ [a,kS],T0 X om H b:=λb hb=>by
    rcases zk.mp hb with rfl|hb
    ·exact fa H n1
    ·rw[zt]at hb;subst hb;exact fk H n2
   have IX:=Gp (I.pinned hfp (λb hb=>by
    rcases zk.mp hb with rfl|hb
    ·exact⟨_,g2,λv z=>by cases z⟩
    ·rw[zt]at hb;subst hb;exact⟨_,g1,λv z=>by cases z⟩)) h1 h2
   have pb:=mJ (c7.bind p);have call:=TD (X:=Cx.rm X A) (Q:=λv' H'=>∃k X0 G1,Ext μ H X0 H'/\j9 (wc X) X0 G1 H'/\d7 (wc X) X0 H' k v'/\c7 (wc X) ZF X0 H' ((V5 F r >>= λks=>pure (k::ks)) G1) _) hF hA hb .nil EF IX (show m6 [v] [u]from .cons ru .nil)
    (⟨rfl, [d],μ,G,⟨v, [],rfl,rd,rfl⟩,hr,pb.mono λk X0 G1 H1 x1 hr1 p1 v' rv'=>⟨k,X0,G1,x1,hr1,rv',p1⟩⟩)
   refine za (jg (hbd u s (λs'=>zq (zz X.prog X.w) A (forIn ur PUnit.unit body) (λ_ s'=>R s') E s') (jg call (λkv s' hk=>?_) λ_ _ z=>z)) (λq s' hq=>?_) λ_ _ z=>z)
   ·obtain⟨v',H',I',rv',k0,X0,G1,x1,hr1,rk,p1⟩:=hk;have I2:=kc I' h1 h2;obtain⟨g1',n2',_⟩:=I2.pin (kS,jF "list" (zJ du) e) (zG _ (zG _ (V1 (by simp) g1)));obtain⟨g2',n1',_⟩:=I2.pin (a,jF "list" #[] e1) (zG _ (zG _ (V1 (by simp) g2)));rw[zD]at hl;refine⟨du,e,by lia,g1',?_⟩;have ea:(zJ du).push kv=zJ (du++[kv]):=by simp
    obtain⟨c2,hc2⟩:∃c2,(s'.heap.update kS (jV (·.push kv))).get? kS=some (jF "list" (zJ (du++[kv])) c2):=⟨_,by rw[<-ea];exact Jy g1' (·.push kv)⟩;have I3:=iJ (h':=s'.heap.update kS (jV (·.push kv))) (t':=s'.toks) I2.unpinned (λb hb=>by rw[zt]at hb;subst hb;exact fk H' n2') (λb o hb e=>by rw[zt]at hb;rw[xf _ _ _ _ hb];exact e)
    refine RM hF hb hA h1 h2 fa fk ne hbd r rv ur (dn++[k0]) (dv++[v']) (du++[kv]) c2 X0 G1 H' _ (rr.mono x1) rur (g8.append (q1.mono x1) ⟨v', [],rfl,rk,rfl⟩) (q2.append (show m6 [v'] [kv]from .cons rv' .nil)) hr1 I3 hc2 (by rw[xf _ _ _ _ ne];exact g2') n1' n2' (by rw[zd,yQ];lia) ?_;refine(c7.bind p1).mono λks WW G2 H2 x2 hr2 p2 s3 kv2 ku2 e2 x2' hr2' a1 a2 a3 a4 a5 a6 a7=>?_;exact c7.ok p2 hr2 s3 kv2 ku2 e2 (x1.trans x2) hr2 (by rw[zo]at a1;exact a1) a2 a3 a4 a5 a6 a7
   ·obtain⟨rfl,hq⟩:=hq;exact hq
theorem Kh{ch:List Addr}(I:Inv X om σ H s)(hf:∀b∈ch,T0 X om H b)(ha:a∈ch)(k:∀b o,b∉ch->s.heap.get? b=some o->h'.get? b=some o)
 (new:R0 X.prog X.w (upd H a (.lst ws)) h' a (.lst ws)):Inv X om σ (upd H a (.lst ws)) {s with heap:=h',toks:=t'}:=by
 have hq:H a=none:=(hf a ha).1;have nch:∀b u,H b=some u->b∉ch:=λb u e z=>by rw[(hf b z).1]at e;cases e
 refine I.step (λb hb=>⟨(hf b hb).2.2.2.1,(hf b hb).2.1,(hf b hb).2.2.2.2.1,(hf b hb).2.2.2.2.2⟩) (λb o _ _ hc e _=>k b o hc e) (λb o _ _ hc e _=>⟨o.slots,k b o hc e⟩)
  (λb o hc e n=>by rw[m7 (λz=>hc (by rw[z];exact ha))];exact n) (λb o hc e=>⟨o,k b o hc e⟩) (λb xs e=>by rw[m7 (m8 e hq)];exact e) (λb o u e=>by rw[m7 (m8 e hq)];exact e)
  (λb ps e=>⟨#[],by rw[m7 (m8 e hq),e];simp⟩) (λm hm=>?_) (λb u e=>?_) I.bare
 ·obtain⟨o,es,ep,ho,r⟩:=hm;exact⟨o,es,ep,k _ o (λz=>(hf _ z).2.1 rfl) ho,r⟩
 ·by_cases hb:b=a
  ·subst hb;rw[v9]at e
   cases e
   exact new
  ·rw[m7 hb]at e;refine(I.hok b u e).stay (λc v hc q=>k c v ?_ q) (λc q=>by rw[m7 (m8 q hq)];exact q) λc xs q=>by rw[m7 (m8 q hq)];exact q
   rcases hc with z|z
   ·rw[z];exact nch b u e
   ·exact nch c _ z
def FB(h:Heap)(u:ze)(q:Int×Str):Prop:=∃a t t',u= .ref a/\Yr h a #[.int q.1 t,.str q.2 t']
def pB(u:ze)(q:Int×Str):Prop:=∃t,q.1=0/\u= .str q.2 t
def y9(P:ze->Int×Str->Prop)(ku:List ze)(qs:List (Int×Str)):Prop:=∀(i:Nat) (q:Int×Str),qs[i]? =some q->∃u,ku[i]? =some u/\P u q
theorem CJ{g:D->Option (Int×Str)}{P:ze->Int×Str->Prop}(hg:∀d q v u,g d=some q->d7 (wc X) μ H d v->u5 v u->P u q):∀ {ks qs kv ku},D5 g ks=some qs->g8 (wc X) μ H ks kv->m6 kv ku->qs.length=ku.length/\y9 P ku qs
|[],qs,kv,ku,e,r,rv=>by
  cases e;cases r;cases rv
  exact⟨rfl,λi q z=>by simp at z⟩
|d::r,qs,kv,ku,e,rr,rv=>by
  obtain⟨v,tl,rfl,rd,rt⟩:=rr
  cases rv with
  |cons ru rur=>
  rename_i u ur;unfold D5 at e;rcases h1:g d with _|a
  ·rw[h1]at e;cases e
  rcases h2:D5 g r with _|b
  ·rw[h1,h2]at e;cases e
  rw[h1,h2]at e
  cases e
  obtain⟨hl,hk⟩:=CJ hg h2 rt rur;refine⟨by simp[hl],λi q z=>?_⟩
  cases i with
  |succ i=>simpa using hk i q (by simpa using z)
  |zero=>
    simp at z;subst z;exact⟨u,rfl,hg d a v u h1 rd ru⟩
theorem KZ(I:Inv X om σ H s){ks qs kv ku}(e:A9 ks=some qs)(rr:g8 (wc X) μ H ks kv)(rv:m6 kv ku):qs.length=ku.length/\(y9 (FB s.heap) ku qs\/y9 pB ku qs):=by
 unfold A9 at e;rcases h:D5 gE ks with _|q
 ·rw[h]at e;have:=CJ (P:=pB) (λd q v u h1 rd ru=>by
   rcases d with _|_|_|x|_|_|_|_<;>try (cases h1;done)
   cases h1
   rw[S1 rd]at ru;obtain⟨t,rfl⟩:=ru;exact⟨t,rfl,rfl⟩) e rr rv
  exact⟨this.1,.inr this.2⟩
 ·rw[h]at e
  cases e
  have:=CJ (P:=FB s.heap) (λd q v u h1 rd ru=>by
   unfold gE at h1;split at h1
   ·cases h1
    unfold d7 at rd;obtain⟨ad,vs,rfl,q,rl⟩:=rd;obtain⟨v1,t1,rfl,e1,v2,t2,rfl,e2,e3⟩:=rl
    cases e3
    rw[W0 e1,S1 e2]at q
    cases ru
    obtain⟨ou,rvs,tp,_⟩:=I.tuple q
    cases rvs with
    |cons r1 rr1=>
      cases rr1 with
      |cons r2 rr2=>
        cases rr2
        obtain⟨t,rfl⟩:=r1;obtain⟨t',rfl⟩:=r2;exact⟨ad,t,t',rfl,tp⟩
   ·cases h1) h rr rv
  exact⟨this.1,.inl this.2⟩
theorem BX(hx:pB u q)(hy:pB u' q')(h:C (X5 q q') s):zq (zz prog w) A (keyLt' Yq u u') C E s:=by obtain⟨t,e,rfl⟩:=hx;obtain⟨t',e',rfl⟩:=hy;rw[JP];unfold X5 at h;rw[if_pos (e.trans e'.symm)]at h;exact oneLt_str h
theorem cw(hx:FB s.heap u q)(hy:FB s.heap u' q')(h:C (X5 q q') s):zq (zz prog w) A (keyLt' (tuples' true) u u') C E s:=by
 obtain⟨a,t,t',rfl,o,ho,hc,n,hd⟩:=hx;obtain⟨b,v,v',rfl,o2,ql,hc2,n2,hd2⟩:=hy;refine PySem.W.kat_lt ho hd ql hd2 ?_;show PySem.W.KatLex prog w A true _ C [(.int q.1 t,.int q'.1 v),(.str q.2 t',.str q'.2 v')] 0 s;refine ZD (Zb (Yf (λe=>?_) λe=>?_))
 ·have e1:q.1=q'.1:=by simpa using e
  refine ZN (ZD (eqBool_str (Yf (λe=>?_) λe=>?_)))
  ·have e2:q.2=q'.2:=by simpa using e
   have eq:q=q':=Prod.ext e1 e2;refine ZN (PySem.W.kat_nil ?_);rw[eq,DC]at h;exact h
  ·refine Ye (PySem.W.kat_one _ _ (PySem.P.lt_str ?_));unfold X5 at h;rw[if_pos e1]at h;exact h
 ·have e1:¬q.1=q'.1:=by simpa using e
  refine Ye ?_;show zq (zz prog w) A (oneLt' true _ _) C _ s;rw[<-JP];refine JM ?_;unfold X5 at h;rw[if_neg e1]at h;exact h
theorem vG{st:Zl}(hout:(ym st).map (·.2)=zJ out)(hz:out.length<64)(hkz:ku.length<64)(hf:Zp st=none)(ho1:s.heap.get? kS=some (jF "list" (zJ ku) e))(ql:s.heap.get? a=some (jF "list" #[] e1))(ne:a≠kS)
 (h:∀(h':Heap) (e':Nat),(∀b o,b∉ [a,kS]->s.heap.get? b=some o->h'.get? b=some o)->h'.get? a=some (jF "list" (zJ out) e')->P (.done (.ret .none)) {s with heap:=h'}):zq (zz prog w) A (ksk_tail a false e1 (.ref kS) st) P E s:=by
 have na:(s.heap.update kS (jV λ_=>(#[]:Array ze))).get? a=some (jF "list" #[] e1):=by rw[xf _ _ _ _ ne];exact ql
 obtain⟨c2,hc2⟩:∃c2,((s.heap.update kS (jV λ_=>(#[]:Array ze))).update a (jV λ_=>zJ out)).get? a=some (jF "list" (zJ out) c2):=⟨_,Jy na λ_=>zJ out⟩;unfold ksk_tail
 try dsimp only
 rw[hout];refine za (Xn ho1 rfl ?_ (by rw[zn,yF];lia) (jl _));refine za (xX ?_);refine za (seqEpoch_at na rfl ?_);refine za (Xn na rfl ?_ (jl _) (jc (Xf (zn ..)) (by rw[yF];lia)));rw[hf];simp only[bne_self_eq_false,jp,if_false];refine zm (h _ c2 (λb o hb eo=>?_) hc2);have si:b≠a/\b≠kS:=by simpa using hb
 rw[xf _ _ _ _ si.1,xf _ _ _ _ si.2];exact eo
theorem qg{qs:List (Int×Str)}{ku:List ze}(hq:qs.length=ku.length)(h2:2<=ku.length)(hk:y9 (FB s.heap) ku qs\/y9 pB ku qs):∃kd,(∀(Q:SortKind->zh->Prop) (E:VSP),Q kd s->zq (zz prog w) A (keyKind' ku.toArray) Q E s)/\∀(i j:Nat) q q' C,qs[i]? =some q->qs[j]? =some q'->C (X5 q q') s->Zc prog w A kd ku i j C s:=by
 rcases hk with hk|hk
 ·obtain⟨fs,T,hfs,hT⟩:∃fs:List ze,ZO s.heap ku fs/\0<fs.length/\∀v∈fs,∃n t,v= .int n t:=by
   have gen:∀(ku:List ze) (qs:List (Int×Str)),qs.length=ku.length->y9 (FB s.heap) ku qs->∃fs:List ze,ZO s.heap ku fs/\fs.length=ku.length/\∀v∈fs,∃n t,v= .int n t:=by
    intro ku
    induction ku with
    |nil=>exact λqs _ _=>⟨[],trivial,rfl,λv hv=>by cases hv⟩
    |cons u r ih=>
      intro qs hl hk;rcases qs with _|⟨q,qr⟩
      ·simp at hl
      obtain⟨u',e1,ad,t,t',rfl,o,ho,hc,n,hd⟩:=hk 0 q rfl;simp at e1;subst e1;obtain⟨fs,f1,f2,f3⟩:=ih qr (by simpa using hl) λi q hq=>by simpa using hk (i+1) q (by simpa using hq)
      refine⟨.int q.1 t::fs,Xb ho hc hd rfl f1,by simp[f2],λv hv=>?_⟩;rcases zk.mp hv with rfl|hv
      ·exact⟨_,_,rfl⟩
      ·exact f3 v hv
   obtain⟨fs,f1,f2,f3⟩:=gen ku qs hq hk;exact⟨fs,f1,by lia,f3⟩
  refine⟨_,λQ E h=>PySem.W.kat_kind (T:=.type "int") T hfs (λv hv=>?_) (by decide) h,λi j q q' C e1 e2 hC=>?_⟩
  ·obtain⟨n,t,rfl⟩:=hT v hv;exact Xk rfl
  ·obtain⟨u,u1,u2⟩:=hk i _ e1;obtain⟨v,v1,v2⟩:=hk j _ e2;unfold Zc;rw[zv,zv,u1,v1];exact cw u2 v2 hC
 ·have gen:∀(ku:List ze) (qs:List (Int×Str)),qs.length=ku.length->y9 pB ku qs->StrsAre ku (qs.map (·.2)):=by
   intro ku
   induction ku with
   |nil=>
     intro qs hl _;rcases qs with _|⟨q,r⟩
     ·exact .nil
     ·simp at hl
   |cons u r ih=>
     intro qs hl hk;rcases qs with _|⟨q,qr⟩
     ·simp at hl
     obtain⟨u',e1,t,_,rfl⟩:=hk 0 q rfl;simp at e1;subst e1;exact .cons q.2 t (ih qr (by simpa using hl) λi q hq=>by simpa using hk (i+1) q (by simpa using hq))
  have hS:=gen ku qs hq hk;refine⟨Yq,λQ E h=>?_,λi j q q' C e1 e2 hC=>?_⟩
  ·rcases ku with _|⟨v1,_|⟨v2,vr⟩⟩
   ·simp at h2
   ·simp at h2
   ·rw[keyKind_strs hS];exact zm h
  ·obtain⟨u,u1,u2⟩:=hk i _ e1;obtain⟨v,v1,v2⟩:=hk j _ e2;unfold Zc;rw[zv,zv,u1,v1];exact BX u2 v2 hC
theorem AT{e e1:Nat}{ku vs:List ze}{qs:List (Int×Str)}(hl:ku.length=vs.length)(sf:vs.length<64)(hq:qs.length=ku.length)(hk:y9 (FB s.heap) ku qs\/y9 pB ku qs)(nd:qs.Nodup)
 (ho1:s.heap.get? kS=some (jF "list" (zJ ku) e)) (ql:s.heap.get? a=some (jF "list" #[] e1)) (ne:a≠kS)
 (h:∀(h':Heap) (e':Nat) (p:List Nat),p.Perm (zR vs.length)->p.Pairwise (λi j=>X5 (qs.getD i (0, "")) (qs.getD j (0, ""))=true)->(∀b o,b∉ [a,kS]->s.heap.get? b=some o->h'.get? b=some o)->h'.get? a=some (jF "list" (zJ (p.map λi=>vs.getD i Value.none)) e')->P (.done (.ret .none)) {s with heap:=h'}):
 zq (zz prog w) A (ksk_end a false vs.toArray e1 (.ref kS) (zJ ku)) P E s:=by
 unfold ksk_end
 try dsimp only
 simp only[jp,if_false];by_cases h2:vs.toArray.size<2
 ·rw[if_pos h2,if_pos h2];refine za (zm ?_);rw[StateT.run_pure];refine za (zm ?_);dsimp only;have hv:(ym (SortSt.mk' general' ((zJ ku).zip vs.toArray) #[] 7 none)).map (·.2)=zJ ((zR vs.length).map λi=>vs.getD i Value.none):=by
   show ((zJ ku).zip vs.toArray).map (·.2)=_;apply ZM.mp;rw[Array.toList_map];apply xZ
   ·simp[hl]
   ·intro i hi hj;simp at hi hj ⊢;simp[hj]
  refine vG hv (by simp;lia) (by lia) rfl ho1 ql ne λh' e' k1 k2=>h h' e' _ (List.Perm.refl _) ?_ k1 k2;have:vs.length<2:=by simpa using h2
  match hn:vs.length,this with
  |0,_=>simp
  |1,_=>simp[Xx]
 ·rw[if_neg h2,if_neg h2];have hn2:2<=vs.length:=by simpa using h2
  let lt:Nat->Nat->Bool:=λi j=>X5 (qs.getD i (0, "")) (qs.getD j (0, ""))
  have gq:∀i,i<vs.length->qs[i]? =some (qs.getD i (0, "")):=λi hi=>by rw[zv,zr (by lia)];rfl
  have O:r8 lt vs.length:=⟨λi j k h1 h2=>RA h1 h2,λi j hi hj hij h=>QE (λee=>hij ?_) h⟩
  case refine_1=>
   have e1:=gq i hi;have e2:=gq j hj;rw[ee]at e1;have li:i<qs.length:=by lia
   exact(List.getElem?_inj li nd).mp (e1.trans e2.symm)
  obtain⟨kd,hkd,pj⟩:=qg hq (by lia) hk;refine za (hkd _ _ ?_)
  ·have run:=tOk.wp (λi j C hi hj hC=>pj i j _ _ C (gq i hi) (gq j hj) hC) _ (Gg O hn2);refine za (jg (PySem.W.kat_run (Q:=λpc s'=>∃p:Array Nat,p.size=vs.length/\ym pc=p.map (PySem.W.kas_item ((zJ ku).zip vs.toArray))/\Zp pc=none/\s'=s/\K1 p vs.length/\B5 lt p vs.length) hl hn2 sf (λp pc s' a1 a2 a3 a4=>⟨p,a1,a2,a3,a4⟩) run) ?_ λ_ _ x=>x);rintro⟨⟨⟩,pc⟩ s' ⟨p,hp,har,hf,rfl,P1,U⟩
   try dsimp only
   refine vG (PySem.W.kat_snds hl har) (by rw[zE,zV,hp];exact sf) (by lia) hf ho1 ql ne λh' e' k1 k2=>h h' e' p.toList P1.pm ?_ k1 k2;rw[ZB];intro i j hi hj hij;have hi':i<p.size:=by simpa using hi
   have hj':j<p.size:=by simpa using hj
   have:=U i j hij (by lia);simpa [ZV,hi',hj',lt]using this
theorem Tk{p:List Nat}{l:List α}(h:p.Perm (zR n))(hn:l.length=n):(p.map λi=>l.getD i d).Perm l:=by
 have e:(zR n).map (λi=>l.getD i d)=l:=by
  apply xZ
  ·simp[hn]
  ·intro i hi hj;simp[hj]
 have:=h.map λi=>l.getD i d;rw[e]at this;exact this
theorem IH{qs:List (Int×Str)}{l:List D}(h1:i<qs.length)(h2:i<l.length):(qs.zip l).getD i ((0, ""),.non)= (qs[i],l[i]):=by rw[zv,zr (by simp;lia),List.getElem_zip];rfl
theorem lX{qs:List (Int×Str)}{vs:List ze}{p:List Nat}(hl:qs.length=l.length)(rl:g8 (wc X) μ H l ws)(rv:m6 ws vs)(nd:qs.Nodup)(hp:p.Perm (zR vs.length))(hs:p.Pairwise (λi j=>X5 (qs.getD i (0, "")) (qs.getD j (0, ""))=true)):
 ∃ws',m6 ws' (p.map λi=>vs.getD i Value.none)/\g8 (wc X) μ H (r9 qs l) ws'/\ws'.length=vs.length:=by
 have hlv:l.length=vs.length:=by rw[rl.length,rv.length]
 have hz:(qs.zip l).length=vs.length:=by simp[hl,hlv]
 have e:=qN nd (Tk hp hz) (by
  rw[yW];refine hs.imp_of_mem λ{i j} hi hj h=>?_;have li:i<vs.length:=by simpa using hp.mem_iff.mp hi
  have lj:j<vs.length:=by simpa using hp.mem_iff.mp hj
  have ei:((qs.zip l).getD i ((0, ""),.non)).1=qs.getD i (0, ""):=by rw[IH (by lia) (by lia),zv,zr (by lia)];rfl
  have ej:((qs.zip l).getD j ((0, ""),.non)).1=qs.getD j (0, ""):=by rw[IH (by lia) (by lia),zv,zr (by lia)];rfl
  unfold C8;rw[ei,ej];simp only[yD];refine jO.mpr λh2=>?_;have:=RA h h2;rw[DC]at this;cases this)
 rw[Zm]at e;have main:∀p:List Nat,(∀i∈p,i<vs.length)->∃ws',m6 ws' (p.map λi=>vs.getD i Value.none)/\g8 (wc X) μ H (p.map λi=>((qs.zip l).getD i ((0, ""),.non)).2) ws'/\ws'.length=p.length:=by
  intro p
  induction p with
  |nil=>exact λ_=>⟨[],.nil,rfl,rfl⟩
  |cons i r ih=>
    intro hi;obtain⟨ws',a1,a2,a3⟩:=ih λj hj=>hi j (zP _ hj);have li:=hi i (by simp);obtain⟨v,e1,r1⟩:=rl.get (d:=l[i]'(by lia)) (zr (by lia));obtain⟨u,e2,r2⟩:=rv.get e1;refine⟨v::ws',?_,⟨v,ws',rfl,?_,a2⟩,by simp[a3]⟩
    ·have:vs.getD i Value.none=u:=by rw[zv,e2];rfl
     rw[zW,this];exact .cons r2 a1
    ·have:((qs.zip l).getD i ((0, ""),.non)).2=l[i]'(by lia):=by rw[IH (by lia) (by lia)]
     show d7 (wc X) μ H (((qs.zip l).getD i ((0, ""),.non)).2) v;rw[this];exact r1
 obtain⟨ws',a1,a2,a3⟩:=main p λi hi=>by simpa using hp.mem_iff.mp hi
 exact⟨ws',a1,by rw[<-e];exact a2,by rw[a3,hp.length_eq];simp⟩
def oA(KP:List D->Option α)(B:α->List D->M D)(F:List D->M D)(l:List D):M D:=do
 let ks <-V5 F l
 let qs <-Q1 (KP ks)
 B qs l
def iF(X:Cx)(Z:XC)(σ:St)(l:List D)(KP:List D->Option α)(B:α->List D->M D):Prop:=∀ {qs:α} {ks:List D} {s:zh} {om:PNS} {μ:List Addr} {G:DH} {H:Hp} {kv ws:List V} {ku vs:List ze} {a kS:Addr} {e e1:Nat} {A:zL} {E:VSP} {P:Fin->zh->Prop} {K:D->List Addr->DH->Hp->Prop},
 Inv X om σ H s->KP ks=some qs->g8 (wc X) μ H ks kv->m6 kv ku->g8 (wc X) μ H l ws->m6 ws vs->ku.length=vs.length->vs.length<64->s.heap.get? kS=some (jF "list" (zJ ku) e)->s.heap.get? a=some (jF "list" #[] e1)->a≠kS->c7 (wc X) Z μ H (B qs l G) K->
 (∀h' e' l' ws' us,(∀b o,b∉ [a,kS]->s.heap.get? b=some o->h'.get? b=some o)->h'.get? a=some (jF "list" (zJ us) e')->m6 ws' us->g8 (wc X) μ H l' ws'->ws'.length=vs.length->c7 (wc X) Z μ H (K7 (.lst l') G) K->P (.done (.ret .none)) {s with heap:=h'})->
 zq (zz X.prog X.w) A (ksk_end a false vs.toArray e1 (.ref kS) (zJ ku)) P E s
theorem AL{KP:List D->Option α}{B:α->List D->M D}{Q:VK}(hE:iF X Z σ l KP B)(hF:V2 X.prog X.w X.K X.mg X.base CX0 k f fd ps (spD (wc X) 1 F))(hb:y4 X.K fd ps [])(hrm:K8 (k+2) X.A)(I:Inv X om σ H s)(hr:j9 (wc X) μ G H)(sf:l.length<64)
 (hcol:∀Q',(∀h1 tk vs ws,(∀b o,s.heap.get? b=some o->h1.get? b=some o)->m6 ws vs->g8 (wc X) μ H l ws->Q' vs {s with heap:=h1,toks:=tk})->zq (zz X.prog X.w) X.A.in1 (collect u) Q' X.xe s)
 (p:c7 (wc X) Z μ H (oA KP B F l G) (λd X2 _ H'=>∀v,d7 (wc X) X2 H' d v->Q v H')):zq (zz X.prog X.w) X.A (call (.builtin "sorted") [u] [(yw "key",.ref f)]) (EP X om σ Q) X.xe s:=by
 refine call_function_entry_kw kind_sorted plain_sorted entry_sorted (ksk_s1 _ _) ?_;unfold xR.«sorted»;refine za (zm ?_);refine za (hcol _ λh1 tk vs ws k1 rv rl=>?_);have hlv:l.length=vs.length:=by rw[rl.length,rv.length]
 refine za (wpAny_newList ?_ (by rw[yF];lia));have I1:Inv X om σ H {s with heap:=h1,toks:=tk}:=I.kept k1;have hoL:(h1.push (jF "list" vs.toArray 0)).get? h1.objs.size=some (jF "list" vs.toArray 0):=zy _ rfl;refine za (jQ (wpAny_call_entry_kw slot_list_sort ⟨_,hoL,rfl⟩ entry_list_sort ?_ (ksk_l1 _ _)));show zq (zz X.prog X.w) X.A.in1.in1 (xR.«list.sort» ⟨[.ref h1.objs.size], [(yw "key",.ref f)]⟩) _ _ _;rw[ksk_t1];unfold ksk_tree;refine za (listItems_at hoL rfl ?_);refine za (Xn hoL rfl ?_ (by rw[zn,yF];lia) (jl _));obtain⟨e1,ho1⟩:∃e1,((h1.push (jF "list" vs.toArray 0)).update h1.objs.size (jV λ_=>(#[]:Array ze))).get? h1.objs.size=some (jF "list" #[] e1):=⟨_,Jy hoL λ_=> #[]⟩;refine za (seqEpoch_at ho1 rfl ?_);refine za (wpAny_newTuple ?_ (by show vs.length<=_;rw[yF];lia));refine za (wpAny_newList ?_ (jl _));refine jQ ?_;have hsz:((h1.push (jF "list" vs.toArray 0)).update h1.objs.size (jV λ_=>(#[]:Array ze))).objs.size=h1.objs.size+1:=by rw[Heap.size_update,size_push']
 have hkS:(((h1.push (jF "list" vs.toArray 0)).update h1.objs.size (jV λ_=>(#[]:Array ze))).push (jF "tuple" vs.toArray 0)).objs.size=h1.objs.size+2:=by rw[size_push',hsz]
 have keep:∀b o,h1.get? b=some o->((((h1.push (jF "list" vs.toArray 0)).update h1.objs.size (jV λ_=>(#[]:Array ze))).push (jF "tuple" vs.toArray 0)).push (jF "list" #[] 0)).get? b=some o:=λb o q=>by have pj:b<h1.objs.size:=zj q;rw[YW _ _ _ (by rw[hkS];exact zu (xz (xz pj))),YW _ _ _ (by rw[hsz];exact zu (xz pj)),xf _ _ _ _ (zu pj),YW _ _ _ (zu pj)];exact q
 have I2:Inv X om σ H {s with heap:=(((h1.push (jF "list" vs.toArray 0)).update h1.objs.size (jV λ_=>(#[]:Array ze))).push (jF "tuple" vs.toArray 0)).push (jF "list" #[] 0),toks:=tk}:=I1.kept keep;have na:H h1.objs.size=none:=I1.hok.fresh (zg _);have nk:H (h1.objs.size+2)=none:=I1.hok.fresh (jM _ _);have ga:((((h1.push (jF "list" vs.toArray 0)).update h1.objs.size (jV λ_=>(#[]:Array ze))).push (jF "tuple" vs.toArray 0)).push (jF "list" #[] 0)).get? h1.objs.size=some (jF "list" #[] e1):=zf _ (zf _ ho1);have gk:((((h1.push (jF "list" vs.toArray 0)).update h1.objs.size (jV λ_=>(#[]:Array ze))).push (jF "tuple" vs.toArray 0)).push (jF "list" #[] 0)).get? (h1.objs.size+2)=some (jF "list" (zJ []) 0):=by rw[<-hkS];exact zy _ rfl
 have fa:∀H':Hp,H' h1.objs.size=none->T0 X om H' h1.objs.size:=λH' hn=>I1.fpOk (zg _) hn;have fk:∀H':Hp,H' (h1.objs.size+2)=none->T0 X om H' (h1.objs.size+2):=λH' hn=>I1.fpOk (jM _ _) hn;have ne:h1.objs.size≠h1.objs.size+2:=by lia
 unfold oA at p;have pk:c7 (wc X) ZF μ H (V5 F l G) (λks X2 G' H'=>ks.length=l.length/\c7 (wc X) Z X2 H' ((Q1 (KP ks) >>= λqs=>B qs l) G') (λd X2 _ H'=>∀v,d7 (wc X) X2 H' d v->Q v H')):=by
  have q:=c7.bind p;have hkl:∀(l:List D) (G:DH) (ks:List D) (G':DH),V5 F l G=some (.ok ks,G')->ks.length=l.length:=by
   intro l
   induction l with
   |nil=>intro G ks G' z;cases z;rfl
   |cons d r ih=>
     intro G ks G' z;unfold V5 at z;rw[M.bind_eq]at z
     match h:noX (F [d]) G,z with
     |some (.ok kk,G1),z=>
       dsimp only at z;rw[M.bind_eq]at z
       match h2:V5 F r G1,z with
       |some (.ok ks,G2),z=>
         cases z
         simp[ih _ _ _ h2]
  have kne:∀(l:List D) (G:DH) (x:Str) (G':DH),V5 F l G≠some (.error x,G'):=by
   intro l
   induction l with
   |nil=>intro G x G' z;cases z
   |cons d r ih=>
     intro G x G' z;unfold V5 at z;rw[M.bind_eq]at z;have nx:∀x G',noX (F [d]) G≠some (.error x,G'):=λx G' z=>by
      unfold noX at z
      try dsimp only at z
      split at z<;>cases z
     match h:noX (F [d]) G,z with
     |some (.error y,G1),z=>exact nx _ _ h
     |some (.ok kk,G1),z=>
       dsimp only at z;rw[M.bind_eq]at z
       match h2:V5 F r G1,z with
       |some (.error y,G2),z=>exact ih _ _ _ h2
       |some (.ok ks,G2),z=>cases z
  match hh:V5 F l G,q with
  |some (.ok ks,G1),q=>exact λX2 H' x h=>⟨hkl _ _ _ _ hh,q X2 H' x h⟩
  |some (.error x,G1),q=>exact(kne _ _ _ _ hh).elim
 rw[hkS];show zq (zz X.prog X.w) X.A.in1.in1 (ksk_rest h1.objs.size (.ref f) false vs.toArray e1 (.ref (h1.objs.size+2))) _ _ _;unfold ksk_rest;refine za (ZK ?_)
 first
  |rw[List.forIn_toArray]
  |(rw[<-Array.forIn_toList];simp only[List.toList_toArray])
  |rw[<-Array.forIn_toList]
 refine za (RM (σ:=σ) hF hb hrm.in1.in1 rfl ⟨rfl,rfl⟩ fa fk ne (λx s0 R hx=>?_) l ws vs [] [] [] 0 μ G H _ rl rv rfl .nil hr I2 gk ga na nk (by simp;lia) ?_)
 ·refine za (wpAny_attempt (jg hx (λkv s'' hk=>?_) λ_ _ hF=>hF.elim));obtain⟨ks,e,hks,g,hR⟩:=hk
  try dsimp only
  refine za (Xn g rfl ?_ (by rw[zn,yF];lia) (jc (Xf (Array.size_push ..)) (by rw[zn,yF];lia)));exact zm ⟨rfl,hR⟩
 ·refine pk.mono λks X2 G' H' x1 hr1 ⟨hks,p1⟩ s' kv ku e' _ _ q1 q2 I' g1 g2 n1 n2=>?_;rw[Xy]at q1;obtain⟨qs,eq,p2⟩:=uB p1
  try dsimp only
  refine za (listItems_at g1 rfl ?_);have hkv:ku.length=vs.length:=by rw[<-q2.length,<-q1.length,hks,hlv]
  refine hE I' eq q1 q2 (rl.mono x1) rv hkv (by lia) g1 g2 ne p2 λh' e2 l' ws' us keep2 gg a1 a2 a3 p3=>?_;refine⟨_,rfl,zm ⟨_,rfl,.ref h1.objs.size,upd H' h1.objs.size (.lst ws'),Kh I' (λb hb=>?_) (by simp) keep2 ⟨by rw[a3,yF];lia,_,e2,a1,gg⟩,rfl,Z2 hr1 a2 p3 _ n1⟩⟩;rcases zk.mp hb with rfl|hb
  ·exact fa _ n1
  ·rw[zt]at hb;subst hb;exact fk _ n2
def wC(dd:Bool)(S:List D->M D):D->M D
| .tup l=>if l.length<64 then S l else M.stuck
| .ref r=>do
  match <-M7 r with
  | .lst l=>if l.length<64 then S l else M.stuck
  | .dct l=>match dd with
    |true=>do
      let ss <-Q1 (J1 l)
      if ss.length<64 then S (ss.map .str)else M.stuck
    |false=>M.stuck
  |_=>M.stuck
|_=>M.stuck
theorem EW{KP:List D->Option α}{B:α->List D->M D}{dd:Bool}{Q:VK}(hE:∀l,iF X Z σ l KP B)(hc:X.calm=true)(hF:V2 X.prog X.w X.K X.mg X.base CX0 k f fd ps (spD (wc X) 1 F))(hb:y4 X.K fd ps [])(hrm:K8 (k+2) X.A)(I:Inv X om σ H s)(hr:j9 (wc X) μ G H)(rd:d7 (wc X) μ H d v)(ru:u5 v u)
 (p:c7 (wc X) Z μ H (wC dd (oA KP B F) d G) (λd X2 _ H'=>∀v,d7 (wc X) X2 H' d v->Q v H')):zq (zz X.prog X.w) X.A (call (.builtin "sorted") [u] [(yw "key",.ref f)]) (EP X om σ Q) X.xe s:=by
 have seq:∀ {a:Addr} {T:String} {o:Obj} {ou:List ze} {vs:List V} {n:Nat} {l:List D},(T= "list"\/T= "tuple")->s.heap.get? a=some o->o.cls= .type T->o.data= .seq ou.toArray n->m6 vs ou->g8 (wc X) μ H l vs->vs.length<=zi->
  c7 (wc X) Z μ H ((if l.length<64 then oA KP B F l else M.stuck:M D) G) (λd X2 _ H'=>∀v,d7 (wc X) X2 H' d v->Q v H')->zq (zz X.prog X.w) X.A (call (.builtin "sorted") [.ref a] [(yw "key",.ref f)]) (EP X om σ Q) X.xe s:=by
  intro a T o ou vs n l hT h1 h2 h3 rv rl hz p;split at p
  case isFalse=>exact p.elim
  rename_i sf;refine AL (hE l) hF hb hrm I hr sf (λQ' hQ=>wpAny_collect_seq a hT h1 h2 h3 (λh' kk=>?_) (by rw[zn,<-rv.length];exact hz)) p;exact hQ h' s.toks ou vs kk rv rl
 unfold wC at p;split at p
 ·rename_i l;unfold d7 at rd;obtain⟨a,vs,rfl,q,rl⟩:=rd
  cases ru
  obtain⟨ou,rv,⟨o,h1,h2,n,h3⟩,hz⟩:=I.tuple q;exact seq (.inr rfl) h1 h2 h3 rv rl hz p
 ·rename_i i;unfold d7 at rd;obtain⟨a,m,rfl⟩:=rd
  cases ru
  obtain⟨o,g,p1⟩:=Q5 p;have ro:=hr.obj i o a g m;rcases o with l|l|l|l
  ·
    obtain⟨vs,q,rl⟩:=ro;obtain⟨ou,rv,pl,hz⟩:=I.list (SqL.of q);obtain⟨o,h1,h2,n,h3⟩:=pl.isList;exact seq (.inl rfl) h1 h2 h3 rv rl hz p1
  ·exact p1.elim
  ·rcases dd with _|_
   ·exact p1.elim
   obtain⟨oq,q,rk⟩:=ro;obtain⟨ss,es,p2⟩:=uB p1;split at p2
   case isFalse=>exact p2.elim
   rename_i sf;obtain⟨z,hd,vs,rel,dd⟩:=MM I.hok q;obtain⟨ep,hat⟩:=dd.dictAt;have hn:vs.length=ss.length:=by rw[oM es,<-rel.length,<-rk.length]
   refine AL (hE _) hF hb hrm I hr (by simpa using sf) (λQ' hQ=>PySem.W.kdu_collect (PySem.W.kdl_dict hd) (I.ok.hd hc) hat (by rw[yF];omega) λh1 tk pi hk su=>?_) p2;have hS:StrsAre pi.toList ss:=IP es rk rel (by rw[zV];exact su.1) λj v e=>su.2 j v (by rw[<-jd];exact e);obtain⟨ws,ew,rv,rl2⟩:=bM (μ:=μ) hS;exact hQ h1 tk pi.toList ws hk rv rl2
  ·exact p1.elim
 ·exact p.elim
theorem Kg{Z:XC}(l:List D):iF X Z σ l A9 (λqs l=>if qs.Nodup then K7 (.lst (r9 qs l))else M.stuck):=λI eq q1 q2 rl rv hkv sf g1 g2 ne p h=>by
 dsimp only at p;split at p
 case isFalse=>exact p.elim
 rename_i nd;obtain⟨sd,hk1⟩:=KZ I eq q1 q2;refine AT hkv sf sd hk1 nd g1 g2 ne λh' e2 pp hp hs keep2 gg=>?_;obtain⟨ws',a1,a2,a3⟩:=lX (by rw[sd,hkv,<-rv.length,rl.length]) rl rv nd hp hs;exact h h' e2 _ ws' _ keep2 gg a1 a2 a3 p
theorem Fw(F:List D->M D):eB F=wC true (oA A9 (λqs l=>if qs.Nodup then K7 (.lst (r9 qs l))else M.stuck) F):=funext λd=>by
 cases d<;>first|rfl|exact congrArg (M7 _ >>= ·) (funext λo=>by cases o<;>rfl)
theorem VL{KP:List D->Option α}{B:α->List D->M D}{dd:Bool}(hE:∀ σ l,iF X Z σ l KP B)(hc:X.calm=true)(hF:∃k kk,Q6 F 1 x X.prog X.w X.K X.mg X.base k/\K8 kk X.A/\k+2<=kk)(tf:BLs X.mg)(hgs:Gl X "sorted")(hg:Gl X x)(he:DE X Z e fe)(hs:J9 e=true)(hdb:(x==("__debug__" :Str))=false):
 DE X Z (.Call (.Name "sorted" p) [e] [⟨some "key",.Name x pf,kp⟩] pos) (λσ=>fe σ >>= wC dd (oA KP B F)):=⟨by
 intro om s σ H Q I h;obtain⟨k,kk,hF,hrm,hk⟩:=hF;obtain⟨f,fd,ps,f1,f2,f3,f4⟩:=hF.ex;have hbs:zU ("sorted" :Str)=some (.builtin "sorted"):=sU;refine yB (kC I hgs (tf.h _ (by decide +kernel)) hbs ?_ (by decide) (by decide));obtain⟨X9,μ,G,sr,hr,pp⟩:=h;have pa:=c7.bind pp;have hst:zC [e] X.env= (false,eval e X.env)::zC [] X.env:=RG hs;refine callWith_builtin_kwB (by rw[M5];exact Q3 (by rw[jC,hs];rfl)) rfl (evalArgs_kw2 rfl ?_ hst);have ha:DA X Z [e] (C0 fe z0):=GM he mR hst;refine thn (ha.h pos om s σ H (λvs H1=>∃v d X0 G1,vs= [v]/\d7 (wc X) X0 H1 d v/\j9 (wc X) X0 G1 H1/\c7 (wc X) Z X0 H1 (wC dd (oA KP B F) d G1) (λd X2 _ H'=>∀v,d7 (wc X) X2 H' d v->Q v H')) I ?_) λus s1 ⟨vs,H1,I1,r1,v,d,X0,G1,e1,rd,hr1,p1⟩=>?_
 ·refine⟨X9,μ,G,sr,hr,?_⟩;show c7 (wc X) Z μ H ((fe X9 >>= λy=>(pure [y]:M (List D))) G) _
  match hm:fe X9 G,pa with
  |some (.ok y,G1),pa=>
    rw[M.bind_ok hm];intro X2 H' x1 h1 vs rv;obtain⟨v,ev,rv2⟩:=S2 rv;subst ev;exact⟨v,y,X2,G1,rfl,rv2,h1,pa X2 H' x1 h1⟩
  |some (.error y,G1),pa=>
    rw[M.bind_eq,hm];exact pa
 ·subst e1;obtain⟨u,rfl,ru⟩:=S3 r1;show zq _ _ (evalAll [(do let v <-eval (.Name x pf) X.env;standAt pos;pure v)]) _ _ s1;refine wpAny_evalAll_cons (za (U9 I1 hg f2 (za (xO (zm (wpAny_evalAll_nil ?_)))) hdb));exact EW (hE σ) hc f1 f4 (hrm.mono hk) I1 hr1 rd ru p1⟩
theorem VT(hc:X.calm=true)(hF:∃k kk,Q6 F 1 x X.prog X.w X.K X.mg X.base k/\K8 kk X.A/\k+2<=kk)(tf:BLs X.mg)(hgs:Gl X "sorted")(hg:Gl X x)(he:DE X Z e fe)(hs:J9 e=true)(hdb:(x==("__debug__" :Str))=false):
 DE X Z (.Call (.Name "sorted" p) [e] [⟨some "key",.Name x pf,kp⟩] pos) (eE F fe):=by
 have w:=VL (p:=p) (pf:=pf) (kp:=kp) (pos:=pos) (dd:=true) (λσ l=>Kg (σ:=σ) (Z:=Z) l) hc hF tf hgs hg he hs hdb;rw[<-Fw]at w;exact w
end
def CR(K:zc)(mg:Str->Option ze)(d:D)(u:ze):Prop:=∃v,u5 v u/\∀ μ H,d7 ⟨K,mg⟩ μ H d v
def CRL(K:zc)(mg:Str->Option ze)(l:List D)(us:List ze):Prop:=∃vs,m6 vs us/\∀ μ H,g8 ⟨K,mg⟩ μ H l vs
section
variable{K:zc}{mg:Str->Option ze}
theorem cr_str:CR K mg (.str x) (.str x t):=⟨.str x,⟨t,rfl⟩,λμ H=>by unfold d7;rfl⟩
theorem cr_int:CR K mg (.int i) (.int i t):=⟨.int i,⟨t,rfl⟩,λμ H=>by unfold d7;rfl⟩
theorem cr_bl:CR K mg (.bl b) (.bool b):=⟨.bl b,rfl,λμ H=>by unfold d7;rfl⟩
theorem cr_non:CR K mg .non .none:=⟨.non,rfl,λμ H=>by unfold d7;rfl⟩
theorem crl_nil:CRL K mg [] []:=⟨[],.nil,λ_ _=>rfl⟩
theorem crl_cons(h:CR K mg d u)(t:CRL K mg l us):CRL K mg (d::l) (u::us):=by obtain⟨v,r,h⟩:=h;obtain⟨vs,rs,t⟩:=t;exact⟨v::vs,.cons r rs,λμ H=>⟨v,vs,rfl,h μ H,t μ H⟩⟩
theorem cr_tup(hl:K.lookup a=some ⟨.type "tuple",none,.seq us.toArray n,sl⟩)(hz:Nat.ble us.length 100=true)(h:CRL K mg l us):CR K mg (.tup l) (.ref a):=by obtain⟨vs,rs,t⟩:=h;refine⟨.ref a,rfl,λμ H=>?_⟩;unfold d7;refine⟨a,vs,rfl,.inr ⟨_,us.toArray,n,hl,rfl,rfl,?_,rs⟩,t μ H⟩;rw[zn];exact jc (Nat.le_of_ble_eq_true hz) (by decide)
end
structure nB(K:zc)(mg:Str->Option ze)(x:Str)(d:D):Prop where
 ex:∃u,mg x=some u/\CR K mg d u
section
theorem nr(hc:nB X.K X.mg x d)(hg:Gl X x)(hdb:(x==("__debug__" :Str))=false):DE X Z (.Name x pos) (cE d):=⟨by
 intro om s σ H Q I ov;refine ov.elim λX9 μ G sr hr p=>?_;obtain⟨u,hm,v,ru,rv⟩:=hc.ex;exact U9 I hg hm ⟨v,H,I,ru,c7.ok p hr v (rv μ H)⟩ hdb⟩
end
def isStrM:D->M Unit:=λx=>match x with
| .str _=>pure ()
|_=>M.stuck
section
variable{X:Cx}{Z:XC}{o e:Expr}{es:List Expr}{fo:Fe}{fs:DSt->M (List D)}{name:Str}{id:String}{mm:D->List D->M D}{apos cpos:Pos}
theorem bT{H:Hp}{G:DH}{d:D}{v:V}{f:Unit->M α}{K:α->List Addr->DH->Hp->Prop}(r:d7 c μ H d v)(p:c7 c Z μ H ((isStrM d >>= f) G) K):tyV c.K "str" v H/\c7 c Z μ H (f () G) K:=by
 rcases d with _|_|_|x|_|_|_|_<;>try (exact p.elim;done)
 ·rw[S1 r];exact⟨rfl,p⟩
theorem OY(slot:Slot "str" name id)(hty:typeOf (.builtin id)=pure (.type "method_descriptor"))(hm:MtD X Z id mm)(ho:DE X Z o fo)(ha:DA X Z (e::es) fs)
 (hbase:Yc o name X.env (eval o X.env)=eval o X.env)
 (hfew:((yo cpos (zC (e::es) X.env)).all (λx=> !x.1)&&(JK cpos (YQ [] X.env)).all (λx=>x.1.isSome)
   && decide ((e::es).length+([]:List Keyword).length+(if ([]:List Keyword).isEmpty then 0 else 1)<30))=true)
 (hline:(apos.endLine==cpos.line)=true) (hs:zC (e::es) X.env= (false,eval e X.env)::zC es X.env) (rj:(yo cpos (zC es X.env)).any (·.1)=false):
 DE X Z (.Call (.Attribute o name apos) (e::es) [] cpos) (mtE isStrM mm fo fs):=
 DE.of (eI PySem.F.plainAttrs_str slot hty hm ho.h ha.h hbase hfew hline hs rj) λσ H Q ov=>ov.elim λX9 μ G s h p=>⟨X9,μ,G,s,h,(c7.bind p).mono λd X0 G1 H1 x1 h1 p1 v rv=>by obtain⟨ty,p2⟩:=bT rv p1;exact⟨ty,X9,X0,G1,s.mono x1,h1,(c7.bind p2).mono λds WW G2 H2 x2 h2 p3 vs rvs=>⟨d,ds,WW,G2,rv.mono x2,rvs,h2,p3⟩⟩⟩
end
section
end
end DL
namespace W
open PySem PySem.Spec L2 DL
open PyProof.Rows hiding St
section
theorem Nc:Wp (isStrM (.str z)) G R↔R () G:=d8
end
end W
namespace DL
open PySem PySem.Spec L2
open PyProof.Rows hiding St
def y8(n:Nat)(lo hi st:Option Int):List Nat:=JG (yR lo hi st n).1 (yR lo hi st n).2.1 (yR lo hi st n).2.2
def SA(l:List D)(lo hi st:Option Int):List D:=(y8 l.length lo hi st).filterMap (l[·]?)
def HA:D->Option Int->Option Int->Option Int->M D:=λx lo hi st=>match x with
| .ref r=>do
  let l <-M7 r >>= listOf
  if st=some 0 then M.stuck else K7 (.lst (SA l lo hi st))
|_=>M.stuck
def tB(f:Fe)(lo hi st:Fo):Fe:=λσ=>do
 let x <-f σ
 let l <-lo σ
 let h <-hi σ
 let s <-st σ
 HA x l h s
section
variable{X:Cx}{Z:XC}{μ:List Addr}{H:Hp}
theorem g8.pick(h:g8 c μ H l vs):∀is:List Nat,g8 c μ H (is.filterMap (l[·]?)) (is.filterMap (vs[·]?))
|[]=>rfl
|i::r=>by
  have ih:=g8.pick h r;rw[ju,ju];by_cases hi:i<l.length
  ·have e:l[i]? =some l[i]:=zr hi;obtain⟨v,e2,r2⟩:=h.get e;rw[e,e2];exact⟨v,_,rfl,r2,ih⟩
  ·have hi2:vs.length<=i:=by rw[<-h.length];lia
   rw[zO (by lia),zO hi2];exact ih
theorem pL(h:m6 vs us):∀is:List Nat,m6 (is.filterMap (vs[·]?)) (is.filterMap (us[·]?))
|[]=>.nil
|i::r=>by
  have ih:=pL h r;rw[ju,ju];by_cases hi:i<vs.length
  ·have e:vs[i]? =some vs[i]:=zr hi;obtain⟨v,e2,r2⟩:=h.get e;rw[e,e2];exact .cons r2 ih
  ·have hi2:us.length<=i:=by rw[<-h.length];lia
   rw[zO (by lia),zO hi2];exact ih
variable{e t:Expr}{lo hi:Option Expr}{fa:Fe}{fl fh ft:Fo}{p2 pos:Pos}
theorem Bk(he:DE X Z e fa)(hl:DOp X Z lo fl)(hu:DOp X Z hi fh)(ht:DOp X Z (some t) ft):DE X Z (.Subscript e (.Slice lo hi (some t) p2) pos) (tB fa fl fh ft):=⟨by
 intro om s σ H Q I ov;refine ov.elim λX9 μ G sr h p=>?_;have p0:=c7.bind p;refine Subscript_ (thn (he.h om s σ H (λv H1=>∃d X0 G1,d7 (wc X) X0 H1 d v/\j9 (wc X) X0 G1 H1/\v5 (wc X) X0 H1 X9 σ/\c7 (wc X) Z X0 H1 ((fl X9 >>= λl=>fh X9 >>= λh=>ft X9 >>= λs=>HA d l h s) G1) (λd X2 _ H'=>∀v,d7 (wc X) X2 H' d v->Q v H')) I ⟨X9,μ,G,sr,h,p0.mono λd X0 G1 H1 x1 h1 p1 v rv=>⟨d,X0,G1,rv,h1,sr.mono x1,p1⟩⟩) λv s1 ⟨x,H1,I1,r1,d,X0,G1,rd,h1,sr1,p1⟩=>?_);refine wpAny_Slice ?_;refine thn (hl.h om s1 σ H1 (λl H2=>∃ WW G2,d7 (wc X) WW H2 d x/\j9 (wc X) WW G2 H2/\v5 (wc X) WW H2 X9 σ/\c7 (wc X) Z WW H2 ((fh X9 >>= λh=>ft X9 >>= λs=>HA d l h s) G2) (λd X2 _ H'=>∀v,d7 (wc X) X2 H' d v->Q v H')) I1 ⟨X9,X0,G1,sr1,h1,(c7.bind p1).mono λl WW G2 H2 x2 h2 p2=>⟨WW,G2,rd.mono x2,h2,sr1.mono x2,p2⟩⟩) λvl s2 ⟨l,H2,I2,pl,WW,G2,rd2,h2,sr2,p2⟩=>?_;refine thn (hu.h om s2 σ H2 (λu H3=>∃ WJ G3,d7 (wc X) WJ H3 d x/\j9 (wc X) WJ G3 H3/\v5 (wc X) WJ H3 X9 σ/\c7 (wc X) Z WJ H3 ((ft X9 >>= λs=>HA d l u s) G3) (λd X2 _ H'=>∀v,d7 (wc X) X2 H' d v->Q v H')) I2 ⟨X9,WW,G2,sr2,h2,(c7.bind p2).mono λu WJ G3 H3 x3 h3 p3=>⟨WJ,G3,rd2.mono x3,h3,sr2.mono x3,p3⟩⟩) λvu s3 ⟨u,H3,I3,pu,WJ,G3,rd3,h3,sr3,p3⟩=>?_;refine thn (ht.h om s3 σ H3 (λk H4=>∃ WF G4,d7 (wc X) WF H4 d x/\j9 (wc X) WF G4 H4/\c7 (wc X) Z WF H4 (HA d l u k G4) (λd X2 _ H'=>∀v,d7 (wc X) X2 H' d v->Q v H')) I3 ⟨X9,WJ,G3,sr3,h3,(c7.bind p3).mono λk WF G4 H4 x4 h4 p4=>⟨WF,G4,rd3.mono x4,h4,p4⟩⟩) λvk s4 ⟨k,H4,I4,pk,WF,G4,rd4,h4,p4⟩=>?_;have I5:Inv X om σ H4 {s4 with heap:=s4.heap.push {cls:=.type "slice",data:=.fields #[vl,vu,vk]}}:=I4.kept λb ob q=>zf _ q;have hsl:Heap.IsSliceOf (s4.heap.push {cls:=.type "slice",data:=.fields #[vl,vu,vk]}) s4.heap.objs.size vl vu vk:=Xw ..
 cases d with
 |ref r=>
   obtain⟨ls,a,vs,rfl,rl,p5,hq⟩:=sF h4 rd4 p4
   cases r1
   split at p5
   case isTrue=>exact p5.elim
   rename_i hk0;have hs:SqL X.K H4 a vs:=by
    rcases hq with⟨z,_⟩|⟨_,_,_,⟨_,q⟩|⟨_,q⟩⟩
    ·cases z
    ·exact SqL.of q
    ·exact q.sq
   obtain⟨ou,rr,ht,hz⟩:=I5.list hs;refine tail_any ht.isList.typeIs Xz.lookup (wpAny_getItem_list_slice ht.isList hsl pl pu pk hk0 ?_ (by rw[zn,<-rr.length];exact hz)) (by with_unfolding_all rfl);have hf:=I5.hok.fresh (zg _);have en:ou.toArray.size=vs.length:=by rw[zn,rr.length]
   have ep:slicePick ou.toArray l u k=zJ ((y8 ls.length l u k).filterMap (ou[·]?)):=by unfold slicePick y8;rw[rl.length,en];congr 1;congr 1;funext i;simp
   have ow:((y8 ls.length l u k).filterMap (vs[·]?)).length<=zi:=by have h1:=slicePick_size_le ou.toArray l u k;rw[ep,zn,zn]at h1;have h2:=(pL rr (y8 ls.length l u k)).length;have h3:=rr.length;lia
   rw[ep];refine⟨.ref _,upd H4 _ (.lst ((y8 ls.length l u k).filterMap (vs[·]?))),I5.laid (λb u e=>zf _ e) (zg _) ?_,rfl,Z2 h4 (rl.pick _) p5 _ hf⟩;exact⟨ow,_,0,pL rr _,zy _ rfl⟩
 |_=>exact p4.elim⟩
end
end DL
namespace W
open PySem PySem.Spec L2 DL
open PyProof.Rows hiding St
section
theorem ON{lo hi st:Fo}:Wp (tB f lo hi st σ) G Q↔Wp (f σ) G λx G1=>Wp (lo σ) G1 λl G2=>Wp (hi σ) G2 λh G3=>Wp (st σ) G3 λk G4=>Wp (HA x l h k) G4 Q:=by unfold tB;simp only[f9]
theorem tO{lo hi st:Option Int}(e:G[p]? =some (.lst l))(h:st≠some 0):Wp (HA (.ref p) lo hi st) G Q↔Q (.ref G.length) (G++[.lst (SA l lo hi st)]):=by
 have h0:HA (.ref p) lo hi st= (do
  let l <-M7 p >>= DL.listOf
  if st=some 0 then M.stuck else K7 (.lst (SA l lo hi st))):=rfl
 rw[h0];simp only[f9,O3,e,Q0,DL.listOf,d8,if_neg h,Q7]
end
end W
namespace DL
open PySem PySem.Spec L2
open PyProof.Rows hiding St
section
theorem nV(σ:St)(H:Hp)(Q:VK)(h:L3 (wc X) Z (nF o o' fa fb fc) σ H Q):RP (bA (wc X) Z o) (bA (wc X) Z o') (L3 (wc X) Z fa) (L3 (wc X) Z fb) (L3 (wc X) Z fc) σ H Q:=by
 obtain⟨X9,μ,G,s,h,p⟩:=h;exact⟨X9,μ,G,s,h,(c7.bind p).mono λx X0 G1 H1 x1 h1 p1 v rv=>
  ⟨X9,X0,G1,s.mono x1,h1,(c7.bind p1).mono λy WW G2 H2 x2 h2 p2 u ru=>⟨x,y,WW,G2,rv.mono x2,ru,h2,(c7.bind p2).mono λz WJ G3 H3 x3 h3 p3 w rw'=>by
   obtain⟨k,rfl,p4⟩:=uM p3;refine⟨k,L6 rw',?_⟩
   cases k with
   |true=>exact⟨X9,WJ,G3,s.mono (x1.trans (x2.trans x3)),h3,(c7.bind p4).mono λt WF G4 H4 x4 h4 p5 q rq=>⟨y,t,WF,G4,ru.mono (x3.trans x4),rq,h4,p5⟩⟩
   |false=>exact c7.ok p4 h3 _ ofB⟩⟩⟩
theorem UY(ho:OpD X Z (zM op) o)(ho':OpD X Z (zM op') o')(ha:DE X Z a fa)(hb:DE X Z b fb)(hc:DE X Z c fc)
 (hm:lastMarks [op,op'] [b,c]=false):DT X Z (.Compare a [op,op'] [b,c] pos) (g6 (nF o o' fa fb fc)):=
 DT.of (er ho.h ho'.h ha.h hb.h hc.h hm) λσ H Q ov=>ov.elim λX9 μ G s h p=>nV σ H _ ⟨X9,μ,G,s,h,(c7.bind p).mono λx X0 G1 H1 x' h1 p1 v rv=>by
  cases x with
  |bl k'=>unfold d7 at rv;exact⟨k',rv,c7.ok p1 h1⟩
  |_=>exact p1.elim⟩
theorem sZ(hF:∃k kk,Q6 F 0 x X.prog X.w X.K X.mg X.base k/\K8 kk X.A/\k<=kk)(hg:Gl X x)(hdb:(x==("__debug__" :Str))=false):
 DE X Z (.Call (.Name x p) [] [] pos) (D0 (fnX 0 F) z0):=by
 obtain⟨k,kk,hF,hr,hk⟩:=hF;obtain⟨f,fd,ps,h1,h2,h3,h4⟩:=hF.ex;exact DE.of (pV h1 (hr.mono hk) hg h2 h3 h4 .nil EF hdb) λσ H Q ov=>ov.elim λX9 μ G s h p=>by obtain⟨hl,p2⟩:=UK (show c7 (wc X) Z μ H (fnX 0 F [] G) _ from p);exact⟨rfl, [],μ,G,rfl,h,p2⟩
end
end DL
namespace W
open PySem PySem.Spec L2 DL
open PyProof.Rows hiding St
end W
namespace DL
open PySem PySem.Spec L2
open PyProof.Rows hiding St
section
variable{X:Cx}{Z:XC}{o e:Expr}{es:List Expr}{fo:Fe}{fs:DSt->M (List D)}{name:Str}{id:String}{mm:D->List D->M D}{apos cpos:Pos}
end
section
end
def A6(G:DH)(x:D):List D->Option Bool
|[]=>some false
|d::t=>match eqN 40 G d x,A6 G x t with
  |some a,some b=>some (a||b)
  |_,_=>none
theorem kM:A6 G x (d::t)=match eqN 40 G d x,A6 G x t with
|some a,some b=>some (a||b)
|_,_=>none:=rfl
def pA(x y:D)(G:DH):Option Bool:=match y with
| .tup l=>A6 G x l
| .ref r=>match G[r]? with
  |some (.lst l)=>A6 G x l
  |some (.rol l)=>A6 G x l
  |_=>none
|_=>none
def inX:D->D->M D:=λx y G=>match pA x y G with
|some b=>some (.ok (.bl b),G)
|none=>none
section
theorem dq(hu:X.A.units+64<xL)(I:Inv X om σ H s)(hr:j9 (wc X) μ G H)(qa:d7 (wc X) μ H dx x)(rx:u5 x v):
 ∀ {l} {vs} {us} {b},g8 (wc X) μ H l vs->m6 vs us->A6 G dx l=some b->
  (∀u∈us,∃c,jR X.A.in1 s u v c)/\(b=true->∃u∈us,jR X.A.in1 s u v true)/\(b=false->∀u∈us,jR X.A.in1 s u v false):=by
 intro l
 induction l with
 |nil=>
   intro vs us b rl rv e
   cases rl
   cases rv
   cases e
   exact⟨λu hu=>(by cases hu),λz=>absurd z zw,λ_ u hu=>(by cases hu)⟩
 |cons d t ih=>
   intro vs us b rl rv e;obtain⟨w,tv,rfl,q,rt⟩:=rl
   cases rv with
   |cons r1 rs=>
   rename_i u us1;rw[kM]at e;rcases e1:eqN 40 G d dx with _|a
   ·rw[e1]at e;cases e
   ·
     rcases e2:A6 G dx t with _|b2
     ·rw[e1,e2]at e;cases e
     ·
       rw[e1,e2]at e
       cases e
       have h1:=(WC I hr 40 X.A.in1 (by show X.A.units+1+40<xL;lia) q qa r1 rx e1).2.2;obtain⟨k1,k2,k3⟩:=ih rt rs e2;refine⟨λu' hu'=>?_,λz=>?_,λz u' hu'=>?_⟩
       ·rcases zk.mp hu' with rfl|hu'
        ·exact⟨a,h1⟩
        ·exact k1 u' hu'
       ·rcases a with _|_
        ·
          obtain⟨u',h3,h4⟩:=k2 z;exact⟨u',zP _ h3,h4⟩
        ·exact⟨u,jo,h1⟩
       ·rcases a with _|_
        ·
          rcases zk.mp hu' with rfl|hu'
          ·exact h1
          ·exact k3 z u' hu'
        ·cases z
open Classical in
theorem NM(hu:X.A.units+64<xL)(I:Inv X om σ H s)(hr:j9 (wc X) μ G H)(qa:d7 (wc X) μ H dx x)(rx:u5 x v)
 (rl:g8 (wc X) μ H l vs) (rv:m6 vs us) (e:A6 G dx l=some b):
   ∃f:ze->Bool,(∀u∈us,jR X.A.in1 s u v (f u))/\us.any f=b:=by
 obtain⟨k1,k2,k3⟩:=dq hu I hr qa rx rl rv e;rcases b with _|_
 ·exact⟨λ_=>false,λu hu=>k3 rfl u hu,by simp⟩
 ·
   refine⟨λu=>decide (jR X.A.in1 s u v true),λu hu=>?_,?_⟩
   ·dsimp only;by_cases c:jR X.A.in1 s u v true
    ·rw[decide_eq_true c];exact c
    ·rw[decide_eq_false c];obtain⟨c',hc⟩:=k1 u hu;rcases c' with _|_
     ·exact hc
     ·exact absurd hc c
   ·obtain⟨u,hu,h⟩:=k2 rfl;exact List.any_eq_true.mpr ⟨u,hu,decide_eq_true h⟩
theorem Qz(hu:X.A.units+64<xL)(I:Inv X om σ H s)(hr:j9 (wc X) μ G H)(qa:d7 (wc X) μ H dx x)(qe:d7 (wc X) μ H dy y)(rx:u5 x v)(ry:u5 y u)
 (e:pA dx dy G=some b):
 (Q (.bl b) H->zq (zz X.prog X.w) X.A (zM .In v u) (EP X om σ Q) X.xe s)/\(Q (.bl (!b)) H->zq (zz X.prog X.w) X.A (zM .NotIn v u) (EP X om σ Q) X.xe s):=by
 have seq:∀(p:Addr) (l:List D) (vs:List V),y= .ref p->(SqL X.K H p vs\/SqT X.K H p vs)->g8 (wc X) μ H l vs->A6 G dx l=some b->
  (Q (.bl b) H->zq (zz X.prog X.w) X.A (zM .In v u) (EP X om σ Q) X.xe s)/\(Q (.bl (!b)) H->zq (zz X.prog X.w) X.A (zM .NotIn v u) (EP X om σ Q) X.xe s):=by
  intro p l vs hy hq rl e;subst hy
  cases ry
  rcases hq with hq|hq
  ·obtain⟨ou,r,pl,hz⟩:=I.list hq;obtain⟨f,h1,h2⟩:=NM hu I hr qa rx rl r e;have h3:ou.toArray.any f=b:=by rw[<-h2];simp
   exact⟨λq=>SeqAt.in_listAt f pl.isList (λw hw=>h1 w (by simpa using hw)) ⟨.bl _,H,I,rfl,by rw[h3];exact q⟩,λq=>SeqAt.notIn_listAt f pl.isList (λw hw=>h1 w (by simpa using hw)) ⟨.bl _,H,I,rfl,by rw[h3];exact q⟩⟩
  ·obtain⟨ou,r,pl,hz⟩:=I.tuple hq;obtain⟨f,h1,h2⟩:=NM hu I hr qa rx rl r e;have h3:ou.toArray.any f=b:=by rw[<-h2];simp
   exact⟨λq=>SeqAt.in_tupleAt f pl (λw hw=>h1 w (by simpa using hw)) ⟨.bl _,H,I,rfl,by rw[h3];exact q⟩,λq=>JZ f pl (λw hw=>h1 w (by simpa using hw)) ⟨.bl _,H,I,rfl,by rw[h3];exact q⟩⟩
 rcases dy with _|_|_|_|l|i|_|_<;>try (cases e;done)
 ·
   unfold d7 at qe;obtain⟨a,vs,hy,q,rl⟩:=qe;exact seq a l vs hy (.inr q) rl e
 ·
   unfold d7 at qe;obtain⟨a,m,hy⟩:=qe;rcases g:G[i]? with _|o
   ·unfold pA at e;simp only[g]at e;cases e
   ·
     have ro:=hr.obj i o a g m;rcases o with l|l|_|_<;>try (unfold pA at e;simp only[g]at e;cases e;done)
     ·
       obtain⟨vs,q,rl⟩:=ro;unfold pA at e;simp only[g]at e;exact seq a l vs hy (.inl (SqL.of q)) rl e
     ·
       obtain⟨vs,q,rl⟩:=ro;unfold pA at e;simp only[g]at e;exact seq a l vs hy (.inl q.sq) rl e
theorem Bz(hu:X.A.units+64<xL):OpD X Z (zM .In) inX:=⟨by
 intro om s σ H x y v u Q I rx ry ov;refine ov.elim λdx dy μ G qa qe hr p=>?_;unfold inX at p;rcases e:pA dx dy G with _|b
 ·rw[e]at p;exact p.elim
 ·rw[e]at p;exact(Qz hu I hr qa qe rx ry e).1 (c7.ok p hr _ ofB)⟩
end
section
end
end DL
namespace W
open PySem PySem.Spec L2 DL
open PyProof.Rows hiding St
end W
namespace DL
open PySem PySem.Spec L2
open PyProof.Rows hiding St
section
end
end DL
namespace W
open PySem PySem.Spec L2 DL
open PyProof.Rows hiding St
end W
namespace DL
open PySem PySem.Spec L2
open PyProof.Rows hiding St
theorem b8(e:m G=some (.ok a,G'))(q:Q a G'):Wp m G Q:=⟨a,G',e,q⟩
def PB(Q:DPP):Fl->DH->Prop
| .nx _,G=>Q .non G
| .rt d,G=>Q d G
|_,_=>False
section
variable{m:Nat}{f S g:Fs}{ds as:List D}{d:D}{G G':DH}{Q:DPP}{P A:Fl->DH->Prop}{σ X1:DSt}{e:Fe}
theorem u0(w:Wp (f (ds.map some++jE (m-ds.length) none)) G (PB Q)):Wp (m9 m f ds) G Q:=
 bD.mpr (w.mono λfl G1 h=>match fl,h with
  | .nx _,h=>h
  | .rt _,h=>h
  | .bk _,h=>h.elim
  | .ct _,h=>h.elim)
theorem j8(q:Q d G):PB Q (.rt d) G:=q
theorem GD(e:f (ds.map some++jE (m-ds.length) none) G=some (.ok (.rt d),G'))(q:Q d G'):Wp (m9 m f ds) G Q:=u0 (b8 e q)
theorem M8(e:S σ G=some (.ok (.nx X1),G'))(w:Wp (g X1) G' P):Wp (m5 S g σ) G P:=d9.mpr (b8 e w)
end
section
variable{a b c:Fe}{d x y z:D}{G G1 G2:DH}{R:List D->DH->Prop}{σ:DSt}
theorem IB(e:t σ G=some (.ok true,G1))(w:Wp (f σ) G1 P):Wp (ifS t f g σ) G P:=pF.mpr (b8 e w)
theorem F3(e:t σ G=some (.ok false,G1))(w:Wp (g σ) G1 P):Wp (ifS t f g σ) G P:=pF.mpr (b8 e w)
theorem O7(w:Wp (t σ) G λk G1=>(k=true->Wp (f σ) G1 P)/\(k=false->Wp (g σ) G1 P)):Wp (ifS t f g σ) G P:=
 pF.mpr (w.mono λk G1 h=>by cases k with|true=>exact h.1 rfl|false=>exact h.2 rfl)
theorem E7(w:Wp (t σ) G λk G1=>(k=true->Wp (u σ) G1 B)/\(k=false->B false G1)):Wp (w4 t u σ) G B:=
 dI.mpr (w.mono λk G1 h=>by cases k with|true=>exact h.1 rfl|false=>exact h.2 rfl)
theorem FA(w:Wp (t σ) G λk G1=>(k=true->B true G1)/\(k=false->Wp (u σ) G1 B)):Wp (orT t u σ) G B:=
 SX.mpr (w.mono λk G1 h=>by cases k with|true=>exact h.1 rfl|false=>exact h.2 rfl)
theorem IK{g:Fg}(e:b σ G=some (.ok (.tup l),G1))(h:l.length<=10000)(w:Wp (N5 g t a (λ_=>true) l (U2 caps σ)) G1 λys G2=>Q (.ref G2.length) (G2++[.lst ys])):Wp (U4 (itW b) caps g t a σ) G Q:=
 W.wp_comp.mpr (W.wp_itW.mpr (b8 e (W.srcW_tup.mpr ⟨jc h (show 10000<=zi by decide),w⟩)))
theorem TX(e:t σ G=some (.ok false,G1))(w:Wp (b σ) G1 Q):Wp (ifE t a b σ) G Q:=E9.mpr (b8 e w)
theorem K5(w:Wp (a σ) G λd G1=>P (.nx (σ.set i (some d))) G1):Wp (J4 a (O0 i) σ) G P:=N9.mpr (w.mono λ_ _ h=>R8.mpr h)
theorem o7(w:Wp (a σ) G λd G1=>P (.rt d) G1):Wp (u9 a σ) G P:=lC.mpr w
theorem j7(e:fs σ G=some (.ok as,G1))(h:as.length=n)(w:Wp (F as) G1 Q):Wp (D0 (fnX n F) fs σ) G Q:=D9.mpr (b8 e (W8.mpr ⟨h,w⟩))
theorem D3(e:fs σ G=some (.ok as,G1))(w:Wp (F as) G1 Q):Wp (D0 F fs σ) G Q:=D9.mpr (b8 e w)
theorem R6(w:Wp (fs σ) G λas G1=>Wp (F as) G1 Q):Wp (D0 F fs σ) G Q:=D9.mpr w
theorem pH(ea:a σ G=some (.ok x,G1))(eb:b σ G1=some (.ok y,G2))(w:Wp (o x y) G2 Q):Wp (binE o a b σ) G Q:=dA.mpr (b8 ea (b8 eb w))
theorem bin_w(w:Wp (a σ) G λx G1=>Wp (b σ) G1 λy G2=>Wp (o x y) G2 Q):Wp (binE o a b σ) G Q:=dA.mpr w
theorem BI(e:a σ G=some (.ok x,G1))(w:Wp (fs σ) G1 λxs G2=>R (x::xs) G2):Wp (C0 a fs σ) G R:=W9.mpr (b8 e w)
theorem j5(w:Wp (a σ) G λx G1=>Wp (fs σ) G1 λxs G2=>R (x::xs) G2):Wp (C0 a fs σ) G R:=W9.mpr w
theorem J6(w:Wp (a σ) G λx G1=>∃k,x= .bl k/\B k G1):Wp (g6 a σ) G B:=kE.mpr w
end
def FH(K:zc)(x:Str)(st:Stmt):Prop:=∃(f:Addr) (od an:Option Addr) (sl:Array (Option ze)) (oc kV dc pm cd ct:ze),jv K zF x=some (some (.ref f))/\
 K.lookup f=some ⟨oc,od,.func (yG x x (P9 st) (O9 st) (o5 st) .none kV dc pm an cd ct),sl⟩/\Zj K cd x=true/\jU K (.ref f)=true
section
variable{K:zc}{h:Heap}{mg:Str->Option ze}{x:Str}{st:Stmt}
theorem FH.of{oc kV dc pm cd ct:ze}(a:jv K zF x=some (some (.ref f)))
 (l:K.lookup f=some ⟨oc,od,.func (yG x x (P9 st) (O9 st) (o5 st) .none kV dc pm an cd ct),sl⟩) (e:Zj K cd x=true) (k:jU K (.ref f)=true):FH K x st:=
 ⟨f,od,an,sl,oc,kV,dc,pm,cd,ct,a,l,e,k⟩
variable{ps:List Str}
theorem FH.ff(H:FH K x st)(X:K.In h)(G:h.Ns zF mg)(b:∀kV doc pm an pq ct us,us.length=ps.length->bindArgs (yG x x (P9 st) (O9 st) (o5 st) .none kV doc pm an pq ct) ⟨us, []⟩=pure (ps.zip us)):∃f fd,FF K mg x st ps f fd:=by obtain⟨f,od,an,sl,oc,kV,dc,pm,cd,ct,a,l,e,k⟩:=H;exact⟨_,_,FG l e k,(FG l e k).binds b,jT X G a⟩
theorem Pw(h:us.length=n+1):∃a t,us=a::t/\t.length=n:=by
 rcases us with _|⟨a,t⟩
 ·cases h
 ·exact⟨a,t,rfl,XU h⟩
theorem BLs.of(X:K.In h)(G:h.Ns zF mg)(z:∀b∈bltL,jv K zF b=some none):BLs mg:=⟨λb hb=>JL X G (z b hb)⟩
end
abbrev Lh(h:Heap)(z TI TO:Addr)(f0:ze)(b:Bool):Prop:=
 h.get? z=some {cls:=.type "zip",dict:=none,data:=.fields #[f0,.bool b,.bool false,.ref TI,.ref TO],slots:= #[]}
section
variable{prog:zB}{w:zI}{A:zL}{E:VSP}{s:zh}{k1 k2:Bool}{i:Nat}{z TI TO i1 i2 l1 l2 T:Addr}{xs ys:Array ze}{b:Bool}
structure ZSt(k1 k2:Bool)(z TI TO i1 i2 l1 l2:Addr)(xs ys:Array ze)(n0 i:Nat)(h:Heap):Prop where
 hz:(Zz h z TI TO .none/\∃a b,yP h TO a b)\/∃T b,Lh h z TI TO (yC ((n0+T:Nat):Int)) b/\T<i
 hTI:yP h TI (.ref i1) (.ref i2)
 h1:SI k1 h i1 l1 i
 h2:SI k2 h i2 l2 i
 c1:SC k1 h l1 xs
 c2:SC k2 h l2 ys
end
section
variable{H:Hp}{n0:Nat}{ws:List (V×V)}
end
section
variable{X:Cx}{Z:XC}{a b:Expr}{fs:DSt->M (List D)}{p1 p2 pos1 pos2:Pos}
end
end DL
namespace TS
open PySem PyProof.Rows
section
variable{prog:zB}{w:zI}{A:zL}{E:VSP}{s:zh}
def kz(p:jS):Int:=numOf p.1
def isI(p:jS):Prop:=∃n t,p.1= .int n t
end
def leK(x y:jS):Prop:=kz x<=kz y
def Srt(l:List jS):Prop:=l.Pairwise leK
theorem Srt.app{a b:List jS}(ha:Srt a)(hb:Srt b)(h:∀x∈a,∀y∈b,leK x y):Srt (a++b):=xA.mpr ⟨ha,hb,h⟩
theorem Srt.left{a b:List jS}(h:Srt (a++b)):Srt a:=(xA.mp h).1
theorem Srt.right{a b:List jS}(h:Srt (a++b)):Srt b:=(xA.mp h).2.1
theorem Srt.mid{a b:List jS}(h:Srt (a++b)):∀x∈a,∀y∈b,leK x y:=(xA.mp h).2.2
structure MI(L out A B:List jS):Prop where
 perm:(out++(A++B)).Perm L
 so:Srt out
 oa:∀x∈out,∀y∈A,leK x y
 ob:∀x∈out,∀y∈B,leK x y
 sa:Srt A
 sb:Srt B
theorem MI.ak{L out C A B:List jS}(h:MI L out (C++A) B)(k:∀c∈C,∀y∈B,leK c y):MI L (out++C) A B where
 perm:=by have:=h.perm;simp only[zo]at this ⊢;exact this
 so:=h.so.app h.sa.left λx hx y hy=>h.oa x hx y (by simp[hy])
 oa:=λx hx y hy=>by
  rcases jr.mp hx with hx|hx
  ·exact h.oa x hx y (by simp[hy])
  ·exact h.sa.mid x hx y hy
 ob:=λx hx y hy=>by
  rcases jr.mp hx with hx|hx
  ·exact h.ob x hx y hy
  ·exact k x hx y hy
 sa:=h.sa.right
 sb:=h.sb
theorem MI.bk{L out C A B:List jS}(h:MI L out A (C++B))(k:∀c∈C,∀x∈A,leK c x):MI L (out++C) A B where
 perm:=by refine List.Perm.trans ?_ h.perm;rw[zo];refine XX _ ?_;rw[<-zo,<-zo];exact XH _ JT
 so:=h.so.app h.sb.left λx hx y hy=>h.ob x hx y (by simp[hy])
 oa:=λx hx y hy=>by
  rcases jr.mp hx with hx|hx
  ·exact h.oa x hx y hy
  ·exact k x hx y hy
 ob:=λx hx y hy=>by
  rcases jr.mp hx with hx|hx
  ·exact h.ob x hx y (by simp[hy])
  ·exact h.sb.mid x hx y hy
 sa:=h.sa
 sb:=h.sb.right
structure MJ(L A B S:List jS):Prop where
 perm:(A++(B++S)).Perm L
 ss:Srt S
 as:∀x∈A,∀y∈S,leK x y
 bs:∀x∈B,∀y∈S,leK x y
 sa:Srt A
 sb:Srt B
theorem MJ.ak{L A C B S:List jS}(h:MJ L (A++C) B S)(k:∀b∈B,∀c∈C,leK b c):MJ L A B (C++S) where
 perm:=by refine List.Perm.trans ?_ h.perm;rw[zo];refine XX _ ?_;rw[<-zo,<-zo];exact XH _ JT
 ss:=h.sa.right.app h.ss λx hx y hy=>h.as x (by simp[hx]) y hy
 as:=λx hx y hy=>by
  rcases jr.mp hy with hy|hy
  ·exact h.sa.mid x hx y hy
  ·exact h.as x (by simp[hx]) y hy
 bs:=λx hx y hy=>by
  rcases jr.mp hy with hy|hy
  ·exact k x hx y hy
  ·exact h.bs x hx y hy
 sa:=h.sa.left
 sb:=h.sb
theorem MJ.bk{L A B C S:List jS}(h:MJ L A (B++C) S)(k:∀a∈A,∀c∈C,leK a c):MJ L A B (C++S) where
 perm:=by have:=h.perm;simp only[zo]at this ⊢;exact this
 ss:=h.sb.right.app h.ss λx hx y hy=>h.bs x (by simp[hx]) y hy
 as:=λx hx y hy=>by
  rcases jr.mp hy with hy|hy
  ·exact k x hx y hy
  ·exact h.as x hx y hy
 bs:=λx hx y hy=>by
  rcases jr.mp hy with hy|hy
  ·exact h.sb.mid x hx y hy
  ·exact h.bs x (by simp[hx]) y hy
 sa:=h.sa
 sb:=h.sb.left
theorem TN(a:Array jS)(i j:Nat):(a.extract i j).toList= (a.toList.drop i).take (j-i):=by simp
def L9(a:Array jS):Prop:=∀p∈a.toList,isI p
theorem L9.at{a:Array jS}(h:L9 a){i:Nat}{p:jS}(e:a[i]? =some p):isI p:=h p (by rw[<-jd]at e;exact yA e)
theorem L9.get{a:Array jS}(h:L9 a){i:Nat}(hi:i<a.size):∃p,a[i]? =some p/\isI p:=⟨_,ja hi,h.at (ja hi)⟩
def Same(st pc:Zl):Prop:=xn pc=xn st/\ym pc=ym st/\ZJ pc=ZJ st/\Zp pc=Zp st
theorem Same.refl{st:Zl}:Same st st:=⟨rfl,rfl,rfl,rfl⟩
theorem Same.trans{a b c:Zl}(h:Same a b)(k:Same b c):Same a c:=⟨k.1.trans h.1,k.2.1.trans h.2.1,k.2.2.1.trans h.2.2.1,k.2.2.2.trans h.2.2.2⟩
structure LI(a b:Array jS)(out:Array jS)(ia ib:Nat):Prop where
 mi:MI (a.toList++b.toList) out.toList (a.toList.drop ia) (b.toList.drop ib)
 ha:ia+1<a.size
 hb:ib<b.size
 sz:out.size=ia+ib
section
variable{a b out:Array jS}{ia ib:Nat}
theorem Wk{c:Array jS}{i k:Nat}:c.toList.drop i= (c.extract i (i+k)).toList++c.toList.drop (i+k):=by rw[TN,ZU,<-List.drop_drop,xt]
theorem MI.ga{k:Nat}(h:MI (a.toList++b.toList) out.toList (a.toList.drop ia) (b.toList.drop ib))(q:∀c∈(a.extract ia (ia+k)).toList,∀y∈b.toList.drop ib,leK c y):MI (a.toList++b.toList) (out++a.extract ia (ia+k)).toList (a.toList.drop (ia+k)) (b.toList.drop ib):=by rw[Wk (k:=k)]at h;rw[YB];exact h.ak q
end
section
variable{prog:zB}{w:zI}{A:zL}{E:VSP}{s:zh}
end
structure HI(a b:Array jS)(out:Array jS)(na nb:Nat):Prop where
 mj:MJ (a.toList++b.toList) (a.toList.take na) (b.toList.take nb) out.toList.reverse
 ha:0<na
 hb:1<nb
 la:na<=a.size
 lb:nb<=b.size
 sz:out.size+na+nb=a.size+b.size
section
variable{a b out:Array jS}{na nb:Nat}
theorem take_add{c:Array jS}{k n:Nat}(h:k<=n):c.toList.take n=c.toList.take k++(c.extract k n).toList:=by
 rw[TN];have:n=k+(n-k):=by lia
 conv=>lhs;rw[this]
 rw[List.take_add]
theorem Hc(o c:Array jS):(o++c.reverse).toList.reverse=c.toList++o.toList.reverse:=by rw[YB,Array.toList_reverse,List.reverse_append,List.reverse_reverse]
theorem MJ.ga{k:Nat}(h:MJ (a.toList++b.toList) (a.toList.take na) (b.toList.take nb) out.toList.reverse)(hk:k<=na)(q:∀y∈b.toList.take nb,∀c∈(a.extract k na).toList,leK y c):MJ (a.toList++b.toList) (a.toList.take k) (b.toList.take nb) (out++(a.extract k na).reverse).toList.reverse:=by rw[take_add hk]at h;rw[Hc];exact h.ak q
end
section
variable{prog:zB}{w:zI}{A:zL}{E:VSP}{s:zh}
structure Aft(st pc:Zl)(l:List jS)(p:Array (Nat×Nat×Nat)):Prop where
 kind:xn pc=Yq
 arr:(ym pc).toList=l
 pend:ZJ pc=p
 fail:Zp pc=none
end
def ND(a:Array jS):Prop:=(a.toList.map kz).Nodup
theorem fG{a:Array jS}{i:Nat}{p:jS}(e:a[i]? =some p):K a i=kz p:=by unfold K;rw[e];rfl
theorem ND.ne{a:Array jS}(h:ND a){i j:Nat}(hi:i<a.size)(hj:j<a.size)(ne:i≠j):K a i≠K a j:=by rw[fG (ja hi),fG (ja hj)];intro e;have:=ZP (i:=i) (j:=j) (h₀:=by simpa using hi) (h₁:=by simpa using hj) h;simp only[List.getElem_map,Array.getElem_toList]at this;exact ne (this.mp e)
theorem L9.perm{a b:Array jS}(h:L9 a)(p:b.Perm a):L9 b:=λx hx=>h x ((yN.mp p).mem_iff.mp hx)
theorem ND.perm{a b:Array jS}(h:ND a)(p:b.Perm a):ND b:=((yN.mp p).map kz).nodup_iff.mpr h
def Asc(a:Array jS)(lo m:Nat):Prop:=∀i,i+1<m->K a (lo+i)<K a (lo+i+1)
theorem Asc.lt{a:Array jS}{lo m:Nat}(h:Asc a lo m):∀ {j i:Nat},i<j->j<m->K a (lo+i)<K a (lo+j)
|0,i,hij,_=>by lia
|j+1,i,hij,hj=>by
  have h1:=h j hj;by_cases e:i=j
  ·subst e;exact h1
  ·exact Int.lt_trans (h.lt (show i<j by lia) (by lia)) h1
theorem Asc.snoc{a:Array jS}{lo m:Nat}(h:Asc a lo m)(k:K a (lo+m-1)<K a (lo+m))(hm:1<=m):Asc a lo (m+1):=λi hi=>by
 by_cases e:i+1<m
 ·exact h i e
 ·have:i=m-1:=by lia
  subst this;rw[show lo+(m-1)=lo+m-1 by lia,show lo+m-1+1=lo+m by lia];exact k
structure Run(lo:Nat)(st pc:Zl):Prop where
 kind:xn pc=Yq
 pend:ZJ pc=ZJ st
 fail:Zp pc=none
 perm:(ym pc).Perm (ym st)
 low:∀i,i<lo->(ym pc)[i]? = (ym st)[i]?
theorem Run.refl{lo:Nat}{st:Zl}(hk:xn st=Yq)(hf:Zp st=none):Run lo st st:=⟨hk,rfl,hf,.refl _,λ_ _=>rfl⟩
theorem Run.size{lo:Nat}{st pc:Zl}(h:Run lo st pc):(ym pc).size= (ym st).size:=h.perm.size_eq
section
variable{prog:zB}{w:zI}{A:zL}{E:VSP}{s:zh}
theorem lt_at{st:Zl}{i j:Nat}{Q:Option Bool->Zl->Prop}(hk:xn st=Yq)(ha:L9 (ym st))(hi:i<(ym st).size)(hj:j<(ym st).size)(h:Q (some (decide (K (ym st) i<K (ym st) j))) st):wpS (zz prog w) A E s (ltAt' i j) Q st:=by
 obtain⟨p,e1,n,t,hp⟩:=ha.get hi;obtain⟨q,e2,m,u,hq⟩:=ha.get hj;obtain⟨p1,p2⟩:=p;obtain⟨q1,q2⟩:=q
 cases hp
 cases hq
 rw[fG e1,fG e2]at h;exact wpS_ltAt hk e1 e2 h
end
theorem Run.trans{lo:Nat}{a b c:Zl}(h:Run lo a b)(k:Run lo b c):Run lo a c:=⟨k.kind,k.pend.trans h.pend,k.fail,k.perm.trans h.perm,λi hi=>(k.low i hi).trans (h.low i hi)⟩
theorem NW{a:Array jS}{lo k l:Nat}(nd:ND a)(hs:lo+k<a.size)(h:Asc a lo k)(hl:l<=k)(h1:∀i,i<l->K a (lo+i)<=K a (lo+k))(h2:∀i,l<=i->i<k->K a (lo+k)<K a (lo+i)):Asc (bubble a (lo+k) (lo+k-(lo+l))) lo (k+1):=by
 have hd:lo+k-(lo+l)=k-l:=by lia
 rw[hd];have hK:=λj=>K_bubble (xs:=a) (src:=lo+k) (d:=k-l) hs (by lia) j;intro i hi;rw[hK,hK];have e:lo+k-(k-l)=lo+l:=by lia
 rw[e];by_cases c1:lo+i=lo+l
 ·rw[if_pos c1,if_neg (by lia),if_pos (by lia)];have:i=l:=by lia
  subst this;rw[show lo+i+1-1=lo+i by lia];exact h2 i (zg _) (by lia)
 ·rw[if_neg c1];by_cases c2:lo+i+1=lo+l
  ·rw[if_pos c2,if_neg (by lia)];have:=h1 i (by lia);have:=nd.ne (i:=lo+i) (j:=lo+k) (by lia) (by lia) (by lia);lia
  ·rw[if_neg c2];by_cases c3:lo+l<lo+i/\lo+i<=lo+k
   ·rw[if_pos c3,if_pos (by lia)];have:=h (i-1) (by lia);rw[show lo+(i-1)=lo+i-1 by lia,show lo+i-1+1=lo+i by lia]at this;rw[show lo+i+1-1=lo+i by lia];exact this
   ·rw[if_neg c3,if_neg (by lia)];exact h i (by lia)
section
variable{prog:zB}{w:zI}{A:zL}{E:VSP}{s:zh}
theorem bin_w{st:Zl}{lo n ok:Nat}{Q:Bool->Zl->Prop}(hk:xn st=Yq)(hf:Zp st=none)(ha:L9 (ym st))(nd:ND (ym st))(h1:1<=ok)(hn:ok<=n)(hs:lo+n<=(ym st).size)(h0:Asc (ym st) lo ok)
 (h:∀pc,Run lo st pc->Asc (ym pc) lo n->Q true pc):wpS (zz prog w) A E s (binarySort' lo n ok) Q st:=by
 unfold binarySort';refine wpS_bind (wpS_mono (wpS_forRange (I:=λk c pc=>c= (none,())/\Run lo st pc/\ok<=k/\k<=n/\Asc (ym pc) lo k) (Q:=λc pc=>c= (none,())/\Run lo st pc/\Asc (ym pc) lo n) ?_ ?_ ⟨rfl,.refl hk hf,by lia,by lia,by rw[Nat.max_eq_left h1];exact h0⟩) ?_)
 ·rintro k c st1 _ hx ⟨rfl,hR,g1,g2,g3⟩;dsimp only;have hz:=hR.size;have ha1:=ha.perm hR.perm;have nd1:=nd.perm hR.perm;refine wpS_bind (wpS_mono (wpS_forRange (I:=λx c pc=>pc=st1/\∃l r,c= (none,l,r)/\l<=r/\r<=k/\r-l+x<=k/\(∀i,i<l->K (ym st1) (lo+i)<=K (ym st1) (lo+k))/\∀i,r<=i->i<k->K (ym st1) (lo+k)<K (ym st1) (lo+i)) (Q:=λc pc=>pc=st1/\∃l,c= (none,l,l)/\l<=k/\(∀i,i<l->K (ym st1) (lo+i)<=K (ym st1) (lo+k))/\∀i,l<=i->i<k->K (ym st1) (lo+k)<K (ym st1) (lo+i)) ?_ ?_ ⟨rfl,0,k,rfl,by lia,by lia,by lia,λi hi=>by lia,λi a b=>by lia⟩) ?_)
  ·rintro x c st2 _ hx2 ⟨rfl,l,r,rfl,q1,q2,q3,q4,q5⟩;dsimp only;by_cases hl:l>=r
   ·rw[if_pos hl];have:l=r:=by lia
    subst this;exact JO ⟨rfl,l,rfl,q2,q4,q5⟩
   ·rw[if_neg hl];refine wpS_bind (lt_at hR.kind ha1 (by lia) (by lia) ?_);dsimp only;have hm1:l<=(l+r) / 2:=by lia
    have hm2:(l+r) / 2<r:=by lia
    generalize (l+r) / 2=m at hm1 hm2;by_cases pj:K (ym st2) (lo+k)<K (ym st2) (lo+m)
    ·rw[if_pos (decide_eq_true pj)];refine JO ⟨rfl,l,m,rfl,by lia,by lia,by lia,q4,λi a b=>?_⟩;by_cases e:i=m
     ·subst e;exact pj
     ·exact Int.lt_trans pj (g3.lt (show m<i by lia) b)
    ·rw[if_neg (by simpa using pj)];refine JO ⟨rfl,m+1,r,rfl,by lia,by lia,by lia,λi a=>?_,q5⟩;by_cases e:i=m
     ·subst e;lia
     ·have:=g3.lt (show i<m by lia) (by lia);lia
  ·rintro c st2 ⟨rfl,l,r,rfl,q1,q2,q3,q4,q5⟩;have:l=r:=by rw[Nat.zero_max]at q3;lia
   subst this;exact⟨rfl,l,rfl,q2,q4,q5⟩
  ·rintro c st2 ⟨rfl,l,rfl,q2,q4,q5⟩;dsimp only;refine wpS_bind ?_;show wpS _ _ _ _ (moveDown' (lo+k) (lo+l)) _ _;rw[moveDown'_eq];refine wpS_modify (JO ⟨rfl,hR.trans ⟨hR.kind,rfl,hR.fail,bubble_perm _ _ _,λi hi=>?_⟩,by lia,by lia,NW nd1 (by lia) g3 q2 q4 q5⟩);show (bubble (ym st2) (lo+k) (lo+k-(lo+l)))[i]? =_;rw[Jx (by lia) _ (by lia),if_neg (by lia),if_neg (by lia)]
 ·rintro c st1 ⟨rfl,hR,g1,g2,g3⟩;rw[Nat.max_eq_right (by lia)]at g3;exact⟨rfl,hR,g3⟩
 ·rintro c st1 ⟨rfl,hR,g3⟩;exact JO (h st1 hR g3)
end
def lay:Nat->List (List jS)->List Nat->List (Nat×Nat×Nat)
|o,r::rs,p::ps=>(o,r.length,p)::lay (o+r.length) rs ps
|_,_,_=> []
theorem sL:∀ {rs1:List (List jS)} {ps1:List Nat} {rs2:List (List jS)} {ps2:List Nat} {o:Nat},rs1.length=ps1.length->lay o (rs1++rs2) (ps1++ps2)=lay o rs1 ps1++lay (o+rs1.flatten.length) rs2 ps2
|[], [],_,_,o,_=>by simp[lay]
|[],_::_,_,_,_,h=>by cases h
|_::_, [],_,_,_,h=>by cases h
|r::rs1,p::ps1,rs2,ps2,o,h=>by show (o,r.length,p)::lay (o+r.length) (rs1++rs2) (ps1++ps2)= (o,r.length,p)::(lay (o+r.length) rs1 ps1++_);rw[sL (XU h),List.flatten_cons,zd,Nat.add_assoc]
structure GI(a0:List jS)(st:Zl)(rs:List (List jS))(ps:List Nat)(T:List jS):Prop where
 kind:xn st=Yq
 fail:Zp st=none
 arr:(ym st).toList=rs.flatten++T
 perm:(ym st).toList.Perm a0
 len:rs.length=ps.length
 pend:ZJ st= (lay 0 rs ps).toArray
 ok:∀r∈rs,0<r.length/\Srt r
section
variable{prog:zB}{w:zI}{A:zL}{E:VSP}{s:zh}
end
theorem GI.push{a0:List jS}{st:Zl}{rs:List (List jS)}{ps:List Nat}{C T:List jS}{lo n:Nat}(g:GI a0 st rs ps (C++T))(hC:0<C.length)(sC:Srt C)(e:rs.flatten.length=lo)(en:C.length=n):GI a0 (setPending st ((ZJ st).push (lo,n,0))) (rs++[C]) (ps++[0]) T:=by
 refine⟨g.kind,g.fail,?_,g.perm,by rw[zd,zd,g.len];rfl,?_,λr hr=>?_⟩
 ·show (ym st).toList=_;rw[g.arr];simp
 ·show (ZJ st).push (lo,n,0)=_;rw[g.pend,sL g.len,List.push_toArray,JQ,e];subst en;rfl
 ·rcases jr.mp hr with hr|hr
  ·exact g.ok r hr
  ·rw[zt.mp hr];exact⟨hC,sC⟩
section
variable{prog:zB}{w:zI}{A:zL}{E:VSP}{s:zh}
end
end TS
namespace DL
open PySem PySem.Spec L2
open PyProof.Rows hiding St
section
variable{prog:zB}{w:zI}{A:zL}{E:VSP}{s:zh}{T:String}{r d:Addr}{n:Nat}{P:Nat->ze->Prop}{OK:Heap->Prop}{Q:VSP}
end
section
variable{X:Cx}{Z:XC}{c:Wc}{μ:List Addr}{H:Hp}{G:DH}
end
def ii(pi:Option Int)(old:Array ze):Prop:=match pi with
|none=>old= #[]
|some b=>∃t t',old= #[.int b t,.int b t']
def gR(r:Option Int)(v:ze):Prop:=match r with
|none=>v= .none
|some b=>∃t,v= .int b t
def LG(a:Option Int)(n:Int):Option Int:=match a with
|none=>some n
|some b=>some (if n>b then n else b)
def dH(l:List Int):Option Int:=l.foldl LG none
def LN(a:Option Int)(n:Int):Option Int:=match a with
|none=>some n
|some b=>some (if n<b then n else b)
section
variable{prog:zB}{w:zI}{A:zL}{E:VSP}
theorem tV{a b:Int}{t t':Tok}(h:Q (.bool (decide (a>b))) s):zq (zz prog w) A (Jp .Gt (.int a t) (.int b t')) Q E s:=richCompare_gives (op:=.Gt) (Xt _ _ t) (Xt _ _ t') F.slot_int_gt F.entry_int_gt (F.args_int_gt_2 _ _) (gives_int_gt _ _ t t') (λx=>nomatch x) h
theorem Mq{a b:Int}{t t':Tok}(h:Q (.bool (decide (a<b))) s):zq (zz prog w) A (Jp .Lt (.int a t) (.int b t')) Q E s:=richCompare_gives (op:=.Lt) (Xt _ _ t) (Xt _ _ t') F.slot_int_lt F.entry_int_lt (F.args_int_lt_2 _ _) (gives_int_lt _ _ t t') (λx=>nomatch x) h
end
def P5(r:Option Int):D:=match r with
|none=>.non
|some b=>.int b
def mQ(d:D):M (List Int):=match d with
| .ref r=>(M7 r >>= listOf) >>= λl=>Q1 (nA l)
|_=>M.stuck
section
theorem KL:∀ {vs} {ns},vs.length=ns.length->(∀i u,vs[i]? =some u->∃t,u=Value.int (ns.getD i 0) t)->IntsAre vs ns
|[], [],_,_=>.nil
|v::vs,n::ns,e,h=>by obtain⟨t,rfl⟩:=h 0 v rfl;exact .cons _ t (KL (XU e) λi u hu=>by simpa using h (i+1) u (by simpa using hu))
theorem Vx{f:List Int->M α}{K:α->List Addr->DH->Hp->Prop}(h:j9 c μ G H)(rv:d7 c μ H d v)(p:c7 c Z μ H ((mQ d >>= f) G) K):
 ∃l ns a vs,v= .ref a/\g8 c μ H l vs/\SqL c.K H a vs/\nA l=some ns/\c7 c Z μ H (f ns G) K:=by
 obtain⟨r,rfl⟩:∃r,d= .ref r:=match d,p with
  | .ref r,_=>⟨r,rfl⟩
 obtain⟨ns,⟨l,a,vs,e1,e2,e3,e4⟩,q⟩:∃ns,(∃l a vs,v= .ref a/\g8 c μ H l vs/\SqL c.K H a vs/\nA l=some ns)/\c7 c Z μ H (f ns G) K:=by
  have p':c7 c Z μ H (((M7 r >>= listOf) >>= λl=>Q1 (nA l) >>= f) G) K:=by rw[<-M.bind_assoc];exact p
  obtain⟨l,a,vs,e1,e2,e3,p2⟩:=Z4 h rv p';obtain⟨ns,e4,p3⟩:=uB p2;exact⟨ns,⟨l,a,vs,e1,e2,e3,e4⟩,p3⟩
 exact⟨l,ns,a,vs,e1,e2,e3,e4,q⟩
end
structure WA(X:Cx)(e:Expr)(k:Int):Prop where
 h:PE X e (tC (.int k))
section
variable{X:Cx}{Z:XC}{pos:Pos}{e f:Expr}{i j k:Int}
theorem AW{m pos}:WA X (.Constant (.int i) m pos) i:=⟨eQ⟩
theorem Mz(he:WA X e i)(hf:WA X f j)(hc:kA i j)(hk:i ^ j.toNat=k):WA X (.BinOp e .Pow f pos) k:=⟨by
 subst hk;exact PE.mono (oI NL he.h hf.h) λσ H Q q=>⟨i,j,rfl,rfl,hc,q⟩⟩
theorem iZ(he:WA X e i)(hf:WA X f j)(hk:i-j=k):WA X (.BinOp e .Sub f pos) k:=⟨by
 subst hk;exact PE.mono (oI aN he.h hf.h) λσ H Q q=>⟨i,j,rfl,rfl,q⟩⟩
end
end DL
namespace DL
open PySem PySem.W
open PyProof.Rows hiding St
structure WO(lt:Nat->Nat->Bool):Prop where
 tr:∀i j k,lt j i=false->lt k j=false->lt k i=false
 as:∀i j,lt i j=true->lt j i=false
section
theorem WO.ir(O:WO lt)(i:Nat):lt i i=false:=by
 rcases e:lt i i with _|_
 ·rfl
 ·exact(O.as i i e).symm.trans e |>.symm▸rfl
def upW(lt:Nat->Nat->Bool)(p:Array Nat)(m:Nat):Prop:=∀i j,i<j->j<m->lt (p.getD j 0) (p.getD i 0)=false
def dnW(lt:Nat->Nat->Bool)(p:Array Nat)(m:Nat):Prop:=∀i j,i<j->j<m->lt (p.getD i 0) (p.getD j 0)=false
theorem uG(O:WO lt)(h:upW lt p m)(hij:i<=j)(hj:j<m):lt (p.getD j 0) (p.getD i 0)=false:=by
 rcases Zy hij with k|k
 ·exact h i j k hj
 ·rw[k];exact O.ir _
theorem mK(O:WO lt)(h:dnW lt p m)(hij:i<=j)(hj:j<m):lt (p.getD i 0) (p.getD j 0)=false:=by
 rcases Zy hij with k|k
 ·exact h i j k hj
 ·rw[k];exact O.ir _
theorem Lg(O:WO lt)(hk:1<=k)(h:upW lt p k)(hl:lt (p.getD k 0) (p.getD (k-1) 0)=false):upW lt p (k+1):=by
 intro i j hij hj;by_cases hj':j<k
 ·exact h i j hij hj'
 ·have ej:j=k:=by lia
  subst ej;exact O.tr _ _ _ (uG O h (show i<=j-1 by lia) (by lia)) hl
theorem iQ(O:WO lt)(hk:1<=k)(h:dnW lt p k)(hl:lt (p.getD (k-1) 0) (p.getD k 0)=false):dnW lt p (k+1):=by
 intro i j hij hj;by_cases hj':j<k
 ·exact h i j hij hj'
 ·have ej:j=k:=by lia
  subst ej;exact O.tr _ _ _ hl (mK O h (show i<=j-1 by lia) (by lia))
theorem sI(O:WO lt)(P:K1 p n):∀f k,1<=k->k+f<=n->upW lt p k->tOk lt n (kas_asc p f k) (λm=>k<=m/\m<=k+f/\upW lt p m/\(m<k+f->lt (p.getD m 0) (p.getD (m-1) 0)=true))
|0,k,h1,h2,u=>⟨zg _,zg _,u,λz=>by lia⟩
|f+1,k,h1,h2,u=>by
  unfold kas_asc;refine⟨P.bd (by lia),P.bd (by lia),?_⟩;rcases e:lt (p.getD k 0) (p.getD (k-1) 0)with _|_
  ·simp only[jp,if_false];exact(sI O P f (k+1) (by lia) (by lia) (Lg O h1 u e)).mono λm ⟨a,b,c,d⟩=>⟨by lia,by lia,c,λz=>d (by lia)⟩
  ·exact⟨zg _,by lia,u,λ_=>e⟩
theorem IA(P:K1 p n)(hb:b<=n)(i:Nat):(kas_rev p a b).getD i 0=if a<=i/\i<b then p.getD (a+b-1-i) 0 else p.getD i 0:=by have hs:=P.size;rw[U6];unfold kas_rev;rw[getElem?_mirror_all (by lia)];split<;>rw[<-U6]
def eqB(lt:Nat->Nat->Bool)(p:Array Nat)(a b:Nat):Prop:=∀i j,a<=i->i<b->a<=j->j<b->lt (p.getD i 0) (p.getD j 0)=false
theorem KS(O:WO lt)(P:K1 p n)(hk:k<=n)(h:dnW lt p k)(e:eqB lt p a k):dnW lt (kas_rev p a k) k:=by
 intro i j hij hj;rw[IA P hk,IA P hk];by_cases h1:a<=i
 ·rw[if_pos ⟨h1,by lia⟩,if_pos ⟨by lia,hj⟩];exact e _ _ (by lia) (by lia) (by lia) (by lia)
 ·rw[if_neg (by lia)];by_cases h2:a<=j
  ·rw[if_pos ⟨h2,hj⟩];exact h i _ (by lia) (by lia)
  ·rw[if_neg (by lia)];exact h i j hij hj
theorem cG(O:WO lt):∀f k q p,K1 p n->1<=k->k+f<=n->q+1<=k->dnW lt p k->eqB lt p (k-(q+1)) k->tOk lt n (kas_desc f p k q) (λr=>K1 r.1 n/\k<=r.2.1/\r.2.1<=k+f/\r.2.2+1<=r.2.1/\dnW lt r.1 r.2.1/\eqB lt r.1 (r.2.1-(r.2.2+1)) r.2.1)
|0,k,q,p,P,h1,h2,h3,d,e=>⟨P,zg _,zg _,h3,d,e⟩
|f+1,k,q,p,P,h1,h2,h3,d,e=>by
  unfold kas_desc;have one:∀(p:Array Nat),eqB lt p (k+1-(0+1)) (k+1):=λp i j a1 a2 a3 a4=>by rw[show i=j by lia];exact O.ir _
  refine⟨P.bd (by lia),P.bd (by lia),?_⟩;rcases c:lt (p.getD k 0) (p.getD (k-1) 0)with _|_
  ·simp only[jp,if_false];refine⟨P.bd (by lia),P.bd (by lia),?_⟩;rcases c2:lt (p.getD (k-1) 0) (p.getD k 0)with _|_
   ·simp only[jp,if_false];refine(cG O f (k+1) (q+1) p P (by lia) (by lia) (by lia) (iQ O h1 d c2) λi j a1 a2 a3 a4=>?_).mono λr ⟨a,b,c,d,g⟩=>⟨a,by lia,by lia,d,g⟩;have el:∀i,k-(q+1)<=i->i<k+1->lt (p.getD i 0) (p.getD k 0)=false/\lt (p.getD k 0) (p.getD i 0)=false:=λi x y=>by
     by_cases z:i=k
     ·rw[z];exact⟨O.ir _,O.ir _⟩
     ·exact⟨O.tr _ _ _ c2 (e i (k-1) x (by lia) (by lia) (by lia)),O.tr _ _ _ (e (k-1) i (by lia) (by lia) x (by lia)) c⟩
    exact O.tr _ _ _ (el j (by lia) a4).2 (el i (by lia) a2).1
   ·exact⟨P,zg _,by lia,h3,d,e⟩
  ·simp only[if_true];have c':=O.as _ _ c;split
   ·have rp:K1 (kas_rev p (k-(q+1)) k) n:=GB P;refine(cG O f (k+1) 0 _ rp (by lia) (by lia) (by lia) (λi j hij hj=>?_) (one _)).mono λr ⟨a,b,c,d,g⟩=>⟨a,by lia,by lia,d,g⟩;by_cases hj':j<k
    ·exact KS O P (by lia) d e i j hij hj'
    ·have ej:j=k:=by lia
     subst ej;rw[IA P (by lia),IA P (by lia),if_neg (show ¬(j-(q+1)<=j/\j<j) by lia)];split
     ·exact O.tr _ _ _ c' (mK O d (by lia) (by lia))
     ·exact O.tr _ _ _ c' (mK O d (by lia) (by lia))
   ·exact(cG O f (k+1) 0 p P (by lia) (by lia) (by lia) (iQ O h1 d c') (one p)).mono λr ⟨a,b,c,d,g⟩=>⟨a,by lia,by lia,d,g⟩
theorem pP(O:WO lt)(P:K1 p n)(h1:1<=k)(hk:k<=n)(d:dnW lt p k):tOk lt n (kas_tail3 k n p) (λr=>K1 r.2 n/\1<=r.1/\r.1<=n/\upW lt r.2 r.1):=by
 unfold kas_tail3;have u:upW lt (kas_rev p 0 k) k:=λi j hij hj=>by rw[IA P hk,IA P hk,if_pos ⟨jl _,hj⟩,if_pos ⟨jl _,by lia⟩];exact d _ _ (by lia) (by lia)
 exact tOk.bind _ ((sI O (GB P) (n-k) k h1 (by lia) u).mono λm ⟨a1,a2,a3,_⟩=>⟨GB P,by lia,by lia,a3⟩)
theorem FR(O:WO lt)(P:K1 p n)(h1:1<=k)(hk:k<n)(d:dnW lt p (k+1)):tOk lt n (kas_descPart k n p) (λr=>K1 r.2 n/\1<=r.1/\r.1<=n/\upW lt r.2 r.1):=by
 unfold kas_descPart;refine tOk.bind _ ((cG O (n-(k+1)) (k+1) 0 p P (by lia) (by lia) (by lia) d λi j a1 a2 a3 a4=>by rw[show i=j by lia];exact O.ir _).mono λr ⟨a,b,c,e,g,h⟩=>?_);split
 ·exact pP O (GB a) (by lia) (by lia) (KS O a (by lia) g h)
 ·exact pP O a (by lia) (by lia) g
theorem bZ(O:WO lt)(P:K1 p n)(h2:2<=n):tOk lt n (kas_count n p) (λr=>K1 r.2 n/\1<=r.1/\r.1<=n/\upW lt r.2 r.1):=by
 unfold kas_count;refine tOk.bind _ ((sI O P (n-1) 1 (zg _) (by lia) (λi j _ _=>by lia)).mono λm ⟨a1,a2,a3,a4⟩=>?_);by_cases hm:m=n
 ·rw[if_pos (by simpa using hm)];exact⟨P,a1,by lia,a3⟩
 ·rw[if_neg (by simpa using hm)];have a5:=O.as _ _ (a4 (by lia));by_cases h1:m>1
  ·rw[if_pos h1];refine⟨P.bd (by lia),P.bd (by lia),?_⟩;rcases c:lt (p.getD 0 0) (p.getD (m-1) 0)with _|_
   ·simp only[jp,if_false];refine FR O (GB P) (by lia) (by lia) λi j hij hj=>?_;rw[IA P (by lia),IA P (by lia),if_pos ⟨jl _,by lia⟩];by_cases hj':j<m
    ·rw[if_pos ⟨jl _,hj'⟩];exact a3 _ _ (by lia) (by lia)
    ·rw[if_neg (by lia),show j=m by lia];exact O.tr _ _ _ a5 (O.tr _ _ _ c (uG O a3 (jl _) (by lia)))
   ·exact⟨P,a1,by lia,a3⟩
  ·rw[if_neg h1];have em:m=1:=by lia
   subst em;refine FR O P (zg _) (by lia) λi j hij hj=>?_;have e1:i=0:=by lia
   have e2:j=1:=by lia
   subst e1 e2;exact a5
theorem LH(O:WO lt)(P:K1 p n)(hk:k<n)(u:upW lt p k):∀f l r,l<=r->r<=k->r-l<=f->(∀i,i<l->lt (p.getD k 0) (p.getD i 0)=false)->(∀i,r<=i->i<k->lt (p.getD i 0) (p.getD k 0)=false)->
 tOk lt n (kas_place p k f l r) (λL=>L<=k/\(∀i,i<L->lt (p.getD k 0) (p.getD i 0)=false)/\∀i,L<=i->i<k->lt (p.getD i 0) (p.getD k 0)=false)
 |0,l,r,h1,h2,h3,a,b=>⟨by lia,a,λi hi=>b i (by lia)⟩
 |f+1,l,r,h1,h2,h3,a,b=>by
   unfold kas_place;by_cases h:l>=r
   ·rw[if_pos h];exact⟨by lia,a,λi hi=>b i (by lia)⟩
   ·rw[if_neg h];have hm1:l<=(l+r) / 2:=by lia
    have hm2:(l+r) / 2<r:=by lia
    refine⟨P.bd hk,P.bd (by lia),?_⟩;rcases e:lt (p.getD k 0) (p.getD ((l+r) / 2) 0)with _|_
    ·simp only[jp,if_false];exact LH O P hk u f _ r (by lia) h2 (by lia) (λi hi=>O.tr _ _ _ (uG O u (show i<=(l+r) / 2 by lia) (by lia)) e) b
    ·simp only[if_true];exact LH O P hk u f l _ hm1 (by lia) (by lia) a λi hi hik=>O.tr _ _ _ (O.as _ _ e) (uG O u hi hik)
theorem mP(O:WO lt):∀f k p,K1 p n->k+f=n->upW lt p k->tOk lt n (kas_bin f p k) (λq=>K1 q n/\upW lt q n)
|0,k,p,P,h,u=>⟨P,by rw[<-h];exact u⟩
|f+1,k,p,P,h,u=>by
  unfold kas_bin;refine tOk.bind _ ((LH O P (show k<n by lia) u k 0 k (jl _) (zg _) (by lia) (λi hi=>by lia) (λi h1 h2=>by lia)).mono λL ⟨hL,a,b⟩=>?_);have hs:=P.size;refine mP O f (k+1) _ ⟨(yN.mp (bubble_perm p k (k-L))).trans P.pm⟩ (by lia) ?_;have e:∀i,(bubble p k (k-L)).getD i 0=if i=L then p.getD k 0 else if L<i/\i<=k then p.getD (i-1) 0 else p.getD i 0:=λi=>by
   rw[U6,Jx (by lia) _ (by lia),show k-(k-L)=L by lia];split
   ·rw[<-U6]
   ·split<;>rw[<-U6]
  intro i j hij hj;rw[e i,e j];by_cases h1:i=L
  ·rw[if_pos h1,if_neg (show ¬j=L by lia),if_pos (show L<j/\j<=k by lia)];exact b (j-1) (by lia) (by lia)
  ·rw[if_neg h1];by_cases h2:j=L
   ·rw[if_pos h2,if_neg (show ¬(L<i/\i<=k) by lia)];exact a i (by lia)
   ·rw[if_neg h2];by_cases h3:L<i
    ·rw[if_pos (show L<i/\i<=k by lia),if_pos (show L<j/\j<=k by lia)];exact u _ _ (by lia) (by lia)
    ·rw[if_neg (show ¬(L<i/\i<=k) by lia)];by_cases h4:L<j
     ·rw[if_pos (show L<j/\j<=k by lia)];exact u i (j-1) (by lia) (by lia)
     ·rw[if_neg (show ¬(L<j/\j<=k) by lia)];exact u _ _ hij (by lia)
theorem sQ(O:WO lt)(h2:2<=n):tOk lt n (kas_sort n) (λq=>K1 q n/\upW lt q n):=by
 unfold kas_sort;refine tOk.bind _ ((bZ O ⟨by simp⟩ h2).mono λr ⟨a,b,c,d⟩=>?_);by_cases h:r.1<n
 ·rw[if_pos h,show max r.1 1=r.1 by lia];exact mP O _ _ _ a (by lia) d
 ·rw[if_neg h];exact⟨a,by rw[show n=r.1 by lia];exact d⟩
def QA{α:Type}(lt:Nat->Nat->Bool):KasT α->α
| .ret a=>a
| .ask i j k=>QA lt (k (lt i j))
theorem tOk.run:∀t,tOk lt n t Q->tOk lt n t (λa=>a=QA lt t/\Q a)
| .ret a,h=>⟨rfl,h⟩
| .ask i j k,h=>⟨h.1,h.2.1,tOk.run (k (lt i j)) h.2.2⟩
theorem tOk.is:∀t,tOk lt n t Q->Q (QA lt t)
| .ret a,h=>h
| .ask i j k,h=>tOk.is (k (lt i j)) h.2.2
end
end DL
namespace DL
open PySem PySem.Spec L2
open PyProof.Rows hiding St
def tG:D->Option (Int×Int)
| .tup [.int a,.int x]=>some (a,x)
|_=>none
def o8:List D->Option (List (Int×Int))
|[]=>some []
|d::r=>match tG d,o8 r with
  |some a,some b=>some (a::b)
  |_,_=>none
def P8(p q:Int×Int):Bool:=if p.1=q.1 then decide (p.2<q.2)else decide (p.1<q.1)
def ltP(qs:List (Int×Int))(i j:Nat):Bool:=P8 (qs.getD i (0,0)) (qs.getD j (0,0))
def D7(qs:List (Int×Int))(n:Nat):List Nat:=if n<2 then zR n else (QA (ltP qs) (ZG n)).toList
def rB(qs:List (Int×Int))(l:List D):List D:=(D7 qs l.length).map λi=>l.getD i .non
def UD(F:List D->M D)(l:List D):M D:=do
 let ks <-V5 F l
 let qs <-Q1 (o8 ks)
 K7 (.lst (rB qs l))
def kJ(F:List D->M D):D->M D
| .tup l=>if l.length<64 then UD F l else M.stuck
| .ref r=>do
  match <-M7 r with
  | .lst l=>if l.length<64 then UD F l else M.stuck
  |_=>M.stuck
|_=>M.stuck
def CH(F:List D->M D)(f:Fe):Fe:=λσ=>do
 let x <-f σ
 kJ F x
theorem mS:P8 p q=true↔p.1<q.1\/(p.1=q.1/\p.2<q.2):=by
 unfold P8;by_cases e:p.1=q.1
 ·rw[if_pos e,decide_eq_true_iff];lia
 ·rw[if_neg e,decide_eq_true_iff];lia
theorem eD:P8 p q=false↔q.1<p.1\/(q.1=p.1/\q.2<=p.2):=by rw[<-Bool.not_eq_true,mS];lia
theorem eP(qs:List (Int×Int)):WO (ltP qs):=⟨λi j k h1 h2=>eD.mpr (by
 have h1:=eD.mp h1;have h2:=eD.mp h2;lia),λi j h=>eD.mpr (by
 have h:=mS.mp h;lia)⟩
theorem aP(qs:List (Int×Int))(n:Nat):(D7 qs n).Perm (zR n)/\(D7 qs n).Pairwise (λi j=>ltP qs j i=false):=by
 unfold D7;by_cases h:n<2
 ·rw[if_pos h];refine⟨List.Perm.refl _,?_⟩
  match n,h with
  |0,_=>simp
  |1,_=>simp[Xx]
 ·rw[if_neg h];obtain⟨P,U⟩:=tOk.is _ (sQ (eP qs) (show 2<=n by lia));refine⟨P.pm,?_⟩;rw[ZB];intro i j hi hj hij;have hs:=P.size;have hi':i<(QA (ltP qs) (ZG n)).size:=by simpa using hi
  have hj':j<(QA (ltP qs) (ZG n)).size:=by simpa using hj
  have:=U i j hij (by lia);simpa [ZV,hi',hj']using this
section
variable{X:Cx}{om:PNS}{σ:St}{H:Hp}{s:zh}
def UE(h:Heap)(u:ze)(q:Int×Int):Prop:=∃a t t',u= .ref a/\Yr h a #[.int q.1 t,.int q.2 t']
theorem lO(I:Inv X om σ H s):∀ {ks} {qs} {kv:List V} {ku},o8 ks=some qs->g8 (wc X) μ H ks kv->m6 kv ku->qs.length=ku.length/\∀(i:Nat) q,qs[i]? =some q->∃u,ku[i]? =some u/\UE s.heap u q
|[],qs,kv,ku,e,r,rv=>by
  cases e;cases r;cases rv
  exact⟨rfl,λi q z=>by simp at z⟩
|d::r,qs,kv,ku,e,rr,rv=>by
  obtain⟨v,tl,rfl,rd,rt⟩:=rr
  cases rv with
  |cons ru rur=>
  rename_i u ur;unfold o8 at e;rcases h1:tG d with _|a
  ·rw[h1]at e;cases e
  ·
    rcases h2:o8 r with _|b
    ·rw[h1,h2]at e;cases e
    ·
      rw[h1,h2]at e
      cases e
      obtain⟨hl,hk⟩:=lO I h2 rt rur;refine⟨by simp[hl],λi q z=>?_⟩
      cases i with
      |succ i=>simpa using hk i q (by simpa using z)
      |zero=>
        simp at z;subst z;refine⟨u,rfl,?_⟩;unfold tG at h1;split at h1
        ·rename_i n x
         cases h1
         unfold d7 at rd;obtain⟨ad,vs,rfl,q,rl⟩:=rd;obtain⟨v1,t1,rfl,e1,v2,t2,rfl,e2,e3⟩:=rl
         cases e3
         rw[W0 e1,W0 e2]at q
         cases ru
         obtain⟨ou,rvs,tp,_⟩:=I.tuple q
         cases rvs with
         |cons r1 rr1=>
           cases rr1 with
           |cons r2 rr2=>
             cases rr2
             obtain⟨t,rfl⟩:=r1;obtain⟨t',rfl⟩:=r2;exact⟨ad,t,t',rfl,tp⟩
        ·cases h1
end
section
variable{prog:zB}{w:zI}{A:zL}{E:VSP}{s:zh}{C:Bool->zh->Prop}
theorem RZ(hx:UE s.heap u q)(hy:UE s.heap u' q')(h:C (P8 q q') s):zq (zz prog w) A (keyLt' (tuples' true) u u') C E s:=by
 obtain⟨a,t,t',rfl,o,ho,hc,n,hd⟩:=hx;obtain⟨b,v,v',rfl,o2,ql,hc2,n2,hd2⟩:=hy;refine PySem.W.kat_lt ho hd ql hd2 ?_;show PySem.W.KatLex prog w A true _ C [(.int q.1 t,.int q'.1 v),(.int q.2 t',.int q'.2 v')] 0 s;refine ZD (Zb (Yf (λe=>?_) λe=>?_))
 ·have e1:q.1=q'.1:=by simpa using e
  refine ZN (ZD (Zb (Yf (λe=>?_) λe=>?_)))
  ·have e2:q.2=q'.2:=by simpa using e
   refine ZN (PySem.W.kat_nil ?_);rw[show P8 q q'=false from eD.mpr (by lia)]at h;exact h
  ·refine Ye (PySem.W.kat_one _ _ (PyProof.Rows.lt_int ?_));unfold P8 at h;rw[if_pos e1]at h;exact h
 ·have e1:¬q.1=q'.1:=by simpa using e
  refine Ye ?_;show zq (zz prog w) A (oneLt' true _ _) C _ s;rw[<-JP];refine JM ?_;unfold P8 at h;rw[if_neg e1]at h;exact h
theorem GW{e e1:Nat}{ku vs:List ze}(hl:ku.length=vs.length)(sf:vs.length<64)(hq:qs.length=ku.length)(hk:∀(i:Nat) q,qs[i]? =some q->∃u,ku[i]? =some u/\UE s.heap u q)
 (ho1:s.heap.get? kS=some (jF "list" (zJ ku) e)) (ql:s.heap.get? a=some (jF "list" #[] e1)) (ne:a≠kS)
 (h:∀(h':Heap) (e':Nat),(∀b o,b∉ [a,kS]->s.heap.get? b=some o->h'.get? b=some o)->h'.get? a=some (jF "list" (zJ ((D7 qs vs.length).map λi=>vs.getD i Value.none)) e')->P (.done (.ret .none)) {s with heap:=h'}):
 zq (zz prog w) A (ksk_end a false vs.toArray e1 (.ref kS) (zJ ku)) P E s:=by
 unfold ksk_end
 try dsimp only
 simp only[jp,if_false];by_cases h2:vs.toArray.size<2
 ·rw[if_pos h2,if_pos h2];refine za (zm ?_);rw[StateT.run_pure];refine za (zm ?_);dsimp only;have hv:(ym (SortSt.mk' general' ((zJ ku).zip vs.toArray) #[] 7 none)).map (·.2)=zJ ((zR vs.length).map λi=>vs.getD i Value.none):=by
   show ((zJ ku).zip vs.toArray).map (·.2)=_;apply ZM.mp;rw[Array.toList_map];apply xZ
   ·simp[hl]
   ·intro i hi hj;simp at hi hj ⊢;simp[hj]
  have:vs.length<2:=by simpa using h2
  refine vG hv (by simp;lia) (by lia) rfl ho1 ql ne λh' e' k1 k2=>h h' e' k1 (by rw[D7,if_pos this];exact k2)
 ·rw[if_neg h2,if_neg h2];have hn2:2<=vs.length:=by simpa using h2
  have gq:∀i,i<vs.length->qs[i]? =some (qs.getD i (0,0)):=λi hi=>by rw[zv,zr (by lia)];rfl
  obtain⟨fs,T,hfs,hT⟩:∃fs:List ze,ZO s.heap ku fs/\0<fs.length/\∀v∈fs,∃n t,v= .int n t:=by
   have gen:∀(ku:List ze) (qs:List (Int×Int)),qs.length=ku.length->(∀(i:Nat) (q:Int×Int),qs[i]? =some q->∃u,ku[i]? =some u/\UE s.heap u q)->∃fs:List ze,ZO s.heap ku fs/\fs.length=ku.length/\∀v∈fs,∃n t,v= .int n t:=by
    intro ku
    induction ku with
    |nil=>exact λqs _ _=>⟨[],trivial,rfl,λv hv=>by cases hv⟩
    |cons u r ih=>
      intro qs hl hk;rcases qs with _|⟨q,qr⟩
      ·simp at hl
      ·
        obtain⟨u',e1,ad,t,t',rfl,o,ho,hc,n,hd⟩:=hk 0 q rfl;simp at e1;subst e1;obtain⟨fs,f1,f2,f3⟩:=ih qr (by simpa using hl) λi q hq=>by simpa using hk (i+1) q (by simpa using hq)
        refine⟨.int q.1 t::fs,Xb ho hc hd rfl f1,by simp[f2],λv hv=>?_⟩;rcases zk.mp hv with rfl|hv
        ·exact⟨_,_,rfl⟩
        ·exact f3 v hv
   obtain⟨fs,f1,f2,f3⟩:=gen ku qs hq hk;exact⟨fs,f1,by lia,f3⟩
  refine za (PySem.W.kat_kind (T:=.type "int") T hfs (λv hv=>?_) (by decide) ?_)
  ·obtain⟨n,t,rfl⟩:=hT v hv;exact Xk rfl
  ·have run:=tOk.wp (s:=s) (cmp:=Zc prog w A (tuples' (Value.type "int" != Value.type "tuple")) ku) (λi j C hi hj hC=>by
    obtain⟨u,u1,u2⟩:=hk i _ (gq i hi);obtain⟨v,v1,v2⟩:=hk j _ (gq j hj);unfold Zc;rw[zv,zv,u1,v1];exact RZ u2 v2 hC) _ (tOk.run _ (sQ (eP qs) hn2))
   refine za (jg (PySem.W.kat_run (Q:=λpc s'=>∃p:Array Nat,p.size=vs.length/\ym pc=p.map (PySem.W.kas_item ((zJ ku).zip vs.toArray))/\Zp pc=none/\s'=s/\p=QA (ltP qs) (ZG vs.length)/\K1 p vs.length/\upW (ltP qs) p vs.length) hl hn2 sf (λp pc s' a1 a2 a3 a4=>⟨p,a1,a2,a3,a4⟩) run) ?_ λ_ _ x=>x);rintro⟨⟨⟩,pc⟩ s' ⟨p,hp,har,hf,rfl,rfl,P1,U⟩
   try dsimp only
   exact vG (PySem.W.kat_snds hl har) (by rw[zE,zV,hp];exact sf) (by lia) hf ho1 ql ne λh' e' k1 k2=>h h' e' k1 (by rw[D7,if_neg (by lia)];exact k2)
end
section
variable{X:Cx}{Z:XC}{om:PNS}{σ:St}{H:Hp}{s:zh}{F:List D->M D}{k:Nat}{f:Addr}{fd:xm}{ps:List Str}{μ:List Addr}{G:DH}
theorem ah(rl:g8 (wc X) μ H l ws)(rv:m6 ws vs):
 ∃ws',m6 ws' ((D7 qs vs.length).map λi=>vs.getD i Value.none)/\g8 (wc X) μ H (rB qs l) ws'/\ws'.length=vs.length:=by
 have hlv:l.length=vs.length:=by rw[rl.length,rv.length]
 have hp:=(aP qs vs.length).1;have main:∀p:List Nat,(∀i∈p,i<vs.length)->∃ws',m6 ws' (p.map λi=>vs.getD i Value.none)/\g8 (wc X) μ H (p.map λi=>l.getD i .non) ws'/\ws'.length=p.length:=by
  intro p
  induction p with
  |nil=>exact λ_=>⟨[],.nil,rfl,rfl⟩
  |cons i r ih=>
    intro hi;obtain⟨ws',a1,a2,a3⟩:=ih λj hj=>hi j (zP _ hj);have li:=hi i (by simp);have gl:l[i]? =some (l.getD i .non):=by rw[zv,zr (by lia)];rfl
    obtain⟨v,e1,r1⟩:=rl.get (i:=i) gl;obtain⟨u,e2,r2⟩:=rv.get e1;refine⟨v::ws',?_,⟨v,ws',rfl,r1,a2⟩,by simp[a3]⟩;have:vs.getD i Value.none=u:=by rw[zv,e2];rfl
    rw[zW,this];exact .cons r2 a1
 obtain⟨ws',a1,a2,a3⟩:=main _ λi hi=>by simpa using hp.mem_iff.mp hi
 exact⟨ws',a1,by unfold rB;rw[hlv];exact a2,by rw[a3,hp.length_eq];simp⟩
theorem vU{Z:XC}{σ:St}(l:List D):iF X Z σ l o8 (λqs l=>K7 (.lst (rB qs l))):=λI eq q1 q2 rl rv hkv sf g1 g2 ne p h=>by obtain⟨sd,hk1⟩:=lO I eq q1 q2;refine GW hkv sf sd hk1 g1 g2 ne λh' e2 keep2 gg=>?_;obtain⟨ws',a1,a2,a3⟩:=ah rl rv;exact h h' e2 _ ws' _ keep2 gg a1 a2 a3 p
theorem ip(F:List D->M D):kJ F=wC false (oA o8 (λqs l=>K7 (.lst (rB qs l))) F):=funext λd=>by
 cases d<;>first|rfl|exact congrArg (M7 _ >>= ·) (funext λo=>by cases o<;>rfl)
end
section
variable{X:Cx}{Z:XC}{e:Expr}{fe:Fe}{p pf kp pos:Pos}{x:Str}{F:List D->M D}
theorem Ld(hc:X.calm=true)(hF:∃k kk,Q6 F 1 x X.prog X.w X.K X.mg X.base k/\K8 kk X.A/\k+2<=kk)(tf:BLs X.mg)(hgs:Gl X "sorted")(hg:Gl X x)(he:DE X Z e fe)(hs:J9 e=true)(hdb:(x==("__debug__" :Str))=false):
 DE X Z (.Call (.Name "sorted" p) [e] [⟨some "key",.Name x pf,kp⟩] pos) (CH F fe):=by
 have w:=VL (p:=p) (pf:=pf) (kp:=kp) (pos:=pos) (dd:=false) (λσ l=>vU (σ:=σ) (Z:=Z) l) hc hF tf hgs hg he hs hdb;rw[<-ip]at w;exact w
end
section
variable{prog:zB}{w:zI}{A:zL}{E:VSP}{s:zh}
end
section
variable{X:Cx}{Z:XC}{es:List Expr}{pos:Pos}
end
section
variable{X:Cx}{Z:XC}
def EG(i n:Nat)(tab:Str->Option (List D->M D))(fs:DSt->M (List D)):Fe:=λσ=>match σ[i]? with
|some (some (.fn x))=>match tab x with
  |some F=>fs σ >>= fnX n F
  |none=>M.stuck
|_=>M.stuck
theorem pU{α:Type}{X9:DSt}{c:Wc}{H:Hp}{G:DH}{K:D->List Addr->DH->Hp->Prop}(p:c7 c Z μ H (EG i n tab fs X9 G) K):
 ∃x F,X9[i]? =some (some (.fn x))/\tab x=some F/\c7 c Z μ H ((fs X9 >>= fnX n F) G) K:=by
 delta EG at p;rcases hx:X9[i]? with _|_|d
 ·rw[hx]at p;exact p.elim
 ·rw[hx]at p;exact p.elim
 ·rw[hx]at p;rcases d with _|_|_|_|_|_|x|_<;>try exact p.elim
  have p:c7 c Z μ H ((match tab x with|some F=>fs X9 >>= fnX n F|none=>M.stuck:M D) G) K:=p;rcases hF:tab x with _|F
  ·rw[hF]at p;exact p.elim
  ·rw[hF]at p;exact⟨x,F,rfl,hF,p⟩
theorem Bh{e:Expr}{y:Str}(hT:∀x F,tab x=some F->∃k kk,Q6 F n x X.prog X.w X.K X.mg X.base k/\K8 kk X.A/\k<=kk)(hv:PE X (.Name y p) (VA i))(ha:DA X Z (e::es) fs)(hs:(e::es).all J9=true):
 DE X Z (.Call (.Name y p) (e::es) [] pos) (EG i n tab fs):=⟨by
 intro om s σ H Q I h;obtain⟨X9,μ,G,sr,hr,pp⟩:=h;obtain⟨x,F,hx,hF,pp⟩:=pU (α:=D) pp;obtain⟨k,kk,hC,hrm,hk⟩:=hT x F hF;obtain⟨f,fd,ps,f1,f2,f3,f4⟩:=hC.ex;rw[jC,zS]at hs;obtain⟨v,e1,r⟩:=sr.2 i _ hx;unfold d7 at r;obtain⟨a,ea,rfl⟩:=r;have ea:X.mg x=some (.ref a):=ea;rw[f2]at ea
 cases ea
 refine yB (thn (hv om s σ H (λv' H'=>v'= .ref f/\H'=H) I ⟨_,e1,rfl,rfl⟩) λu s1 ⟨v',H',I1,rv,e2,e3⟩=>?_);subst e2 e3
 cases rv
 refine Zk (h₀:=X.base) I1.ok.mod.kin f3 (thn (ha.h pos om s1 σ H' (λvs H2=>spD (wc X) n F vs H2 Q E0) I1 ⟨X9,μ,G,sr,hr,(c7.bind pp).mono λds' X0 G1 H1 x' h1 p1 vs rv=>?_⟩) λus s2 ⟨vs,H2,I2,r2,q2⟩=>⟨I2.kIn,?_⟩) (N0 hs.1) (by rw[M5];exact Q3 hs.2)
 ·obtain⟨hl,p2⟩:=UK p1;exact⟨by rw[<-rv.length];exact hl,ds',X0,G1,rv,h1,p2⟩
 ·exact TD (dvs:= []) (ds:= []) f1 (hrm.mono hk) f4 .nil EF I2 r2 (by rw[ji];exact q2)⟩
end
def E6:List D->M D:=λds=>match ds with
|[.int i]=>pure (.int i)
|[.bl k]=>pure (.int (if k then 1 else 0))
|[.str z]=>match JJ z with
  |some n=>if z.length<=640 then pure (.int n)else M.stuck
  |none=>M.stuck
|_=>M.stuck
def S6(z p:Str)(i:Int):Bool:=decide (fromIndex z.length i+p.length<=z.length)&&Yp z p (fromIndex z.length i)
def startsD:D->List D->M D:=λx ds=>match x,ds with
| .str z, [.str p,.int i]=>pure (.bl (S6 z p i))
|_,_=>M.stuck
def J2:Fs:=λ_=>M.stuck
section
variable{X:Cx}{Z:XC}
theorem cq:R9 X Z (.type "int") E6:=⟨by
 intro om s σ H xs us Q I r ov;have hE:=ov;obtain⟨ds,μ,G,rl,hr,p⟩:=ov;rcases ds with _|⟨_|b|n|z|_|_|_|_,_|⟨_,_⟩⟩<;>try exact p.elim
 ·exact(cN (X:=X) (Z:=Z)).h om s σ H xs us Q I r ⟨_,μ,G,rl,hr,p⟩
 ·exact(cN (X:=X) (Z:=Z)).h om s σ H xs us Q I r ⟨_,μ,G,rl,hr,p⟩
 ·obtain⟨v,rfl,rv⟩:=S2 rl;obtain⟨u,rfl,ru⟩:=S3 r;rw[S1 rv]at ru;obtain⟨t,rfl⟩:=ru;have p:c7 (wc X) Z μ H ((match JJ z with|some n=>if z.length<=640 then pure (.int n)else M.stuck|none=>M.stuck:M D) G) _:=p;rcases hz:JJ z with _|n
  ·rw[hz]at p;exact p.elim
  ·rw[hz]at p;have p:c7 (wc X) Z μ H ((if z.length<=640 then pure (.int n)else M.stuck:M D) G) _:=p;split at p
   case isFalse=>exact p.elim
   rename_i hl;exact PySem.W.KIN.call_text hz hl ⟨.int n,H,I.tok _,⟨_,rfl⟩,c7.ok p hr _ ofI⟩⟩
theorem Dm(_:X.calm=true):BD E6 "int" X Z:=⟨.inr ⟨_,cq,Wv⟩⟩
theorem wd:MtD X Z "str.startswith" startsD:=by
 intro om s σ H x xs v us Q I rx rvs ov;obtain⟨d,ds,μ,G,rd,rl,hr,p⟩:=ov;unfold startsD at p;split at p
 ·rename_i z q i;rw[S1 rd]at rx;obtain⟨t,rfl⟩:=rx;obtain⟨v1,v2,rfl,r1,r2⟩:=TH rl;obtain⟨u1,u2,rfl,s1,s2⟩:=CA rvs;rw[S1 r1]at s1;rw[W0 r2]at s2;obtain⟨t1,rfl⟩:=s1;obtain⟨t2,rfl⟩:=s2;exact call_gives Js (Xs _ _ _) F.entry_str_startswith (F.args_str_startswith_3 _ _ _) (gives_str_startswith_from z q i t t1 t2) (show (PySem.Made.val _).post _ s from⟨.bl (S6 z q i),H,I,rfl,c7.ok p hr _ (by unfold d7;rfl)⟩)
 ·exact p.elim
def w9(a b:Str)(Fa Fb:List D->M D):Str->Option (List D->M D):=λx=>if x=a then some Fa else if x=b then some Fb else none
theorem FU(ha:∃k kk,Q6 Fa n a X.prog X.w X.K X.mg X.base k/\K8 kk X.A/\k<=kk)(hb:∃k kk,Q6 Fb n b X.prog X.w X.K X.mg X.base k/\K8 kk X.A/\k<=kk)
 (hN:X.N[i]? =some y) (hv:Vis X.env.scope y) (hd:(y==("__debug__" :Str))=false) (hcd:(y==("__classdict__" :Str))=false) (hs:(e::es).all J9=true) (hA:DA X Z (e::es) fs):
 DE X Z (.Call (.Name y p) (e::es) [] pos) (EG i n (w9 a b Fa Fb) fs):=Bh (λx F h=>by
 unfold w9 at h;split at h
 ·rename_i k;cases h;rw[k];exact ha
 ·split at h
  ·rename_i k;cases h;rw[k];exact hb
  ·cases h) (MC hN hv hd hcd) hA hs
theorem Bp{st:Stmt}:DS X Z st J2:=⟨by
 intro om s σ H E I ov;obtain⟨X9,μ,G,sr,hr,p⟩:=ov;exact p.elim⟩
end
section
variable{prog:zB}{w:zI}{A:zL}{E:VSP}{s:zh}
end
section
variable{X:Cx}{Z:XC}{c:Wc}{μ:List Addr}{H:Hp}{G:DH}
end
section
variable{X:Cx}{Z:XC}{ea eb:Expr}{fa fb:Fe}{p p1 p2 q1 q2 q3 pos:Pos}
end
def cV(A:zL)(s:zh)(y x:ze)(b:Bool):Prop:=
 ∀(prog:zB) (w:zI) (E:VSP) (Q:VSP),Q (.bool b) s->zq (zz prog w) A (Jp .GtE y x) Q E s
inductive GeR(A:zL)(s:zh):List ze->List ze->Bool->Prop
|nil:GeR A s [] [] true
|eq {x y xs ys b}:jR A s x y true->GeR A s xs ys b->GeR A s (x::xs) (y::ys) b
|ne {x y xs ys b}:jR A s x y false->cV A s x y b->GeR A s (x::xs) (y::ys) b
section
open PySem.SeqAt
open PySem.AutoSeq1 (wpAny_loadPart')
open PySem.MeetsSeq PySem.MeetsSeq2 PySem.MeetsSeq3
end
section
variable{X:Cx}{Z:XC}
end
section
end
def UJ(c:Wc)(μ:List Addr)(H:Hp)(pi:Option (D×D))(old:Array ze):Prop:=match pi with
|none=>old= #[]
|some b=>∃v vk u uk,d7 c μ H b.1 v/\u5 v u/\d7 c μ H b.2 vk/\u5 vk uk/\old= #[u,uk]
theorem UJ.mono(x:Ext μ H X2 H')(h:UJ c μ H pi old):UJ c X2 H' pi old:=by
 rcases pi with _|b
 ·exact h
 ·obtain⟨v,vk,u,uk,a1,a2,a3,a4,a5⟩:=h;exact⟨v,vk,u,uk,a1.mono x,a2,a3.mono x,a4,a5⟩
section
variable{X:Cx}{Z:XC}{om:PNS}{σ:St}{k:Nat}{f:Addr}{fd:xm}{ps:List Str}{F:List D->M D}{A:zL}
end
section
variable{X:Cx}{Z:XC}{F:List D->M D}{x:Str}{e:Expr}{fe:Fe}{p pf kp pos:Pos}
end
section
variable{prog:zB}{w:zI}{A:zL}{E:VSP}{s:zh}{K:Type}[DecidableEq K]{knd:KeyKind prog w K}
end
section
variable{X:Cx}{Z:XC}{ea:Expr}{fa:Fe}{p q1 ap pos:Pos}
end
inductive CdE(w:zI)(K:zc)(mg:Str->Option ze):List DictEntry->List (Str×D)->Prop
|nil:CdE w K mg [] []
|cons {z:Str} {t:Tok} {u:ze} {d:D} {es:List DictEntry} {tb:List (Str×D)} (h:CR K mg d u) (r:CdE w K mg es tb):CdE w K mg ({hash:=PyData.keyHash w.params z,key:=.str z t,val:=u}::es) ((z,d)::tb)
structure CdOk(w:zI)(K:zc)(mg:Str->Option ze)(x:Str)(tb:List (Str×D)):Prop where
 ex:∃a es n,mg x=some (.ref a)/\K.lookup a=some ⟨.type "dict",none,.dict (zJ es) n, #[]⟩/\CdE w K mg es tb
 nd:(tb.map (·.1)).Nodup
section
variable{X:Cx}{Z:XC}{b:Expr}{fb:Fe}{x:Str}{tb:List (Str×D)}{p pos:Pos}
end
mutual
def pyD:D->PyData
| .non=>.none
| .bl b=>.bool b
| .int i=>.int i
| .str x=>.str x
| .tup l=>.tuple (pyL l)
| .ref _=>.none
| .fn _=>.none
| .ty _=>.none
def pyL:List D->List PyData
|[]=> []
|d::r=>pyD d::pyL r
end
mutual
def LC:D->Bool
| .non=>true
| .bl _=>true
| .int _=>true
| .str _=>true
| .tup l=>CF l
| .ref _=>false
| .fn _=>false
| .ty _=>false
def CF:List D->Bool
|[]=>true
|d::r=>LC d&&CF r
end
mutual
theorem Sg:∀d:D,(pyD d).hasDict=false
| .non=>rfl
| .bl _=>rfl
| .int _=>rfl
| .str _=>rfl
| .tup l=>by unfold pyD;exact kP l
| .ref _=>rfl
| .fn _=>rfl
| .ty _=>rfl
theorem kP:∀l:List D,PyData.hasDictAll (pyL l)=false
|[]=>rfl
|d::r=>by unfold pyL;show ((pyD d).hasDict||PyData.hasDictAll (pyL r))=false;rw[Sg d,kP r];rfl
end
section
variable{X:Cx}{Z:XC}{om:PNS}{σ:St}{H:Hp}{s:zh}
theorem UZ(I:Inv X om σ H s)(q:SqT X.K H a vs):∃o ou n,s.heap.get? a=some o/\o.cls= .type "tuple"/\o.data= .seq ou n/\m6 vs ou.toList:=by
 rcases q with q|⟨o,ou,n,hl,hc,hd,_,hv⟩
 ·obtain⟨_,ou,hv,o,e,c,n,d⟩:=(show R0 X.prog X.w H s.heap a (.tup vs)from iK I.hok q);exact⟨o,ou.toArray,n,e,c,(xy d).1,by simpa using hv⟩
 ·exact⟨o,ou,n,I.kIn _ _ hl,hc,(xy hd).1,hv⟩
mutual
theorem Pv(I:Inv X om σ H s):∀d {v} {u},LC d=true->d7 (wc X) μ H d v->u5 v u->∃as,Reads s.heap u (pyD d) as
| .non,v,u,_,r,q=>by unfold d7 at r;subst r;cases q;exact⟨_,.none⟩
| .bl b,v,u,_,r,q=>by unfold d7 at r;subst r;cases q;exact⟨_,.bool b⟩
| .int i,v,u,_,r,q=>by unfold d7 at r;subst r;obtain⟨t,rfl⟩:=q;exact⟨_,.int i t⟩
| .str x,v,u,_,r,q=>by unfold d7 at r;subst r;obtain⟨t,rfl⟩:=q;exact⟨_,.str x t⟩
| .tup l,v,u,hd,r,q=>by
  unfold d7 at r;obtain⟨a,vs,rfl,sq,rl⟩:=r
  cases q
  obtain⟨o,ou,n,e,c,d,hv⟩:=UZ I sq;obtain⟨as,ra⟩:=AR I l (by unfold LC at hd;exact hd) rl hv;unfold pyD;exact⟨as,.tuple e c d ra⟩
| .ref _,v,u,hd,_,_=>by unfold LC at hd;cases hd
| .fn _,v,u,hd,_,_=>by unfold LC at hd;cases hd
| .ty _,v,u,hd,_,_=>by unfold LC at hd;cases hd
theorem AR(I:Inv X om σ H s):∀l {vs} {us},CF l=true->g8 (wc X) μ H l vs->m6 vs us->∃as,ReadsAll s.heap us (pyL l) as
|[],vs,us,_,r,q=>by unfold g8 at r;subst r;cases q;exact⟨_,.nil⟩
|d::l,vs,us,hd,r,q=>by
  unfold g8 at r;obtain⟨v,r',rfl,r1,r2⟩:=r;unfold CF at hd;rw[zS]at hd
  cases q with
  |cons q1 q2=>
    obtain⟨as,h1⟩:=Pv I d hd.1 r1 q1;obtain⟨bs,h2⟩:=AR I l hd.2 r2 q2;unfold pyL;exact⟨_,.cons h1 h2⟩
end
end
section
variable{X:Cx}{Z:XC}
end
end DL
namespace W
open PySem PySem.Spec L2 DL
open PyProof.Rows hiding St
end W
namespace DL
open PySem PySem.Spec L2
open PyProof.Rows hiding St
section
variable{X:Cx}{Z:XC}{o:Expr}{fo:Fe}{name:Str}{id:String}{mm:D->List D->M D}{apos cpos:Pos}
end
def sV:ze->Str
| .str x _=>x
|_=> ""
def byT(w:zI):Bool:=w.params.followText "set-order"
def TSet(prog:zB)(w:zI)(h:Heap)(a:Addr)(ss:List Str):Prop:=∃o es ep t,h.get? a=some o/\o.ExactSet/\o.data= .set es ep t/\ElemsOf (strKind prog w) es.toList/\(es.toList.map λe=>sV e.2).Perm ss/\es.size<scanBound/\t.fits es.size=true/\t.led= (!byT w)/\(0<es.size->t.plain=false)
section
variable{prog:zB}{w:zI}{A:zL}{E:VSP}{s:zh}
end
theorem StrsAre.at:∀ {vs} {ss},StrsAre vs ss->∀(i:Nat) v,vs[i]? =some v->∃x t,ss[i]? =some x/\v= .str x t
|_,_,.nil,i,v,h=>by simp at h
|_,_,.cons x t hr,0,v,h=>by simp at h;exact⟨x,t,rfl,h.symm⟩
|_,_,.cons n t hr,i+1,v,h=>by simp only[jt]at h ⊢;exact StrsAre.at hr i v h
section
variable{prog:zB}{w:zI}{A:zL}{R:Jl->zh->Prop}{I:Addr}{fp wr:List Addr}{G:Array GenState->Array GenState->Prop}{n:Nat}{P:Nat->ze->Prop}{St:Nat->zh->Prop}
end
section
end
abbrev sO(es:Array (Int×ze))(ep:Nat)(t:SetTable):Obj:={cls:=.type "set",dict:=none,data:=.set es ep t,slots:= #[]}
section
end
def KO(w:zI)(h:Heap)(a:Addr)(vs:List ze):Prop:=∃o es ep t,h.get? a=some o/\o.ExactSet/\o.data= .set es ep t/\(es.toList.map (·.2)).Perm vs/\es.size<=zi/\t.fits es.size=true/\t.led= (!byT w)/\(1<es.size->t.plain=false)
theorem KO.type{s:zh}(hS:KO w s.heap a vs):s.TypeIs (.ref a) "set":=by obtain⟨o,es,ep,t,ho,⟨x1,_⟩,_⟩:=hS;exact⟨o,ho,x1⟩
structure SWalk(prog:zB)(w:zI)(A:zL)(s:zh)(a:Addr)(vs:List ze)(I:Addr)(h':Heap):Prop where
 keep:∀b o,s.heap.get? b=some o->h'.get? b=some o
 new:s.heap.objs.size<=I
 walk:∃(J:Addr) (us:List ze) (St:Nat->Heap->Prop),s.heap.objs.size<=J/\us.Perm vs/\us.length<=zi/\Walks prog w A I [I,J,a] [I] us.length (λi v=>us[i]? =some v) St/\St 0 h'
section
end
section
variable{prog:zB}{w:zI}{A:zL}{E:VSP}{s:zh}{a I:Addr}{es:Array (Int×ze)}{ep:Nat}{t:SetTable}
end
section
variable{prog:zB}{w:zI}{s:zh}{a I:Addr}{es:Array (Int×ze)}{ep:Nat}{t:SetTable}
theorem TSet.type(hS:TSet prog w s.heap a ss):s.TypeIs (.ref a) "set":=by obtain⟨o,es,ep,t,ho,⟨x1,_⟩,_⟩:=hS;exact⟨o,ho,x1⟩
end
section
end
end DL
namespace W
open PySem PySem.Spec L2 DL
open PyProof.Rows hiding St
end W
namespace DL
open PySem PySem.Spec L2
open PyProof.Rows hiding St
def lcg(m i:Nat):Nat:=(i*5+1) % (m+1)
def itr(m:Nat):Nat->Nat->Nat
|0,i=>i
|k+1,i=>itr m k (lcg m i)
def qF(m:Nat):Prop:=∀i≤m,∀j≤m,∃k≤m,itr m k i=j
def IE(owner:Array (Option Nat))(r:Option Nat):Prop:=∃j,r=some j/\owner[j]? =some none
theorem Nj{owner:Array (Option Nat)}(h:(zR n).find? (λk=>(owner.getD (i+k) (some 0)).isNone)=some k):owner[i+k]? =some none:=by
 have:=List.find?_some h;have e:owner.getD (i+k) (some 0)=none:=by simpa using this
 rw[xu]at e;rcases h2:owner[i+k]? with _|o
 ·rw[h2]at e;cases e
 ·rw[h2]at e;have:o=none:=e;rw[this]
theorem RX(h:owner[i]? =some none):IE owner (jj mask owner (f+1) i p):=by
 unfold jj;have hr:∃m,jX mask i+1-i=m+1:=by
  unfold jX;split
  ·exact⟨9,by omega⟩
  ·exact⟨0,by omega⟩
 obtain⟨m,hm⟩:=hr;have:((zR (jX mask i+1-i)).find? λk=>(owner.getD (i+k) (some 0)).isNone)=some 0:=by rw[hm,yK,List.find?_cons_of_pos];rw[xu,Nat.add_zero,h];rfl
 rw[this];exact⟨i,by simp,h⟩
theorem qQ{owner:Array (Option Nat)}(h:IE owner (jj mask owner f (jP mask i p).1 (jP mask i p).2)):IE owner (jj mask owner (f+1) i p):=by
 unfold jj;split
 ·rename_i k hk;exact⟨i+k,rfl,Nj hk⟩
 ·exact h
theorem oR(hj:owner[j]? =some none):∀k f i,k<f->itr mask k i=j->IE owner (jj mask owner f i 0)
|0,f+1,i,_,e=>by have e:i=j:=e;rw[<-e]at hj;exact RX hj
|k+1,f+1,i,hf,e=>by
  refine qQ ?_;have e1:(jP mask i 0).1=lcg mask i:=by show (i*5+1+0 / 32) % (mask+1)=_;simp[lcg]
  have e2:(jP mask i 0).2=0:=by show 0 / 32=0;rfl
  rw[e1,e2];exact oR hj k f _ (by omega) e
theorem vN(hF:qF mask)(hj:owner[j]? =some none)(hm:j<=mask):∀n f i p,p<32 ^ n->n+mask<f->i<=mask->IE owner (jj mask owner f i p)
|0,f,i,p,hp,hf,hi=>by
  obtain rfl:p=0:=by simpa using hp
  obtain⟨k,hk,e⟩:=hF i hi j hm;exact oR hj k f i (by omega) e
|n+1,f+1,i,p,hp,hf,hi=>by
  refine qQ (vN hF hj hm n f _ _ ?_ (by omega) ?_)
  ·show p / 32<32 ^ n;rw[Nat.pow_succ]at hp;omega
  ·show (i*5+1+p / 32) % (mask+1)<=mask;have:=YS (i*5+1+p / 32) (show 0<mask+1 by omega);omega
structure PJ(mask:Nat)(k:Nat)(owner:Array (Option Nat)):Prop where
 sz:owner.size=mask+1
 pm:(owner.toList.filterMap id).Perm (zR k)
theorem QS:∀ {l:List (Option α)} {j:Nat},l[j]? =some none->((l.set j (some x)).filterMap id).Perm (x::l.filterMap id)
|[],_,h=>by simp at h
|a::l,0,h=>by
  have:a=none:=by simpa using h
  subst this;simp
|a::l,j+1,h=>by
  have ih:=QS (x:=x) (l:=l) (j:=j) (by simpa using h);rw[yO];rcases a with _|a
  ·simpa using ih
  ·show (a::XW id (l.set j (some x))).Perm (x::a::XW id l);exact(List.Perm.cons a ih).trans (List.Perm.swap ..)
theorem BS:∀ {l:List (Option Nat)},(l.filterMap id).length<l.length->∃j,j<l.length/\l[j]? =some none
|[],h=>by simp at h
|none::l,h=>⟨0,by simp,rfl⟩
|some a::l,h=>by obtain⟨j,h1,h2⟩:=BS (l:=l) (by simpa using h);exact⟨j+1,by simpa using h1,by simpa using h2⟩
theorem mT(h:Int):yi h<32 ^ 13:=by
 unfold yi;have h1:=xN h (show (0:Int)<2 ^ 64 by decide);have h2:=yf h (show (2 ^ 64:Int)≠0 by decide);have:(32:Nat) ^ 13=36893488147419103232:=by decide
 omega
theorem PJ.step{owner:Array (Option Nat)}(hF:qF mask)(I:PJ mask k owner)(hk:k<=mask)(h:Int):∃j,jj mask owner (ZW mask) (yi h % (mask+1)) (yi h)=some j/\PJ mask (k+1) (owner.setIfInBounds j (some k)):=by
 have hl:(owner.toList.filterMap id).length=k:=by rw[I.pm.length_eq,xT]
 obtain⟨j0,hj0,e0⟩:=BS (l:=owner.toList) (by rw[hl,zV,I.sz];omega);rw[jd]at e0;have hm:j0<=mask:=by rw[zV,I.sz]at hj0;omega
 have hi:yi h % (mask+1)<=mask:=by have:=YS (yi h) (show 0<mask+1 by omega);omega
 obtain⟨j,e,ho⟩:=vN hF e0 hm 13 (ZW mask) _ _ (mT h) (by unfold ZW;omega) hi;refine⟨j,e,by simp[I.sz],?_⟩;rw[Array.toList_setIfInBounds];refine(QS (by rw[jd];exact ho)).trans ?_;rw[Xx];exact(List.Perm.cons k I.pm).trans (List.perm_append_singleton ..).symm
section
variable{prog:zB}{w:zI}{A:zL}{E:VSP}{s:zh}{a:Addr}
def GL(w:zI)(h:Heap)(a:Addr)(n:Nat):Prop:=∃ep t,h.get? a=some (sO #[] ep t)/\qF t.mask/\n<=t.mask/\t.fill=0/\t.place= #[]/\t.led= (!byT w)
theorem GL.ts(h:GL w s.heap a n):TSet prog w s.heap a []:=by obtain⟨ep,t,ho,_,_,hf,hp,hl⟩:=h;exact⟨_, #[],ep,t,ho,⟨rfl,rfl,rfl⟩,rfl,(λ_ h=>by simp at h),.nil,by decide,by unfold SetTable.fits;rw[hf,hp];rfl,hl,λh=>by simp at h⟩
end
section
theorem TSet.obj(hS:TSet prog w h a ss):∃es ep t,h.get? a=some (sO es ep t)/\t.fits es.size=true:=by obtain⟨o,es,ep,t,ho,⟨x1,x2,x3⟩,hd,_,_,_,hf,_⟩:=hS;obtain⟨oc,od,odt,os⟩:=o;obtain rfl:oc= .type "set":=x1;obtain rfl:od=none:=x2;obtain rfl:os= #[]:=x3;obtain rfl:odt= .set es ep t:=hd;exact⟨es,ep,t,ho,hf⟩
end
inductive BB(w:zI):List DictEntry->List Str->Prop
|nil:BB w [] []
|cons {e:DictEntry} {x:Str} {tk:Tok} {es:List DictEntry} {xs:List Str}:e.key= .str x tk->e.hash=hashStr w x->BB w es xs->BB w (e::es) (x::xs)
theorem BB.len(h:BB w es xs):es.length=xs.length:=by
 induction h with
 |nil=>rfl
 |cons _ _ _ ih=>simp[ih]
theorem BB.at(h:BB w es xs):∀ {i:Nat} {e:DictEntry},es[i]? =some e->∃x tk,xs[i]? =some x/\e.key= .str x tk/\e.hash=hashStr w x:=by
 induction h with
 |nil=>intro i e h;simp at h
 |cons h1 h2 _ ih=>
   intro i e h;rcases i with _|i
   ·simp at h;subst h;exact⟨_,_,rfl,h1,h2⟩
   ·simpa using ih (by simpa using h)
section
end
end DL
namespace W
open PySem PySem.Spec L2 DL
open PyProof.Rows hiding St
end W
namespace DL
open PySem PySem.Spec L2
open PyProof.Rows hiding St
structure Ev where
 P:zB
 w:zI
 K:zc
 mg:Str->Option ze
 base:Heap
structure EvX(E:Ev):Prop where
 ex:∃h:Heap,E.K.In h/\h.Ns zF E.mg
abbrev Ck(E:Ev)(F:List D->M D)(n:Nat)(x:Str)(k:Nat):Prop:=Q6 F n x E.P E.w E.K E.mg E.base k
def BA(x:Str)(st:Stmt)(ps:List Str):Prop:=∀(kV doc pm:ze) (an:Option Addr) (pq ct:ze) (us:List ze),us.length=ps.length->bindArgs (yG x x (P9 st) (O9 st) (o5 st) .none kV doc pm an pq ct) ⟨us, []⟩=pure (ps.zip us)
section
variable{E:Ev}{x:Str}{st:Stmt}{k n m:Nat}{fb:Fs}
theorem Q9(N ps:List Str)(X:EvX E)(Y:FH E.K x st)(S:M4 N ps (o5 st))(b:BA x st ps)(hn:ps.length=n)(hm:N.length=m)
 (hb:M4 N ps (o5 st)->∀f pq A outer s H Z,K8 k (A.deeper (yb x (o5 st) s.heap.objs.size f pq))->DB (U5 CX0 E.P E.w E.K E.mg E.base N x (o5 st) f pq A outer s H Z).nox ZF (O9 st) fb):Ck E (m9 m fb) n x (k+1):=by
 obtain⟨h,X,G⟩:=X.ex;obtain⟨f,fd,c⟩:=Y.ff X G b;exact Q6.of c (NP c S hn hm (hb S f))
theorem gb(ps:List Str)(X:EvX E)(Y:FH E.K x st)(b:BA x st ps)(hn:ps.length=n):Ck E (λ_=>M.stuck) n x k:=by obtain⟨h,X,G⟩:=X.ex;obtain⟨f,fd,c⟩:=Y.ff X G b;exact Q6.of c (cx hn)
end
def FHs(K:zc)(top:Nat->Stmt):List Str->List Nat->Prop
|x::r,i::s=>FH K x (top i)/\FHs K top r s
|_,_=>True
section
variable{K:zc}{top:Nat->Stmt}{x:Str}{i:Nat}{r:List Str}{s:List Nat}{mg:Str->Option ze}{d:D}{u:ze}{h:Heap}
theorem FHs.c(h:FH K x (top i))(t:FHs K top r s):FHs K top (x::r) (i::s):=⟨h,t⟩
structure CC(K:zc)(mg:Str->Option ze)(x:Str)(d:D):Prop where
 ex:∃u,jv K zF x=some (some u)/\CR K mg d u
theorem CC.of(g:jv K zF x=some (some u))(r:CR K mg d u):CC K mg x d:=⟨u,g,r⟩
theorem CC.ok(c:CC K mg x d)(X:K.In h)(G:h.Ns zF mg):nB K mg x d:=by obtain⟨u,g,r⟩:=c.ex;exact⟨u,jT X G g,r⟩
theorem qz{fa:Addr}{P:zB}{w:zI}{N:List Str}{k m:Nat}{fb:Fs}(X:K.In h)(G:h.Ns zF mg)(hfa:mg "law" =some (.ref fa))(Y:FH K "law" (top i))(b:BA "law" (top i) ["script"])(S:M4 N ["script"] (o5 (top i)))(hm:N.length=m)
 (hs:∀kV dc pm an cd ct (s:zh) (v:ze),Yy s (yG "law" "law" (P9 (top i)) (O9 (top i)) (o5 (top i)) .none kV dc pm an cd ct) ⟨[v], []⟩ [("script",v)])
 (hb:∀base,M4 N ["script"] (o5 (top i))->∀pq A outer s H Z,K8 k (A.deeper (yb "law" (o5 (top i)) s.heap.objs.size fa pq))->DB (U5 CX0 P w K mg base N "law" (o5 (top i)) fa pq A outer s H Z).nox ZF (O9 (top i)) fb)
 (pure:∀ns:List Int,ns.length<=63->∃G',m9 m fb [.ref 0] [.rol (ns.map D.int)]=some (.ok (.bl true),G')):
 ∃fd:xm,(∀(s:zh) (v:ze),Yy s fd ⟨[v], []⟩ [("script",v)])/\∀base:Heap,K.In base->base.Ns zF mg->V2 P w K mg base CX0 (k+1) fa fd ["script"] (aG K):=by
 obtain⟨f,od,an,sl,oc,kV,dc,pm,cd,ct,a,l,e,kp⟩:=Y;have q:=hfa.symm.trans (jT X G a)
 cases q
 exact⟨_,hs kV dc pm an cd ct,λbase _ _=>MZ (NP ⟨FG l e kp,(FG l e kp).binds b,jT X G a⟩ S rfl hm (hb base S)) pure⟩
theorem walk63{l:PySem.W.OpenLaw}{q:zB}{loose:List Str}{XP:(Str->Option ze)->Heap->Prop}{YP:zI->Heap->Prop}{d:DefRec}{K:Params->zc}(k:Nat)(hn:l.most=some 63)(hdf:d.params.defaults= [])(hr:K8 k YV)
 (hY:∀(w:zI) (h:Heap),YP w h->(K w.params).In h)
 (F:∀(w:zI) (mg:Str->Option ze) (fa:Addr) (h:Heap),(K w.params).In h->h.Ns zF mg->mg d.name=some (.ref fa)->
   ∃fd:xm,(∀(s:zh) (u:ze),Yy s fd ⟨[u], []⟩ [("script",u)])/\∀base:Heap,(K w.params).In base->base.Ns zF mg->V2 l.prog w (K w.params) mg base CX0 k fa fd ["script"] (aG (K w.params))):
 PySem.W.WalkO q loose XP YP l.row.toRowW d [] (λf vs=>PySem.call f vs):=
 L2.walk_of hn (by decide) hdf hr hY F (λ_ _ a ns hl hO hS=>⟨a,ns,rfl,hS,hO,hl,λ_=>rfl⟩) λ_ _ _ _ _ z=>z
end
section
variable{prog:zB}{w:zI}{A:zL}{E:VSP}{s:zh}
end
section
end
section
variable{X:Cx}{Z:XC}{ea:Expr}{fa:Fe}{p q1 ap pos:Pos}
end
section
variable{prog:zB}{w:zI}{A:zL}{E:VSP}{s:zh}
end
section
variable{X:Cx}{om:PNS}{σ:St}{H:Hp}{s:zh}
end
end DL
namespace DL
open PySem PySem.Spec L2
open PyProof.Rows hiding St
open SetTable (Probe)
def B9(m:Nat)(p:Probe):Probe:=if p.more>0 then {p with j:=p.j+1,more:=p.more-1}else {p with j:=(jP m p.i p.perturb).1,more:=jX m (jP m p.i p.perturb).1-(jP m p.i p.perturb).1,i:=(jP m p.i p.perturb).1,perturb:=(jP m p.i p.perturb).2}
def rs(m i pt:Nat):Probe:={j:=i,more:=jX m i-i,i,perturb:=pt,dummy:=none}
theorem NC(h:p.more=n+1):B9 m p= {p with j:=p.j+1,more:=n}:=by unfold B9;rw[if_pos (by lia),h];rfl
theorem MU(h:p.more=0):B9 m p= {p with j:=(jP m p.i p.perturb).1,more:=jX m (jP m p.i p.perturb).1-(jP m p.i p.perturb).1,i:=(jP m p.i p.perturb).1,perturb:=(jP m p.i p.perturb).2}:=by unfold B9;rw[if_neg (by lia)]
inductive Rch(lv:Nat->Prop)(m:Nat):Probe->Nat->Prop
|here {p:Probe}:Rch lv m p p.j
|step {p:Probe} {j:Nat} (h:lv p.j) (k:Rch lv m (B9 m p) j):Rch lv m p j
theorem Rch.mono(h:Rch lv m p j)(k:∀i,lv i->lv' i):Rch lv' m p j:=by
 induction h with
 |here=>exact .here
 |step h _ ih=>exact .step (k _ h) ih
section
variable{lv:Nat->Prop}{m:Nat}
end
abbrev lvT(t:SetTable)(j:Nat):Prop:=∃i,t.slot j= .live i
section
variable{t:SetTable}{ha:Nat->Int}{h:Int}
end
section
variable{xs:Array Nat}{j:Nat}
def Up(xs:Array Nat):Prop:=∀i k a b:Nat,xs[i]? =some a->xs[k]? =some b->i<k->a<b
theorem RI(up:Up xs):∀fuel lo hi,hi-lo<=fuel->lo<=hi->hi<=xs.size->(∀i v,i<lo->xs[i]? =some v->v<j)->(∀i v,hi<=i->xs[i]? =some v->j<=v)->
 xC xs j fuel lo hi<=xs.size/\(∀i v,i<xC xs j fuel lo hi->xs[i]? =some v->v<j)/\∀i v,xC xs j fuel lo hi<=i->xs[i]? =some v->j<=v
 |0,lo,hi,hf,hl,hs,h1,h2=>by
   unfold xC;obtain rfl:lo=hi:=by lia
   exact⟨hs,h1,h2⟩
 |fuel+1,lo,hi,hf,hl,hs,h1,h2=>by
   unfold xC;by_cases c:lo<hi
   ·rw[if_pos c];have hm:(lo+hi) / 2<xs.size:=by lia
    have em:xs[(lo+hi) / 2]? =some xs[(lo+hi) / 2]:=ja hm;have eg:xs.getD ((lo+hi) / 2) j=xs[(lo+hi) / 2]:=by rw[xu,em];rfl
    dsimp only;rw[eg];by_cases d:xs[(lo+hi) / 2]<j
    ·rw[if_pos d];refine RI up fuel _ _ (by lia) (by lia) hs (λi v hi' e=>?_) h2;rcases Zy (Nat.lt_succ_iff.mp hi')with k|k
     ·have:=up i _ v _ e em k;lia
     ·subst k;rw[em]at e;cases e;exact d
    ·rw[if_neg d];refine RI up fuel _ _ (by lia) (by lia) (by lia) h1 (λi v hi' e=>?_);rcases Zy hi' with k|k
     ·have:=up _ i _ v em e k;lia
     ·subst k;rw[em]at e;cases e;lia
   ·rw[if_neg c];obtain rfl:lo=hi:=by lia
    exact⟨hs,h1,h2⟩
theorem CP(up:Up xs):jk xs j<=xs.size/\(∀i v,i<jk xs j->xs[i]? =some v->v<j)/\∀i v,jk xs j<=i->xs[i]? =some v->j<=v:=
 RI up xs.size 0 xs.size (by lia) (jl _) (zg _) (λ_ _ h=>absurd h (Nat.not_lt_zero _)) λi v h e=>by rw[Array.getElem?_eq_none h]at e;cases e
theorem Tw(up:Up xs)(e:xs[i]? =some j):jk xs j=i:=by
 obtain⟨h0,h1,h2⟩:=CP up;have hi:i<xs.size:=(jh.mp e).1;rcases Nat.lt_trichotomy (jk xs j) i with k|k|k
 ·have eb:xs[jk xs j]? =some xs[jk xs j]:=ja (by lia);have:=up _ _ _ _ eb e k;have:=h2 _ _ (zg _) eb;lia
 ·exact k
 ·have:=h1 _ _ k e;lia
end
section
variable{t:SetTable}{j:Nat}
theorem aI(up:Up t.place)(dm:t.dummies= #[]):t.slot j= .live i↔t.place[i]? =some j:=by
 unfold SetTable.slot;dsimp only;constructor
 ·intro h;split at h
  ·rename_i c
   cases h
   simpa using c
  ·rw[dm]at h;split at h<;>cases h
 ·intro e;have:=Tw up e;rw[this,if_pos (by simp[e])]
theorem aX(j:Nat):¬XL #[] j=true:=by unfold XL;simp
end
theorem Z8(xs:Array α)(p:Nat)(x:α):(xl xs p x).toList=xs.toList.take p++x::xs.toList.drop p:=by unfold xl;simp[Jo];rw[xS (by simp)]
structure Tb(t:SetTable)(es:Array (Int×ze)):Prop where
 dm:t.dummies= #[]
 up:Up t.place
 sz:t.place.size=es.size
 le:∀j∈t.place.toList,j<=t.mask
 fu:qF t.mask
 rch:∀q∈es.toList.zip t.place.toList,Rch (lvT t) t.mask (t.probeStart q.1.1) q.2
theorem QP:Up xs↔xs.toList.Pairwise (· < ·):=by
 rw[ZB];constructor
 ·intro h i k hi hk c;exact h i k _ _ (ja (by simpa using hi)) (ja (by simpa using hk)) c
 ·intro h i k a b ea eb c;obtain⟨hi,rfl⟩:=jh.mp ea;obtain⟨hk,rfl⟩:=jh.mp eb;exact h i k (by simpa using hi) (by simpa using hk) c
theorem Tb.put(T:Tb t es)(hj:t.slot j= .empty)(hm:j<=t.mask)(r:Rch (lvT t) t.mask (t.probeStart h) j):
 Tb (t.put j).1 (xl es (t.put j).2 (h,x))/\(xl es (t.put j).2 (h,x)).toList.Perm ((h,x)::es.toList)/\(t.put j).1.mask=t.mask/\(t.put j).1.led=t.led/\(t.put j).1.plain=t.plain/\(t.put j).1.moves=t.moves:=by
 obtain⟨b0,b1,b2⟩:=CP (j:=j) T.up;have e2:(t.put j).2=jk t.place j:=rfl;have ep:(t.put j).1.place=xl t.place (jk t.place j) j:=rfl;have ed:(t.put j).1.dummies= #[]:=by show (if XL t.dummies j then _ else t.dummies)=_;rw[T.dm,if_neg (aX j)]
 have nin:∀i:Nat,t.place[i]? ≠some j:=λi e=>by rw[(aI T.up T.dm).mpr e]at hj;cases hj
 have up':Up (t.put j).1.place:=by
  rw[QP,ep,Z8];have u:=QP.mp T.up;refine xA.mpr ⟨u.sublist (List.take_sublist ..),Zv.mpr ⟨λa ha=>?_,u.sublist (List.drop_sublist ..)⟩,λa ha b hb=>?_⟩
  ·obtain⟨i,hi,rfl⟩:=xB.mp ha;have e:t.place[jk t.place j+i]? =some ((t.place.toList.drop (jk t.place j))[i]):=by
    rw[<-jd,<-YL,zr hi]
   have h1:=b2 _ _ (by lia) e;have h2:((t.place.toList.drop (jk t.place j))[i])≠j:=λz=>nin _ (by rw[e,z]);lia
  ·obtain⟨i,hi,rfl⟩:=xB.mp ha;have hi':i<jk t.place j:=by rw[jL]at hi;lia
   have e:t.place[i]? =some ((t.place.toList.take (jk t.place j))[i]):=by rw[<-jd,<-Ju hi',zr hi]
   have h1:=b1 _ _ hi' e;rcases zk.mp hb with rfl|hb
   ·exact h1
   ·obtain⟨k,hk,rfl⟩:=xB.mp hb;have e':t.place[jk t.place j+k]? =some ((t.place.toList.drop (jk t.place j))[k]):=by
     rw[<-jd,<-YL,zr hk]
    have:=b2 _ _ (by lia) e';lia
 have mem':∀k,k∈(t.put j).1.place.toList↔k=j\/k∈t.place.toList:=λk=>by
  rw[ep,Z8,jr,zk];have:=xt (jk t.place j) t.place.toList;constructor
  ·rintro(z|z|z)
   ·exact .inr (List.mem_of_mem_take z)
   ·exact .inl z
   ·exact .inr (List.mem_of_mem_drop z)
  ·rintro(z|z)
   ·exact .inr (.inl z)
   ·rw[<-this]at z;exact(jr.mp z).elim .inl λz=>.inr (.inr z)
 have lvm:∀k,lvT t k->lvT (t.put j).1 k:=λk ⟨i,e⟩=>by have e:=(aI T.up T.dm).mp e;have:k∈(t.put j).1.place.toList:=(mem' k).mpr (.inr (yA (by rw[jd];exact e)));obtain⟨i',e'⟩:=List.mem_iff_getElem?.mp this;exact⟨i',(aI up' ed).mpr (by rw[<-jd];exact e')⟩
 have perm:(xl es (t.put j).2 (h,x)).toList.Perm ((h,x)::es.toList):=by rw[Z8];refine List.perm_middle.trans ?_;rw[xt]
 refine⟨⟨ed,up',?_,λk hk=>?_,T.fu,λq hq=>?_⟩,perm,rfl,rfl,rfl,rfl⟩
 ·rw[<-zV,<-zV,perm.length_eq,ep,Z8,zd,zD,jL,Xq,zD,zV,zV,T.sz];rw[T.sz]at b0;lia
 ·rcases (mem' k).mp hk with rfl|hk
  ·exact hm
  ·exact T.le k hk
 ·rw[Z8,ep,Z8,e2,List.zip_append (by rw[jL,jL,zV,zV,T.sz]),xM]at hq;have ez:=List.zip_append (l₁:=es.toList.take (jk t.place j)) (r₁:=es.toList.drop (jk t.place j)) (r₂:=t.place.toList.drop (jk t.place j)) (by rw[jL,jL,zV,zV,T.sz]);rw[xt,xt]at ez;rcases jr.mp hq with z|z
  ·exact(T.rch q (by rw[ez];exact yX _ z)).mono lvm
  ·rcases zk.mp z with rfl|z
   ·exact r.mono lvm
   ·exact(T.rch q (by rw[ez];exact zG _ z)).mono lvm
abbrev lvO(owner:Array (Option Nat))(j:Nat):Prop:=∃k,owner[j]? =some (some k)
section
variable{lv:Nat->Prop}{m:Nat}
theorem fN:∀k p,k<=p.more->(∀i<k,lv (p.j+i))->Rch lv m p (p.j+k)
|0,p,_,_=>.here
|k+1,p,h,hl=>by
  obtain⟨n,e⟩:∃n,p.more=n+1:=⟨p.more-1,by lia⟩;refine .step (hl 0 (by lia)) ?_;have:=fN k (B9 m p) (by rw[NC e];show k<=n;lia) λi hi=>by rw[NC e];show lv (p.j+1+i);rw[show p.j+1+i=p.j+(i+1) by lia];exact hl _ (by lia)
  rw[NC e]at this ⊢;rw[show p.j+(k+1)=p.j+1+k by lia];exact this
theorem GO:∀s p j,p.more=s->(∀i≤s,lv (p.j+i))->Rch lv m (B9 m {p with j:=p.j+s,more:=0}) j->Rch lv m p j
|0,p,j,h,hl,r=>by
  refine .step (hl 0 (zg _)) ?_;have e:({p with j:=p.j+0,more:=0}:Probe)=p:=by obtain⟨a,b,c,d,f⟩:=p;have h:b=0:=h;rw[h];rfl
  rw[e]at r;exact r
|s+1,p,j,h,hl,r=>by
  refine .step (hl 0 (by lia)) ?_;refine GO s (B9 m p) j (by rw[NC h]) (λi hi=>?_) ?_
  ·rw[NC h];show lv (p.j+1+i);rw[show p.j+1+i=p.j+(i+1) by lia];exact hl _ (by lia)
  ·rw[NC h];show Rch lv m (B9 m {p with j:=p.j+1+s,more:=0}) j;rw[show p.j+1+s=p.j+(s+1) by lia];exact r
end
theorem GY(h:i<=m):i<=jX m i/\jX m i<=m:=by unfold jX;split<;>lia
theorem MQ(hj:j<owner.size)(h:¬(owner.getD j (some 0)).isNone=true):lvO owner j:=by
 rw[xu,ja hj]at h;rcases e:owner[j]with _|k
 ·rw[e]at h;exact absurd rfl h
 ·exact⟨k,by rw[ja hj,e]⟩
theorem aR(hs:owner.size=m+1):∀f i p,i<=m->jj m owner f i p=some j->Rch (lvO owner) m (rs m i p) j
|0,i,p,hi,h=>by unfold jj at h;cases h
|f+1,i,p,hi,h=>by
  unfold jj at h;obtain⟨r1,r2⟩:=GY hi;split at h
  ·rename_i k hk
   cases h
   obtain⟨_,hm,hb⟩:=List.find?_range_eq_some.mp hk;have hm:=yz.mp hm;exact fN k (rs m i p) (by show k<=jX m i-i;lia) λx hx=>MQ (by show i+x<_;lia) (by
    have:=hb x hx;show ¬(owner.getD (i+x) (some 0)).isNone=true;intro z;rw[z]at this
    cases this)
  ·rename_i hk;have hk:=List.find?_eq_none.mp hk;refine GO (jX m i-i) (rs m i p) j rfl (λx hx=>MQ (by show i+x<_;lia) (show ¬(owner.getD (i+x) (some 0)).isNone=true from hk x (yz.mpr (by lia)))) ?_;rw[MU rfl];refine aR hs f _ _ ?_ h;show (i*5+1+p / 32) % (m+1)<=m;have:=YS (i*5+1+p / 32) (show 0<m+1 by lia);lia
def OwR(m:Nat)(H:List Int)(k:Nat)(owner:Array (Option Nat)):Prop:=∀j k',owner[j]? =some (some k')->k'<k/\∃h,H[k']? =some h/\Rch (lvO owner) m (rs m (yi h % (m+1)) (yi h)) j
theorem ix{owner:Array (Option Nat)}(h:(owner.setIfInBounds j (some k))[i]? =some o):(i=j/\o=some k)\/owner[i]? =some o:=by
 rw[Xv]at h;split at h
 ·rename_i e;split at h
  ·cases h;exact .inl ⟨e.symm,rfl⟩
  ·cases h
 ·exact .inr h
theorem OwR.step{owner:Array (Option Nat)}(hs:owner.size=m+1)(R:OwR m H k owner)(hh:H[k]? =some h)(hf:jj m owner (ZW m) (yi h % (m+1)) (yi h)=some j)(hj:owner[j]? =some none):OwR m H (k+1) (owner.setIfInBounds j (some k)):=by
 have mono:∀i,lvO owner i->lvO (owner.setIfInBounds j (some k)) i:=λi ⟨x,e⟩=>⟨x,by
  rw[Xv,if_neg (λz=>by rw[z,e]at hj;cases hj)];exact e⟩
 intro i k' e;rcases ix e with⟨rfl,z⟩|z
 ·cases z
  exact⟨by lia,h,hh,(aR hs _ _ _ (by have:=YS (yi h) (show 0<m+1 by lia);lia) hf).mono mono⟩
 ·obtain⟨h1,x,h2,r⟩:=R i k' z;exact⟨by lia,x,h2,r.mono mono⟩
section
variable{prog:zB}{w:zI}{A:zL}{E:VSP}{s:zh}{K:Type}[DecidableEq K]{knd:KeyKind prog w K}
def elT(knd:KeyKind prog w K)(q:List K×Addr):Int×ze:=(tupleKeyHash knd q.1,.ref q.2)
structure TpS(knd:KeyKind prog w K)(h:Heap)(L:List (List K×Addr))(es:Array (Int×ze))(t:SetTable):Prop where
 tb:Tb t es
 pm:es.toList.Perm (L.map (elT knd))
 ks:∀q∈L,IsTupleKey knd h q.1 q.2
 sm:t.mask=7\/t.mask=31\/t.mask=127
 fl:es.size*5<t.mask*3
theorem TpS.at{i:Nat}(T:TpS knd h L es t)(he:es[i]? =some e):∃q∈L,e=elT knd q:=by have:e∈es.toList:=yA (by rw[jd];exact he);obtain⟨q,hq,rfl⟩:=ZY.mp (T.pm.mem_iff.mp this);exact⟨q,hq,rfl⟩
theorem TpS.fits(T:TpS knd h L es t):t.fits es.size=true:=by unfold SetTable.fits SetTable.fill;rw[T.tb.sz,T.tb.dm];have:=T.fl;simp;lia
end
section
variable{prog:zB}{w:zI}{A:zL}{E:VSP}{s:zh}{K:Type}[DecidableEq K]{knd:KeyKind prog w K}{a b:Addr}{o:Obj}{ep:Nat}{t t':SetTable}{es sy:Array (Int×ze)}{L:List (List K×Addr)}{ks:List K}
theorem IY(x:IsTupleKey knd h ks b)(ho:h.get? a=some o)(hd:o.data= .set es ep t)(hs:yV a h h'):IsTupleKey knd h' ks b:=by
 obtain⟨o',items,n,ho',hc,rz,hi⟩:=x;have qo:b≠a:=by rintro rfl;obtain rfl:o'=o:=jH (ho'.symm.trans ho);rw[hd]at rz;exact nomatch rz
 exact⟨o',items,n,(hs.2 b qo).trans ho',hc,rz,hi⟩
theorem TpS.keep(T:TpS knd h L sy t')(ho:h.get? a=some o)(hd:o.data= .set es ep t)(hs:yV a h h'):TpS knd h' L sy t':=⟨T.tb,T.pm,λq hq=>IY (T.ks q hq) ho hd hs,T.sm,T.fl⟩
theorem Tb.plain(T:Tb t es):Tb {t with plain:=false} es:=⟨T.dm,T.up,T.sz,T.le,T.fu,T.rch⟩
theorem TpS.len(T:TpS knd h L es t):es.size=L.length:=by have:=T.pm.length_eq;rw[zE,zV]at this;exact this
end
end DL
namespace DL
open PySem PySem.Spec L2
open PyProof.Rows hiding St
section
variable{K:Type}[DecidableEq K]
end
section
variable{prog:zB}{w:zI}{A:zL}{R:Jl->zh->Prop}{I:Addr}{fp wr:List Addr}{G:Array GenState->Array GenState->Prop}{n:Nat}{P:Nat->ze->Prop}{St:Nat->zh->Prop}{K:Type}[DecidableEq K]{knd:KeyKind prog w K}
end
section
variable{prog:zB}{w:zI}{A:zL}{E:VSP}{s:zh}{K:Type}[DecidableEq K]{knd:KeyKind prog w K}{items:Array ze}{xs:List (List K×Addr)}{Q:VSP}
end
section
variable{prog:zB}{w:zI}{A:zL}{E:VSP}{s:zh}{a I:Addr}{K:Type}[DecidableEq K]{knd:KeyKind prog w K}{L:List (List K×Addr)}
end
section
variable{prog:zB}{w:zI}{A:zL}{E:VSP}{s:zh}
end
def qD(q:Int×Str):D:=.tup [.int q.1,.str q.2]
end DL
namespace W
open PySem PySem.Spec L2 DL
open PyProof.Rows hiding St
end W
namespace DL
open PySem PySem.Spec L2
open PyProof.Rows hiding St
section
end
section
variable{X:Cx}{Z:XC}{c:Wc}{μ:List Addr}{H:Hp}
end
end DL
namespace W
open PySem PySem.Spec L2 DL
open PyProof.Rows hiding St
end W
namespace DL
open PySem PySem.Spec L2
open PyProof.Rows hiding St
def lF(h:Heap)(a l:Addr)(i:Int):Prop:=∃o,h.get? a=some o/\o.cls= .type "reversed"/\o.data= .fields #[.ref l,yC i]
section
variable{s:zh}
theorem lF.typeIs(x:lF s.heap a l i):s.TypeIs (.ref a) "reversed":=let ⟨o,ho,hc,_⟩:=x;⟨o,ho,hc⟩
theorem lF.at(x:lF h a l i)(e:∀o,h.get? a=some o->h'.get? a=some o):lF h' a l i:=let ⟨o,ho,r⟩:=x;⟨o,e _ ho,r⟩
variable{prog:zB}{w:zI}{A:zL}{E:VSP}
end
section
variable{prog:zB}{w:zI}{A:zL}{E:VSP}{s:zh}
end
section
variable{prog:zB}{w:zI}{A:zL}{E:VSP}{s:zh}
variable{I l:Addr}{items:Array ze}{R:Except ze Flow->zh->Prop}
end
section
end
end DL
namespace W
open PySem PySem.Spec L2 DL
open PyProof.Rows hiding St
end W
namespace DL
open PySem PySem.Spec L2
open PyProof.Rows hiding St
section
variable{X:Cx}{Z:XC}{c:Wc}{μ:List Addr}{G:DH}{H:Hp}{q:Addr}
def kvS(ks:List Str)(vs:List V):List (Key×V):=(ks.zip vs).map λp=>(.inr p.1,p.2)
structure DP(X:Cx)(Z:XC)(keys:List (Option Expr))(vals:List Expr)(ks:List Str)(fs:DSt->M (List D)):Prop where
 ex:∃trs,(∀pos,PPs X pos keys vals trs)/\∀(X9:DSt) (σ:St) (μ:List Addr) (G:DH) (H:Hp) (K:List (V×V)->Hp->Prop),v5 (wc X) μ H X9 σ->j9 (wc X) μ G H->
  c7 (wc X) Z μ H (fs X9 G) (λds X0 _ H1=>∀vs,g8 (wc X) X0 H1 ds vs->K ((kvS ks vs).map λkv=>(kV kv.1,kv.2)) H1)->IJ trs σ H K
inductive UHD{α:Type}(c:Wc)(q:Addr)(K:α->List Addr->DH->Hp->Prop)(a:α)(X2:List Addr)(G':DH)(H':Hp):Prop
|mk (e:H' q=some (.dK [])) (n:q∉X2) (h:j9 c X2 G' (DL.hide q H')) (k:K a X2 G' (DL.hide q H'))
end
def neW:D->D->M D:=λx y G=>match eqN 60 G x y with
|some b=>some (.ok (.bl (!b)),G)
|none=>none
theorem kw(hu:X.A.units+64<xL):OpD X Z (zM .NotEq) neW:=⟨by
 intro om s σ H x y v u Q I rx ry ov;refine ov.elim λdx dy μ G qa qe hr p=>?_;unfold neW at p;rcases e:eqN 60 G dx dy with _|b
 ·rw[e]at p;exact p.elim
 ·
   rw[e]at p;exact(WC I hr 60 X.A (by lia) qa qe rx ry e).2.1 X.prog X.w X.xe _ ⟨.bl (!b),H,I,rfl,c7.ok p hr _ ofB⟩⟩
end DL
namespace W
open PySem PySem.Spec L2 DL
open PyProof.Rows hiding St
theorem QU{x y:D}{G:DH}{Q:DPP}:Wp (neW x y) G Q↔∃k,eqN 60 G x y=some k/\Q (.bl (!k)) G:=WD rfl
end W
namespace DL
open PySem PySem.Spec L2
open PyProof.Rows hiding St
end DL
namespace W
open PySem PySem.Spec L2 DL
open PyProof.Rows hiding St
end W
namespace DL
open PySem PySem.Spec L2
open PyProof.Rows hiding St
inductive Ch(h:Heap):List Addr->Addr->Prop
|nil {a o vs}:h.get? a=some o->o.data= .fields vs->vs[2]? =some .none->Ch h [] a
|cons {a o vs b l}:h.get? a=some o->o.data= .fields vs->vs[2]? =some (.ref b)->Ch h l b->Ch h (b::l) a
theorem Ch.keep{h h':Heap}:∀ {l a},Ch h l a->(∀b∈a::l,∀o vs,h.get? b=some o->o.data= .fields vs->∃o' px,h'.get? b=some o'/\o'.data= .fields px/\px[2]? =vs[2]?)->Ch h' l a
|_,a,.nil e d q,k=>by obtain⟨o',px,e',d',z⟩:=k a (.head _) _ _ e d;exact .nil e' d' (z.trans q)
|_,a,.cons e d q c,k=>by obtain⟨o',px,e',d',z⟩:=k a (.head _) _ _ e d;exact .cons e' d' (z.trans q) (c.keep λb m=>k b (.tail _ m))
theorem Ch.mem{h:Heap}:∀ {l a},Ch h l a->∀b∈a::l,∃o vs,h.get? b=some o/\o.data= .fields vs
|_,_,.nil e d _,b,m=>by cases zt.mp m;exact⟨_,_,e,d⟩
|_,_,.cons e d _ c,b,m=>by
  rcases zk.mp m with rfl|m
  ·exact⟨_,_,e,d⟩
  ·exact c.mem b m
def TrG(v:ze)(h:Heap)(e T:Addr)(cls:ze):Prop:=∃oe vs oT ts,h.get? e=some oe/\oe.cls=cls/\oe.data= .fields vs/\vs[1]? =some (.ref T)/\T≠e/\h.get? T=some oT/\oT.data= .fields ts/\ts[3]? =some v/\∃l,Ch h l e/\e∉l/\T∉l
abbrev TrF:=TrG .none
structure Lv(S:List Addr)(e T:Addr)(h h':Heap):Prop where
 keep:∀b o,h.get? b=some o->b∉S->b≠e->b≠T->h'.get? b=some o
 slot:∀b o,h.get? b=some o->b∈S->b≠e->b≠T->∃sl,h'.get? b=some {o with slots:=sl}
theorem Lv.more{S:List Addr}{e T:Addr}{h h1 h2:Heap}(l:Lv S e T h h1)(l2:Lv [] e T h1 h2):Lv S e T h h2:=
 ⟨λb o q n x y=>l2.keep b o (l.keep b o q n x y) (λz=>nomatch z) x y,λb o q n x y=>let ⟨sl,z⟩:=l.slot b o q n x y;⟨sl,l2.keep b _ z (λz=>nomatch z) x y⟩⟩
section
variable{M:Model}{A:zL}{E:VSP}{s:zh}{base:Heap}{env:Env}{outer:List Env}{L e:Addr}{oe:Obj}{vs:Array ze}{Q:Unit->zh->Prop}
theorem fly{T:Addr}{cls v:ze}{fr:Option Addr}(ht:TrG v s.heap e T cls)(h:∀h',Lv [] e T s.heap h'->TrG (fr.elim Value.none λf=>yC f) h' e T cls->Q () {s with heap:=h'}):zq M A (Ja (.ref e) fr) Q E s:=by obtain⟨oe,vs,oT,ts,he,rfl,hd,h1,ne,hT,dT,h3,l,hc,hn,hl'⟩:=ht;have other:∀b,b≠T->(s.heap.update T (jA (·.setIfInBounds 3 (fr.elim Value.none λf=>yC f)))).get? b=s.heap.get? b:=λb hb=>js _ _ (Ne.symm hb);unfold Ja;refine za (zZ he hd h1 ?_);rw[if_pos (show (Value.ref T != Value.none)=true from by simp)];refine yT hT dT (jh.mp h3).1 (h _ ⟨λb o q _ _ nb=>(other b nb).trans q,λb o q hb=>nomatch hb⟩ ?_);have d3:=yr dT (·.setIfInBounds 3 (fr.elim Value.none λf=>yC f));exact⟨_,_,_,_,(other e (Ne.symm ne)).trans he,rfl,hd,h1,ne,jN _ hT (yj d3),d3,by simp[(jh.mp h3).1],l,hc.keep λb m o v q d=>⟨o,v,(other b λz=>(zk.mp m).elim (λz'=>ne (z.symm.trans z')) λz'=>hl' (z▸z')).trans q,d,rfl⟩,hn,hl'⟩
theorem AM{head:ze}{hadNext:Bool}(hfr:A.frames=some (env::outer))(hl:s.heap.FunFrames base (env::outer))(hf:env.frame=some L)
 (he:s.heap.get? e=some oe) (hd:oe.data= .fields vs) (hsz:1<vs.size) (hc:Ch s.heap l e) (hn:e∉l)
 (h:∀h',Lv (frs (env::outer)) e s.heap.objs.size s.heap h'->TrG (yC L) h' e s.heap.objs.size oe.cls->Q () {s with heap:=h'}):
 zq M A (do let a <-frameOf env;let pl <-entryPlaceOf L hadNext;let b <-ZX head a .none (yC L) .none pl;setField (.ref e) 1 b) Q E s:=by
 have nf:e∉frs (env::outer):=λhm=>by obtain⟨_,o,ho,k⟩:=hl.mem hm;rw[he]at ho;cases ho;exact k vs hd
 refine za (wpAny_frameOf_fun hfr hl hf λh1 k1=>?_);refine za (wpAny_entryPlaceOf λpl qu=>?_);unfold ZX newFields;refine za (yI ?_ (qu.sizeOk5 _ _ _ _ _));have e1:h1.get? e=some oe:=(k1.2.1 e nf).trans he;generalize hO:({cls:=.type "traceback",dict:=none,data:=.fields ([head,.ref L,.none,yC L,.none]++(if pl.isEmpty then jE 6 Value.none else pl)).toArray}:Obj)=O;have hOd:O.data= .fields ([head,.ref L,.none,yC L,.none]++(if pl.isEmpty then jE 6 Value.none else pl)).toArray:=by rw[<-hO]
 have hOf:O.isFreed=false:=by rw[<-hO];rfl
 have e2:=zf (h:=h1) O e1;refine yT e2 hd hsz ?_;have ne:h1.objs.size≠e:=xp (zj e1);have d3:=yr hd (·.setIfInBounds 1 (Value.ref h1.objs.size));have e3:=jN (jA (·.setIfInBounds 1 (Value.ref h1.objs.size))) e2 (yj d3);have t3:=(js (h1.push O) (jA (·.setIfInBounds 1 (Value.ref h1.objs.size))) (Ne.symm ne)).trans (zy h1 hOf);have sz1:h1.objs.size=s.heap.objs.size:=k1.1;have kp:∀b o,b≠e->h1.get? b=some o->((h1.push O).update e (jA (·.setIfInBounds 1 (Value.ref h1.objs.size)))).get? b=some o:=λb o hb q=>by rw[js _ _ (Ne.symm hb)];exact zf _ q
 refine h _ ⟨λb o q nS nE _=>kp b o nE ((k1.2.1 b nS).trans q),λb o q _ nE _=>?_⟩ ?_
 ·obtain⟨sl,hs⟩:=k1.2.2 b o q;exact⟨sl,kp b _ nE hs⟩
 ·rw[<-sz1];refine⟨_,_,_,_,e3,Xc _ _,d3,by simp[hsz],ne,t3,hOd,by first|(simp;done)|(rcases qu with rfl|⟨_,_,_,_,_,_,_,rfl⟩<;>simp),l,hc.keep λb m o vb q d=>?_,hn,λm=>?_⟩
  rotate_left
  ·obtain⟨o,vb,q,_⟩:=hc.mem _ (.tail _ m);exact yx _ (sz1▸zj q)
  by_cases hb:b=e
  ·subst hb;rw[he]at q;cases q;rw[hd]at d;cases d;exact⟨_,_,e3,d3,by simp⟩
  ·refine⟨o,vb,kp b o hb ((k1.2.1 b λhm=>?_).trans q),d,rfl⟩;obtain⟨_,o',ho,k⟩:=hl.mem hm;rw[q]at ho;cases ho;exact k vb d
theorem oK{head:ze}{hadNext:Bool}(hfr:A.frames=some (env::outer))(hl:s.heap.FunFrames base (env::outer))(hf:env.frame=some L)
 (he:s.heap.get? e=some oe) (hd:oe.data= .fields vs) (hsz:1<vs.size) (hc:Ch s.heap l e) (hn:e∉l)
 (h:∀h',Lv (frs (env::outer)) e s.heap.objs.size s.heap h'->TrF h' e s.heap.objs.size oe.cls->Q () {s with heap:=h'}):
 zq M A (do let a <-frameOf env;let pl <-entryPlaceOf L hadNext;let b <-ZX head a .none (yC L) .none pl;setField (.ref e) 1 b) (λ_ s'=>zq M A (Ja (.ref e) none) Q E s') E s:=
 AM hfr hl hf he hd hsz hc hn λ_ l t=>fly t λ_ l2 t2=>h _ (l.more l2) t2
theorem gW(hfr:A.frames=some (env::outer))(hl:s.heap.FunFrames base (env::outer))(hf:env.frame=some L)
 (he:s.heap.get? e=some oe) (hd:oe.data= .fields vs) (h1:vs[1]? =some .none) (hc:Ch s.heap l e) (hn:e∉l)
 (h:∀h',Lv (frs (env::outer)) e s.heap.objs.size s.heap h'->TrF h' e s.heap.objs.size oe.cls->Q () {s with heap:=h'}):zq M A (YU env (.ref e)) Q E s:=by
 unfold YU Zi;simp only[hf];refine za (za (zZ he hd h1 ?_));rw[if_neg (by decide)];exact oK hfr hl hf he hd (jh.mp h1).1 hc hn h
theorem Cm{T:Addr}{cls:ze}(hfr:A.frames=some (env::outer))(hl:s.heap.FunFrames base (env::outer))(hf:env.frame=some L)(ht:TrF s.heap e T cls)
 (h:∀h' h1,Lv [] e T s.heap h1->h1.objs.size=s.heap.objs.size->Lv (frs (env::outer)) e s.heap.objs.size h1 h'->TrF h' e s.heap.objs.size cls->Q () {s with heap:=h'}):zq M A (YU env (.ref e)) Q E s:=by
 obtain⟨oe,vs,oT,ts,he,rfl,hd,h1,ne,hT,dT,h3,l,hc,hn,hl'⟩:=ht;unfold YU Zi;simp only[hf];refine za (za (zZ he hd h1 ?_));rw[if_pos (show (Value.ref T != Value.none)=true from by simp)];refine za (zZ hT dT h3 ?_);rw[if_neg (show ¬((Value.none==yC L)=true)from by simp[yC])];refine za (yT hT dT (jh.mp h3).1 ?_);have other:∀b,b≠T->(s.heap.update T (jA (·.setIfInBounds 3 Value.none))).get? b=s.heap.get? b:=λb hb=>js _ _ (Ne.symm hb);have nT:∀b o,s.heap.get? b=some o->(∀vs,o.data≠ .fields vs)->b≠T:=λb o hb k q=>by rw[q,hT]at hb;cases hb;exact k ts dT
 have sz:(s.heap.update T (jA (·.setIfInBounds 3 Value.none))).objs.size=s.heap.objs.size:=JD ..;refine oK (s:={s with heap:=s.heap.update T (jA (·.setIfInBounds 3 Value.none))}) hfr (hl.of_keeps λb o hb k=>⟨o,(other b (nT b o hb k)).trans hb,rfl⟩) hf ((other e (Ne.symm ne)).trans he) hd (jh.mp h1).1 (hc.keep λb m o v q d=>⟨o,v,(other b λz=>(zk.mp m).elim (λz'=>ne (z.symm.trans z')) λz'=>hl' (z▸z')).trans q,d,rfl⟩) hn λh' l t=>?_;dsimp only at l t;rw[sz]at l t;exact h h' _ ⟨λb o q _ _ nb=>(other b nb).trans q,λb o q hb=>nomatch hb⟩ sz l t
end
def CXd(P:zB)(w:zI):CXT:=λouter H s E e s'=>∃a T cls H',e= .ref a/\s.heap.get? a=none/\s.heap.get? T=none/\H' a=none/\H' T=none/\s'.os=s.os/\ZI s'.gens/\Un (frs outer) [] H H' s.heap s'.heap/\HOk P w H' s'.heap/\TrF s'.heap a T cls/\E cls none H'
theorem nP{P:zB}{w:zI}{H:Hp}(x:HOk P w H h)(k:∀b u o,H b=some o->h.get? b=some u->h'.get? b=some u):HOk P w H h':=λa o e=>
 (x a o e).stay (λb u hb q=>by
   rcases hb with rfl|hb
   ·exact k _ u _ e q
   ·exact k _ u _ hb q) (λ_ q=>q) λ_ _ q=>q
theorem dE{P:zB}{w:zI}{H:Hp}{a:Addr}(x:HOk P w H h)(q:h.get? a=none):H a=none:=by
 rcases e:H a with _|o
 ·rfl
 ·have hx:=x a o e
  cases o with
  |lst xs=>obtain⟨_,_,_,_,z⟩:=hx;rw[q]at z;cases z
  |tup xs=>obtain⟨_,_,_,_,z,_⟩:=hx;rw[q]at z;cases z
  |dK oq=>obtain⟨_,_,_,_,_,_,_,z,_⟩:=hx;rw[q]at z;cases z
  |dT oq=>obtain⟨_,_,_,_,_,_,_,z,_⟩:=hx;rw[q]at z;cases z
  |set S n=>obtain⟨_,_,_,_,z,_⟩:=hx;rw[q]at z;cases z
  |ins C dx fs=>obtain⟨_,_,_,z,_⟩:=hx;rw[q]at z;cases z
  |own y=>obtain⟨_,z⟩:=hx;rw[q]at z;cases z
  |xd fs=>obtain⟨_,⟨_,_,_,z,_⟩,_⟩:=hx;rw[q]at z;cases z
  |rng lo hi=>obtain⟨_,_,_,z⟩:=hx;rw[q]at z;cases z
  |frz ob u=>obtain⟨z,_⟩:=hx;rw[q]at z;cases z
  |tbl ps=>rw[show h.get? a=some {cls:=.none,data:=.fields ps}from hx]at q;cases q
  |met f y=>rw[show h.get? a=some (Zs (.ref f) (.ref y))from hx]at q;cases q
  |ext φ=>obtain⟨_,⟨_,z⟩,_⟩:=hx;rw[q]at z;cases z
theorem OH{h h' base:Heap}:∀l:List Env,(∀b o,b∈frs l->h.get? b=some o->(∀vs,o.data≠ .fields vs)->∃sl,h'.get? b=some {o with slots:=sl})->h.FunFrames base l->h'.FunFrames base l
|[],_,_=>trivial
|env::r,k,hl=>by obtain⟨hk,⟨L,o,hf,hn,ho,hd⟩,hr⟩:=hl;obtain⟨sl,e⟩:=k L o (by unfold frs;rw[ju,hf];exact jo ..) ho hd;exact⟨hk,⟨L,_,hf,hn,e,hd⟩,OH r (λb o hb=>k b o (by unfold frs;rw[ju,hf];exact zP _ hb)) hr⟩
section
variable{P:zB}{w:zI}{K:zc}{mg:Str->Option ze}{base:Heap}{N:List Str}{qual:Str}{scope:Scope}{f:Addr}{cd:ze}{A:zL}{outer:List Env}{s0:zh}{H0:Hp}{E:XK}{om:PNS}{σ:St}{H H':Hp}{s s':zh}
theorem OL(I:Inv (U5 (CXd P w) P w K mg base N qual scope f cd A outer s0 H0 E) om σ H s)(un:Un (frs (yb qual scope s0.heap.objs.size f cd::outer)) [] H H' s.heap s'.heap)(os:s'.os=s.os)(bare:ZI s'.gens)(hok:HOk P w H' s'.heap)
 {a T:Addr} {cls:ze} {h':Heap} (ha:s.heap.get? a=none) (hT:s'.heap.get? T=none) (na:H' a=none) (kp:∀b o,s'.heap.get? b=some o->b∉frs (yb qual scope s0.heap.objs.size f cd::outer)->(s.heap.get? b≠none\/H' b≠none)->h'.get? b=some o) (sl:∀b o,s'.heap.get? b=some o->b∈frs (yb qual scope s0.heap.objs.size f cd::outer)->s.heap.get? b≠none->(∀vs,o.data≠ .fields vs)->∃sl,h'.get? b=some {o with slots:=sl}) (tr:TrF h' a T cls) (hE:E cls none H'):
 CXd P w outer H0 s0 E (.ref a) {s' with heap:=h'}:=by
 have th:∀b o,s0.heap.get? b=some o->∃o',s.heap.get? b=some o':=λb o q=>I.base.there b o q (λz=>nomatch z);have up:∀b,s.heap.get? b=none->s0.heap.get? b=none:=λb q=>by
  rcases e:s0.heap.get? b with _|o
  ·rfl
  ·obtain⟨o',z⟩:=th b o e;rw[q]at z;cases z
 have up2:∀b,s'.heap.get? b=none->s.heap.get? b=none:=λb q=>by
  rcases e:s.heap.get? b with _|o
  ·rfl
  ·obtain⟨o',z⟩:=un.there b o e (λz=>nomatch z);rw[q]at z;cases z
 have nT:H' T=none:=dE hok hT;have nl:∀b o,s0.heap.get? b=some o->b∉frs outer->b∉frs (yb qual scope s0.heap.objs.size f cd::outer):=λb o q hb z=>by
  rcases zk.mp (I.stkSub b z)with e|z
  ·exact absurd (zj q) (by have:=I.ok.above;rw[e];exact Nat.not_lt.mpr this)
  ·exact hb z
 refine⟨a,T,cls,H',rfl,up a ha,up T (up2 T hT),na,nT,os.trans I.os,bare,⟨?_,?_,?_,?_,?_,?_,?_⟩,?_,tr,hE⟩
 ·intro b o q n hb _;have q1:=I.base.keep b o q n hb (λz=>nomatch z);have n1:=I.base.free b o q n (λz=>nomatch z);have q2:=un.keep b o q1 n1 (nl b o q hb) (λz=>nomatch z);exact kp b o q2 (nl b o q hb) (.inl (by rw[q1];exact λz=>nomatch z))
 ·intro b o q n hb _;obtain⟨sl1,q1⟩:=I.base.slot b o q n hb (λz=>nomatch z);have n1:=I.base.free b o q n (λz=>nomatch z);have hb2:b∈frs (yb qual scope s0.heap.objs.size f cd::outer):=zP _ hb;obtain⟨sl2,q2⟩:=un.slot b _ q1 n1 hb2 (λz=>nomatch z);obtain⟨_,o',ho',nd⟩:=I.ok.funs.mem hb;have ho':s0.heap.get? b=some o':=ho';rw[q]at ho';cases ho';obtain⟨sl3,q3⟩:=sl b _ q2 hb2 (by rw[q1];exact λz=>nomatch z) nd;exact⟨sl3,q3⟩
 ·intro b o q n _;have n1:=I.base.free b o q n (λz=>nomatch z);obtain⟨o',q1⟩:=th b o q;exact un.free b o' q1 n1 (λz=>nomatch z)
 ·intro b o q _;obtain⟨o1,q1⟩:=th b o q;obtain⟨o2,q2⟩:=un.there b o1 q1 (λz=>nomatch z);by_cases hb:b∈frs outer
  ·obtain⟨_,o',ho',nd⟩:=I.ok.funs.mem hb;have ho':s0.heap.get? b=some o':=ho';rw[q]at ho';cases ho';have n0:H0 b=none:=I.ok.frf b hb;obtain⟨sl1,r1⟩:=I.base.slot b o q n0 hb (λz=>nomatch z);have n1:=I.base.free b o q n0 (λz=>nomatch z);have hb2:b∈frs (yb qual scope s0.heap.objs.size f cd::outer):=zP _ hb;obtain⟨sl2,r2⟩:=un.slot b _ r1 n1 hb2 (λz=>nomatch z);obtain⟨sl3,r3⟩:=sl b _ r2 hb2 (by rw[r1];exact λz=>nomatch z) nd;exact⟨_,r3⟩
  ·exact⟨o2,kp b o2 q2 (nl b o q hb) (.inl (by rw[q1];exact λz=>nomatch z))⟩
 ·exact λb xs q=>un.tups b xs (I.base.tups b xs q)
 ·exact λb o u q=>un.frzs b o u (I.base.frzs b o u q)
 ·intro b ps q;obtain⟨m1,q1⟩:=I.base.tbls b ps q;obtain⟨m2,q2⟩:=un.tbls b _ q1;exact⟨m1++m2,by rw[q2,YI]⟩
 ·refine nP hok λb u o e q=>?_;refine kp b u q (λhb=>?_) (.inr (by rw[e];exact λz=>nomatch z));have n1:=I.stkFree b hb;rcases q1:s.heap.get? b with _|o1
  ·obtain⟨_,o2,z,_⟩:=I.stack.mem hb;have z:s.heap.get? b=some o2:=z;rw[q1]at z;cases z
  ·rw[un.free b o1 q1 n1 (λz=>nomatch z)]at e;cases e
end
section
variable{P:zB}{w:zI}{K:zc}{mg:Str->Option ze}{base:Heap}{N:List Str}{qual:Str}{scope:Scope}{f:Addr}{cd:ze}{A:zL}{outer:List Env}{s0:zh}{H0:Hp}{E:XK}
theorem Hw:GC (CXd P w) (U5 (CXd P w) P w K mg base N qual scope f cd A outer s0 H0 E) E:=by
 intro om σ H s e s' I h;obtain⟨a,T,cls,H',rfl,ha,hT,na,nT,os,bare,un,hok,tr,hE⟩:=h;have hl:s'.heap.FunFrames base (yb qual scope s0.heap.objs.size f cd::outer):=OH _ (λb o hb q _=>un.slot b o q (I.stkFree b hb) hb (λz=>nomatch z)) I.stack;have ne1:∀b,(s.heap.get? b≠none\/H' b≠none)->b≠a:=λb hb z=>by
  rw[z]at hb;rcases hb with hb|hb
  ·exact hb ha
  ·exact hb na
 have ne2:∀b,(s.heap.get? b≠none\/H' b≠none)->b≠T:=λb hb z=>by
  rw[z]at hb;rcases hb with hb|hb
  ·exact hb hT
  ·exact hb nT
 have ne3:∀b o,s'.heap.get? b=some o->b≠s'.heap.objs.size:=λb o q=>zu (zj q);refine Cm (base:=base) I.ok.frames hl rfl tr λh' h1 l1 sz1 l2 t2=>?_;refine OL I un os bare hok ha (yy (zg _)) na (λb o q nb hb=>?_) (λb o q hb hb2 nd=>?_) t2 hE
 ·exact l2.keep b o (l1.keep b o q (λz=>nomatch z) (ne1 b hb) (ne2 b hb)) nb (ne1 b hb) (ne3 b o q)
 ·exact l2.slot b o (l1.keep b o q (λz=>nomatch z) (ne1 b (.inl hb2)) (ne2 b (.inl hb2))) hb (ne1 b (.inl hb2)) (ne3 b o q)
theorem VX{om:PNS}{σ:St}{H:Hp}{s:zh}{h1:Heap}{a:Addr}{cls:ze}{args:List ze}(I:Inv (U5 (CXd P w) P w K mg base N qual scope f cd A outer s0 H0 E) om σ H s)(m:Heap.MadeExcOf s.heap h1 a cls args)(hE:E cls none H):
 (U5 (CXd P w) P w K mg base N qual scope f cd A outer s0 H0 E).xe (.ref a) {s with heap:=h1}:=by
 obtain⟨t,e1,_,_⟩:=m.there;have kp:=m.keeps;have ha:=m.new;have na:H a=none:=dE I.hok ha;have hok1:HOk P w H h1:=I.hok.kept kp;have un:Un (frs (yb qual scope s0.heap.objs.size f cd::outer)) [] H H s.heap h1:=⟨λb o q _ _ _=>kp b o q,λb o q _ _ _=>⟨o.slots,kp b o q⟩,λb o q n _=>n,λb o q _=>⟨o,kp b o q⟩,λ_ _ q=>q,λ_ _ _ q=>q,λb ps q=>⟨#[],by simpa using q⟩⟩;have hl:h1.FunFrames base (yb qual scope s0.heap.objs.size f cd::outer):=OH _ (λb o hb q _=>⟨o.slots,kp b o q⟩) I.stack;have ne1:∀b,(s.heap.get? b≠none\/H b≠none)->b≠a:=λb hb z=>by
  rw[z]at hb;rcases hb with hb|hb
  ·exact hb ha
  ·exact hb na
 have ne3:∀b o,h1.get? b=some o->b≠h1.objs.size:=λb o q=>zu (zj q);refine gW (s:={s with heap:=h1}) (base:=base) I.ok.frames hl rfl e1 rfl rfl (.nil e1 rfl rfl) (λz=>nomatch z) λh' l t=>?_;refine OL (s':={s with heap:=h1}) I un rfl I.bare hok1 ha (yy (zg _)) na (λb o q nb hb=>?_) (λb o q hb hb2 nd=>?_) t hE
 ·exact l.keep b o q nb (ne1 b hb) (ne3 b o q)
 ·exact l.slot b o q hb (ne1 b (.inl hb2)) (ne3 b o q)
end
structure i6(base:Heap)(C:Addr)(B newId initId:String)(bmB:List ze):Prop where
 facts:ExcBaseFacts B newId initId bmB
 ex:∃nm q Nn bs bm hdct sn sub ab col dd k0 k1 k2 k3 k5 mN,base.get? C=some (excClassObj nm q C Nn bs bm hdct sn sub ab col dd k0 k1 k2 k3 k5 newId)/\base.Ns Nn mN/\mN "__init__" =none/\OwnTail base bmB bm/\bm.contains (.type "BaseException")=true
def Rq(E:XK)(C:Addr)(t:TA):TS:=λ_ σ H=>t σ H λvs H1=>vs.length<=zi/\E (.ref C) none H1
theorem gU{P:zB}{w:zI}{K:zc}{mg:Str->Option ze}{base:Heap}{N:List Str}{qual:Str}{scope:Scope}{f:Addr}{cd:ze}{A:zL}{outer:List Env}{s0:zh}{H0:Hp}{E:XK}{x:Str}{es:List Expr}{e1:Expr}{C:Addr}{np cpos pos:Pos}{t:TA}{B newId initId:String}{bmB:List ze}
 (hg:Gl (U5 (CXd P w) P w K mg base N qual scope f cd A outer s0 H0 E) x) (hm:mg x=some (.ref C)) (hC:i6 base C B newId initId bmB) (ha:PA (U5 (CXd P w) P w K mg base N qual scope f cd A outer s0 H0 E) (e1::es) t)
 (hdb:(x==("__debug__" :Str))=false) (he:zC (e1::es) (yb qual scope s0.heap.objs.size f cd)= (false,eval e1 (yb qual scope s0.heap.objs.size f cd))::zC es (yb qual scope s0.heap.objs.size f cd)) (qu:(yo cpos (zC es (yb qual scope s0.heap.objs.size f cd))).any (·.1)=false):
 PS (U5 (CXd P w) P w K mg base N qual scope f cd A outer s0 H0 E) (.Raise (some (.Call (.Name x np) (e1::es) [] cpos)) none pos) (Rq E C t):=by
 intro om s σ H D I h;obtain⟨nm,q,Nn,bs,bm,hdct,sn,sub,ab,col,dd,k0,k1,k2,k3,k5,mN,q1,q2,q3,q4,q5⟩:=hC.ex;refine wpAny_Raise_call_subT (C:=C) (bm:=bm) (nm:=nm) (q:=q) (N:=Nn) (bs:=bs) (hdct:=hdct) (sn:=sn) (sub:=sub) (ab:=ab) (col:=col) (dd:=dd) (k0:=k0) (k1:=k1) (k2:=k2) (k3:=k3) (k5:=k5) (mN:=mN) hC.facts q5 (I.ok.hd rfl) (by rw[show (U5 (CXd P w) P w K mg base N qual scope f cd A outer s0 H0 E).env=yb qual scope s0.heap.objs.size f cd from rfl,he];exact qu) q3 (U9 I hg hm ⟨rfl,?_⟩ hdb);have w1:=ha cpos om s σ H _ I h;have he2:yo cpos (zC (e1::es) (U5 (CXd P w) P w K mg base N qual scope f cd A outer s0 H0 E).env)= (false,eval e1 (yb qual scope s0.heap.objs.size f cd))::yo cpos (zC es (yb qual scope s0.heap.objs.size f cd)):=by show yo cpos (zC (e1::es) (yb qual scope s0.heap.objs.size f cd))=_;rw[he];rfl
 rw[he2]at w1 ⊢;refine Yo (thn w1 λus s1 ph=>?_);obtain⟨vs,H1,I1,r,l1,hE⟩:=ph;have kb:∀b o,base.get? b=some o->s1.heap.get? b=some o:=I1.bk;refine⟨rfl,by rw[<-r.length];exact l1,kb _ _ q1,?_,q4.keeps kb,λh' e m=>VX I1 m hE⟩;obtain⟨o,sy,ep,z1,z2⟩:=q2;exact⟨o,sy,ep,kb _ _ z1,z2⟩
def ZE(mg:Str->Option ze)(E:XK):XC:=λx _ _ H=>∃C,mg x=some (.ref C)/\E (.ref C) none H
def spX(c:Wc)(n:Nat)(F:List D->M D):Sp:=λvs H Q E=>vs.length=n/\∃ds μ G,g8 c μ H ds vs/\j9 c μ G H/\c7 c (ZE c.mg E) μ H (F ds G) λd X2 _ H'=>∀v,d7 c X2 H' d v->Q v H'
def fnZ(n:Nat)(F:List D->M D):List D->M D:=λds=>if ds.length=n then F ds else M.stuck
def aB(x:Str)(fs:DSt->M (List D)):Fs:=λσ=>do
 let _ <-fs σ
 (λG=>some (.error x,G))
theorem kL{H:Hp}{n:Nat}{G:DH}{K:D->List Addr->DH->Hp->Prop}(p:c7 cc Z μ H (fnZ n F ds G) K):ds.length=n/\c7 cc Z μ H (F ds G) K:=by
 unfold fnZ at p;split at p
 ·rename_i h;exact⟨h,p⟩
 ·exact p.elim
section
variable{P:zB}{w:zI}{K:zc}{mg:Str->Option ze}{base:Heap}
theorem okX{x qual:Str}{st:Stmt}{f:Addr}{fd:xm}{N ps:List Str}{k:Nat}{sp:Sp}(F:Fun K x qual st f fd)(S:M4 N ps (o5 st))(len:∀vs H Q E,sp vs H Q E->vs.length=ps.length)
 (hbody:∀(pq:ze) (A:zL) (outer:List Env) (s:zh) (H:Hp) (vs:List V) (Q:VK) (E:XK),K8 k (A.deeper (yb qual (o5 st) s.heap.objs.size f pq))->sp vs H Q E->
   ∃t,PSs (U5 (CXd P w) P w K mg base N qual (o5 st) f pq A outer s H E) (O9 st) t/\t {nx:=λ_ H'=>Q .non H',rt:=Q} (start N vs) H):V2 P w K mg base (CXd P w) (k+1) f fd ps sp:=by
 obtain⟨oc,od,kV,doc,pm,an,pq,ct,osl,rfl,lk,hcd⟩:=F.ex;exact vP lk hcd S len λA outer s H vs Q E hr hsp=>hbody pq A outer s H vs Q E hr hsp
theorem Md{x:Str}{st:Stmt}{f:Addr}{k n m:Nat}{fb:Fs}(F:FF K mg x st ps f fd)(S:M4 N ps (o5 st))(hn:ps.length=n)(hm:N.length=m)
 (hbody:∀(pq:ze) (A:zL) (outer:List Env) (s:zh) (H:Hp) (E:XK),K8 k (A.deeper (yb x (o5 st) s.heap.objs.size f pq))->DB (U5 (CXd P w) P w K mg base N x (o5 st) f pq A outer s H E) (ZE mg E) (O9 st) fb):
 V2 P w K mg base (CXd P w) (k+1) f fd ps (spX ⟨K,mg⟩ n (m9 m fb)):=by
 refine okX F.F S (λvs H Q E h=>by rw[hn];exact h.1) λpq A outer s H vs Q E hr h=>⟨_,(hbody pq A outer s H E hr).h,?_⟩;obtain⟨hl,ds,μ,G,rl,hG,p⟩:=h;subst hm;refine⟨_,μ,G,cQ rl,hG,(c7.bind p).mono λfl X0 G1 H1 x1 h1 p1=>?_⟩
 cases fl with
 |nx X9=>exact λσ _=>c7.ok p1 h1 _ ofN
 |rt d=>exact λv rv=>c7.ok p1 h1 v rv
 |bk _=>exact p1.elim
 |ct _=>exact p1.elim
theorem Kp{k n:Nat}{f:Addr}(hn:ps.length=n):V2 P w K mg base (CXd P w) k f fd ps (spX ⟨K,mg⟩ n λ_=>M.stuck):=
 ⟨λvs H Q E h=>by rw[hn];exact h.1,λA outer s H args us vs Q E _ _ _ _ h=>by obtain⟨_,ds,μ,G,_,_,p⟩:=h;exact p.elim⟩
variable{N:List Str}{qual:Str}{scope:Scope}{cd:ze}{A:zL}{outer:List Env}{s0:zh}{H0:Hp}{E:XK}{fa:Addr}
theorem nh{X:Cx}{B newId initId:String}{bmB:List ze}{C:Addr}{e1:Expr}(hX:X=U5 (CXd P w) P w K mg base N qual scope fa cd A outer s0 H0 E)(hg:Gl X x)(hm:mg x=some (.ref C))(hC:i6 base C B newId initId bmB)(ha:DA X (ZE mg E) [e1] fs)
 (hdb:(x==("__debug__" :Str))=false) (he:zC [e1] X.env= (false,eval e1 X.env)::zC [] X.env) (qu:(yo cpos (zC [] X.env)).any (·.1)=false) (hl:∀ σ G ds G',fs σ G=some (.ok ds,G')->ds.length=1):
 DS X (ZE mg E) (.Raise (some (.Call (.Name x np) [e1] [] cpos)) none pos) (aB x fs):=by
 subst hX;refine DS.of (gU hg hm hC ha.h hdb he qu) λD σ H ov=>ov.elim λX9 μ G s h p=>?_;have p1:=c7.bind p;refine⟨X9,μ,G,s,h,?_⟩;rcases r:fs X9 G with _|⟨r0,G1⟩
 ·rw[r]at p1;exact p1.elim
 ·rw[r]at p1
  cases r0 with
  |error y=>exact p1
  |ok ds=>
    intro X0 H1 x1 h1 vs rv;obtain⟨C',z1,z2⟩:=p1 X0 H1 x1 h1 X0 H1 (Ext.refl _ _) h1;rw[hm]at z1;cases z1;refine⟨?_,z2⟩;rw[<-rv.length,hl _ _ _ _ r];decide
end
section
variable{M:Model}{A:zL}{E:VSP}{s:zh}{base:Heap}{env:Env}{outer:List Env}{L e:Addr}{Q:Unit->zh->Prop}
theorem mI{T:Addr}{cls:ze}(hfr:A.frames=some (env::outer))(hl:s.heap.FunFrames base (env::outer))(hf:env.frame=some L)(ht:TrF s.heap e T cls)
 (h:∀h' h1,Lv [] e T s.heap h1->h1.objs.size=s.heap.objs.size->Lv (frs (env::outer)) e s.heap.objs.size h1 h'->TrF h' e s.heap.objs.size cls->Q () {s with heap:=h'}):zq M A (Zi (.ref e) env) (λ_ s'=>zq M A (Ja (.ref e) none) Q E s') E s:=by
 obtain⟨oe,vs,oT,ts,he,rfl,hd,h1,ne,hT,dT,h3,l,hc,hn,hl'⟩:=ht;unfold Zi;simp only[hf];refine za (zZ he hd h1 ?_);rw[if_pos (show (Value.ref T != Value.none)=true from by simp)];refine za (zZ hT dT h3 ?_);rw[if_neg (show ¬((Value.none==yC L)=true)from by simp[yC])];refine za (yT hT dT (jh.mp h3).1 ?_);have other:∀b,b≠T->(s.heap.update T (jA (·.setIfInBounds 3 Value.none))).get? b=s.heap.get? b:=λb hb=>js _ _ (Ne.symm hb);have nT:∀b o,s.heap.get? b=some o->(∀vs,o.data≠ .fields vs)->b≠T:=λb o hb k q=>by rw[q,hT]at hb;cases hb;exact k ts dT
 have sz:(s.heap.update T (jA (·.setIfInBounds 3 Value.none))).objs.size=s.heap.objs.size:=JD ..;refine oK (s:={s with heap:=s.heap.update T (jA (·.setIfInBounds 3 Value.none))}) hfr (hl.of_keeps λb o hb k=>⟨o,(other b (nT b o hb k)).trans hb,rfl⟩) hf ((other e (Ne.symm ne)).trans he) hd (jh.mp h1).1 (hc.keep λb m o v q d=>⟨o,v,(other b λz=>(zk.mp m).elim (λz'=>ne (z.symm.trans z')) λz'=>hl' (z▸z')).trans q,d,rfl⟩) hn λh' l t=>?_;dsimp only at l t;rw[sz]at l t;exact h h' _ ⟨λb o q _ _ nb=>(other b nb).trans q,λb o q hb=>nomatch hb⟩ sz l t
end
section
variable{X:Cx}{om:PNS}{σ S:St}{H:Hp}{s:zh}{a T:Addr}{cls:ze}
theorem TrG.df{v:ze}{h:Heap}(tr:TrG v h a T cls):∀b o,h.get? b=some o->(∀vs,o.data≠ .fields vs)->b≠a/\b≠T:=by obtain⟨oe,vs,oT,ts,he,hc,hd,h1,ne,hTT,dT,_⟩:=tr;exact λb o q k=>⟨λz=>by rw[z,he]at q;cases q;exact k _ hd,λz=>by rw[z,hTT]at q;cases q;exact k _ dT⟩
theorem fA{h':Heap}(I:Inv X om σ H s)(ha:X.WY.heap.get? a=none)(hT:X.WY.heap.get? T=none)(pn:∀p∈X.pn++om,p.1≠a/\p.1≠T)(na:H a=none)(nT:H T=none)(df:∀b o,s.heap.get? b=some o->(∀vs,o.data≠ .fields vs)->b≠a/\b≠T)
 (kp:∀b o,s.heap.get? b=some o->b≠a->b≠T->b∉frs X.stack->h'.get? b=some o) (sl:∀b o,s.heap.get? b=some o->b≠a->b≠T->b∈frs X.stack->∃sl,h'.get? b=some {o with slots:=sl}):Inv X om σ H {s with heap:=h'}:=by
 have any:∀b o,s.heap.get? b=some o->b≠a->b≠T->∃sl,h'.get? b=some {o with slots:=sl}:=λb o q x y=>by
  by_cases hb:b∈frs X.stack
  ·exact sl b o q x y hb
  ·exact⟨o.slots,kp b o q x y hb⟩
 have nl:∀b o,X.WY.heap.get? b=some o->b∉X.fs->b∉frs X.stack:=λb o q hb z=>by
  rcases zk.mp (I.stkSub b z)with e|z
  ·exact absurd (zj q) (by have:=I.ok.above;rw[e];exact Nat.not_lt.mpr this)
  ·exact hb z
 have n0:∀b o,X.WY.heap.get? b=some o->b≠a/\b≠T:=λb o q=>⟨λz=>(by rw[z,ha]at q;cases q),λz=>(by rw[z,hT]at q;cases q)⟩;have cel:∀c v,s.heap.IsCell c v->h'.IsCell c v:=λc v ⟨o,q,d⟩=>by obtain⟨x,y⟩:=df c o q (λvs z=>by rw[d]at z;cases z);obtain⟨l,q'⟩:=any c o q x y;exact⟨_,q',d⟩
 obtain⟨m,hN,hl⟩:=I.loc;refine⟨I.ok,I.os,I.bare,⟨λb o q n hb hx=>?_,λb o q n hb hx=>?_,I.base.free,λb o q hx=>?_,I.base.tups,I.base.frzs,I.base.tbls⟩,⟨m,?_,λi x v q1 q2 q3=>?_⟩,λx c q=>?_,I.free,I.freeC,λp hp=>?_,?_,I.len⟩
 ·exact kp b o (I.base.keep b o q n hb hx) (n0 b o q).1 (n0 b o q).2 (nl b o q hb)
 ·obtain⟨l1,q1⟩:=I.base.slot b o q n hb hx;obtain⟨l2,q2⟩:=any b _ q1 (n0 b o q).1 (n0 b o q).2;exact⟨l2,q2⟩
 ·obtain⟨o1,q1⟩:=I.base.there b o q hx;obtain⟨l2,q2⟩:=any b _ q1 (n0 b o q).1 (n0 b o q).2;exact⟨_,q2⟩
 ·obtain⟨o,es,ep,ho,hd,hr⟩:=hN;obtain⟨x,y⟩:=df _ o ho (λvs z=>by rw[hd]at z;cases z);obtain⟨l,q'⟩:=any _ o ho x y;exact⟨_,es,ep,q',hd,hr⟩
 ·obtain⟨u,r,k⟩:=hl i x v q1 q2 q3;refine⟨u,r,?_⟩;rcases k with k|⟨k,c,k1,k2⟩
  ·exact .inl k
  ·exact .inr ⟨k,c,k1,cel c _ k2⟩
 ·obtain⟨v,k⟩:=I.cell x c q;exact⟨v,cel c v k⟩
 ·obtain⟨q1,q2,q3,q4,q5⟩:=I.pin p hp;refine⟨kp _ _ q1 (pn p hp).1 (pn p hp).2 λz=>?_,q2,q3,q4,q5⟩;rcases zk.mp (I.stkSub _ z)with e|z
  ·exact q3 e
  ·exact q4 z
 ·refine nP I.hok λb u o e q=>kp b u q (λz=>?_) (λz=>?_) λz=>?_
  ·rw[z,na]at e;cases e
  ·rw[z,nT]at e;cases e
  ·rw[I.stkFree b z]at e;cases e
def EC(X:Cx)(om:PNS)(S:St)(R:XK):VSP:=λe s'=>∃a T cls H',e= .ref a/\Inv X om S H' s'/\X.WY.heap.get? a=none/\X.WY.heap.get? T=none/\(∀p∈X.pn++om,p.1≠a/\p.1≠T)/\H' a=none/\H' T=none/\TrF s'.heap a T cls/\R cls none H'
def CxT(X:Cx)(om:PNS)(S:St)(R:XK):Cx:={X with xe:=EC X om S R,pn:=X.pn++om}
variable{R:XK}
theorem OU(k:X.Ok):(CxT X om S R).Ok:=⟨k.mod,k.kind,k.glob,k.blt,k.above,k.inj,k.has,k.cab,k.hd,k.frames,k.stk,k.exf,k.bs,k.bsz,k.noex,k.exfs,k.funs,k.frf,k.gd⟩
theorem nK(I:Inv X om σ H s):Inv (CxT X om S R) [] σ H s:=⟨OU I.ok,I.os,I.bare,I.base,I.loc,I.cell,I.free,I.freeC,λp hp=>I.pin p (by rw[ji]at hp;exact hp),I.hok,I.len⟩
theorem RV(k:(CxT X om S R).Ok):X.Ok:=⟨k.mod,k.kind,k.glob,k.blt,k.above,k.inj,k.has,k.cab,k.hd,k.frames,k.stk,k.exf,k.bs,k.bsz,k.noex,k.exfs,k.funs,k.frf,k.gd⟩
theorem L4{p1:PNS}(I:Inv (CxT X om S R) p1 σ H s):Inv X om σ H s:=⟨RV I.ok,I.os,I.bare,I.base,I.loc,I.cell,I.free,I.freeC,λp hp=>I.pin p (yX _ hp),I.hok,I.len⟩
theorem Qd{p1:PNS}{e:ze}{s':zh}(rn:X.ex= [])(I:Inv (CxT X om S R) p1 S H s)(h:CXd X.prog X.w X.stack H s R e s'):EC X om S R e s':=by
 obtain⟨a,T,cls,H',rfl,ha,hT,na,nT,os,bare,un,hok,tr,hE⟩:=h;have I:=L4 I;have up:∀b,s.heap.get? b=none->X.WY.heap.get? b=none:=λb q=>by
  rcases e:X.WY.heap.get? b with _|o
  ·rfl
  ·obtain⟨o',z⟩:=I.base.there b o e (by rw[rn];exact λz=>nomatch z);rw[q]at z;cases z
 refine⟨a,T,cls,H',rfl,I.call' os un hok bare (λb hb=>nomatch hb),up a ha,up T hT,λp hp=>⟨λz=>?_,λz=>?_⟩,na,nT,tr,hE⟩
 ·have:=(I.pin p hp).1;rw[z,ha]at this;cases this
 ·have:=(I.pin p hp).1;rw[z,hT]at this;cases this
end
def NB(x:Str)(f g:Fs):Fs:=λσ G=>match f σ G with
|some (.error y,G')=>if y=x then g σ G' else none
|r=>r
def CxH(X:Cx)(a:Addr):Cx:={X with A:=X.A.mark (some (.ref a)),calm:=false,xe:=λ_ _=>False}
section
variable{X:Cx}{om:PNS}{σ S:St}{H:Hp}{s:zh}{a T C:Addr}{x:Str}
theorem kG(I:Inv X om σ H s):Inv (CxH X a) om σ H s:=⟨(λk=>⟨k.mod,k.kind,k.glob,k.blt,k.above,k.inj,k.has,k.cab,λz=>(nomatch z),k.frames,k.stk,k.exf,k.bs,k.bsz,k.noex,k.exfs,k.funs,k.frf,k.gd⟩:X.Ok->(CxH X a).Ok) I.ok,I.os,I.bare,I.base,I.loc,I.cell,I.free,I.freeC,I.pin,I.hok,I.len⟩
theorem SG(k:X.Ok)(I:Inv (CxH X a) om σ H s):Inv X om σ H s:=⟨k,I.os,I.bare,I.base,I.loc,I.cell,I.free,I.freeC,I.pin,I.hok,I.len⟩
structure BAt(X:Cx)(body:List Stmt)(f:Fs):Prop where
 h:∀(om:PNS) (S:St) (R:XK) (s:zh) (H:Hp) (D:f8),Inv (CxT X om S R) [] S H s->AA (wc X) (ZE X.mg R) f D S H->zq (zz X.prog X.w) X.A (execs body X.env) (SP (CxT X om S R) [] D) (EC X om S R) s
theorem Lw{B newId initId:String}{bmB:List ze}{np hp pos:Pos}{body suite:List Stmt}{b₀:Stmt}{f g:Fs}(hst:X.stack=X.env::X.outer)(hfr:X.env.frame=some X.env.locals)(rn:X.ex= [])(hg:Gl X x)(hm:X.mg x=some (.ref C))(hC:i6 X.base C B newId initId bmB)(hdb:(x==("__debug__" :Str))=false)
 (hb:BAt X body f) (hs:∀a,DB (CxH X a) ZF (b₀::suite) g):DS X ZF (.Try body [.ExceptHandler (some (.Name x np)) none (b₀::suite) hp] [] [] pos) (NB x f g):=by
 refine⟨λom s σ H D I hL=>?_⟩;obtain⟨X9,μ,G,sr,hr,p⟩:=hL;obtain⟨nm,q,Nn,bs,bm,hdct,sn,sub,ab,col,dd,k0,k1,k2,k3,k5,mN,q1,q2,q3,q4,q5⟩:=hC.ex;refine XZ (jg (hb.h om σ (λc _ H1=>c= .ref C/\∃ X0 G1,Ext μ H X0 H1/\j9 (wc X) X0 G1 H1/\c7 (wc X) ZF X0 H1 (g X9 G1) (λfl X2 _ H'=>a9 (wc X) D fl X2 H')) s H D (nK I) ⟨X9,μ,G,sr,hr,?_⟩) (λfl s1 h1=>?_) (λe s1 h1=>?_))
 ·unfold NB at p;rcases r:f X9 G with _|⟨r0,G1⟩
  ·rw[r]at p;exact p
  ·rw[r]at p
   cases r0 with
   |ok fl=>exact p
   |error y=>
     intro X0 H1 x1 h1;dsimp only at p;split at p
     ·rename_i e;subst e;exact⟨C,hm,rfl,X0,G1,x1,h1,p.from x1⟩
     ·exact p.elim
 ·cases fl with
  |next=>
    obtain⟨X1,H',I',k⟩:=h1;exact yZ ⟨X1,H',L4 I',k⟩
  |brk=>
    obtain⟨X1,H',I',k⟩:=h1;exact⟨X1,H',L4 I',k⟩
  |cont=>
    obtain⟨X1,H',I',k⟩:=h1;exact⟨X1,H',L4 I',k⟩
  |ret u=>
    obtain⟨v,X1,H',I',k⟩:=h1;exact⟨v,X1,H',L4 I',k⟩
 ·obtain⟨a,T,cls,H',rfl,I',ha,hT,pn,na,nT,tr,rfl,X0,G1,ex,hr1,p1⟩:=h1;have kk:=I'.ok;have fr:X.A.frames=some (X.env::X.outer):=hst▸I'.ok.frames;have st:s1.heap.FunFrames X.base (X.env::X.outer):=hst▸I'.stack;refine mI (base:=X.base) fr st hfr tr λh' h1 l1 sz l2 t2=>?_;rw[<-hst]at l2;have kp:∀b o,s1.heap.get? b=some o->b≠a->b≠T->b∉frs X.stack->h'.get? b=some o:=λb o q na nT nf=>l2.keep b o (l1.keep b o q (λz=>nomatch z) na nT) nf na (zu (zj q));have sl:∀b o,s1.heap.get? b=some o->b≠a->b≠T->b∈frs X.stack->∃sl,h'.get? b=some {o with slots:=sl}:=λb o q na nT nf=>l2.slot b o (l1.keep b o q (λz=>nomatch z) na nT) nf na (zu (zj q));have I2:Inv X om σ H' {s1 with heap:=h'}:=fA I' ha hT pn na nT tr.df kp sl;refine YZ (YD (U9 (X:=CxH X a) (kG I2) hg hm ?_ hdb)) (by intro q;cases q);obtain⟨oe,vs,oT,ts,he,hc,_⟩:=id t2;refine wpAny_excMatches_sub_self (I2.bk _ _ q1) he hc q5 ?_;refine codeAny_handlers_suite (fly (fr:=none) t2 λh3 l3 t3=>?_);have I3:Inv X om σ H' {s1 with heap:=h3}:=fA I' ha hT pn na nT tr.df (λb o q na nT nf=>l3.keep b o (kp b o q na nT nf) (λz=>nomatch z) na (zu (zj q))) λb o q na nT nf=>by
   obtain⟨l,z⟩:=sl b o q na nT nf;exact⟨l,l3.keep b _ z (λz=>nomatch z) na (zu (zj q))⟩
  refine jg ((hs a).h om _ σ H' D (kG I3) ⟨X9,X0,G1,sr.mono ex,hr1,p1⟩) (λfl s4 h4=>?_) λ_ _ z=>z.elim
  cases fl with
  |next=>
    obtain⟨X1,H',I',k⟩:=h4;exact⟨X1,H',SG kk I',k⟩
  |brk=>
    obtain⟨X1,H',I',k⟩:=h4;exact⟨X1,H',SG kk I',k⟩
  |cont=>
    obtain⟨X1,H',I',k⟩:=h4;exact⟨X1,H',SG kk I',k⟩
  |ret u=>
    obtain⟨v,X1,H',I',k⟩:=h4;exact⟨v,X1,H',SG kk I',k⟩
end
def tAt(S:St)(t:TE):TE:=λσ H Q=>σ=S/\t σ H Q
section
variable{X:Cx}{om:PNS}{σ S:St}{H:Hp}{s:zh}{a T C:Addr}{x:Str}{R:XK}
structure EAt(X:Cx)(e:Expr)(f:Fe):Prop where
 h:∀(om:PNS) (S:St) (R:XK),PE (CxT X om S R) e (tAt S (L3 (wc X) (ZE X.mg R) f))
theorem Gk(rn:X.ex= [])(hF:V2 X.prog X.w X.K X.mg X.base (CXd X.prog X.w) k f fd ps (spX (wc X) n F))(hr:K8 k X.A)(hg:Gl X x)(hm:X.mg x=some (.ref f))(hk:jU X.K (.ref f)=true)(hb:y4 X.K fd ps [])
 (ha:∀om S R,DA (CxT X om S R) (ZE X.mg R) (e::es) fs)
 (hdb:(x==("__debug__" :Str))=false) (he:zC (e::es) X.env= (false,eval e X.env)::zC es X.env) (qu:(yo pos (zC es X.env)).any (·.1)=false):
 EAt X (.Call (.Name x p) (e::es) [] pos) (D0 (fnZ n F) fs):=by
 refine⟨λom S R p1 s σ H Q I hh=>?_⟩;obtain⟨rfl,X9,μ,G,sr,hG,pp⟩:=hh;refine yB (U9 (X:=CxT X om σ R) I hg hm ?_ hdb);refine Zk (h₀:=X.base) I.ok.mod.kin hk (thn ((ha om σ R).h pos p1 s σ H (λvs H1=>spX (wc X) n F (vs++[]) H1 Q R) I ⟨X9,μ,G,sr,hG,(c7.bind pp).mono λds' X0 G1 H1 x' h1 p1 vs rv=>?_⟩) λus s1 ph=>ph.elim λvs H1 I1 r q=>⟨I1.kIn,?_⟩) he qu
 ·obtain⟨hl,p2⟩:=kL p1;rw[ji];exact⟨by rw[<-rv.length];exact hl,ds',X0,G1,rv,h1,p2⟩
 ·have r2:m6 (vs++[]) (us++[]):=r.append .nil;have hl:(us++[]).length=ps.length:=by rw[<-r2.length];exact hF.len _ _ _ _ q
  refine wpAny_call (XB (hF.run X.A X.stack s1 H1 ⟨us, []⟩ (us++[]) (vs++[]) Q R hr I1.env0 (hb s1 us I1.kIn hl) r2 q) λr s' hq=>?_)
  cases r with
  |error e=>exact Qd rn I1 hq
  |ok fl=>
    cases fl with
    |ret u=>exact I1.after hq
    |next=>exact yc hq
    |brk=>exact yc hq
    |cont=>exact yc hq
theorem FW(h:EAt X e f)(hs:zC [e] X.env= (false,eval e X.env)::zC [] X.env):EAt X (.List [e] pos) (E1 (C0 f z0)):=by
 refine⟨λom S R=>PE.mono (GJ (T4 (h.h om S R) HB hs)) λσ H Q hh=>?_⟩;obtain⟨rfl,X9,μ,G,s,h,p⟩:=hh;refine⟨rfl,X9,μ,G,s,h,(c7.bind (c7.bind p)).mono λd X0 G1 H1 x' h1 p1 v rv=>?_⟩;have p2:=c7.ok (c7.bind p1) h1;have p3:=c7.ok p2 h1;show (_/\∀q,H1 q=none->Q (.ref q) (upd H1 q (.lst [v])));split at p3
 ·rename_i hz;exact⟨hz,λq hq=>Z2 (vs:= [v]) h1 (show g8 (wc X) X0 H1 [d] [v] from⟨v, [],rfl,rv,rfl⟩) p3 q hq⟩
 ·exact p3.elim
theorem tT{gg}(he:EAt X e fa)(hg:∀om S R,DG (CxT X om S R) (ZE X.mg R) tg gg)(hs:Ya [tg] e pos.line X.env=pure false)(hw:Yb [tg] e X.env=pure none)
 (h1:(xh [tg] X.env).map (·.2)= [YR tg X.env]):BAt X [.Assign [tg] e pos] (J4 fa gg):=by
 refine⟨λom S R s H D I hh=>?_⟩;have w:=VI (X:=CxT X om S R) (he.h om S R) (hg om S R).h hs hw h1;refine Ym (thn (w [] s S H D I ⟨rfl,?_⟩) λfl s1 k=>?_)
 ·obtain⟨X9,μ,G,s,h,p⟩:=hh;exact⟨X9,μ,G,s,h,(c7.bind p).mono λd X0 G1 H1 x' h1 p1 v rv=>
   ⟨d,X9,X0,G1,rv,s.mono x',h1,(c7.bind p1).mono λdσ2 WW G2 H2 x2 h2 p2 WG s2=>c7.ok p2 h2 WG s2⟩⟩
 ·cases fl with
  |next=>exact yZ k
  |_=>exact k
end
def VE:List ze:= [.type "ValueError",.type "Exception",.type "BaseException",.type "object"]
theorem i6.of{K:zc}{h:Heap}{C:Addr}(X:K.In h)(q:jZ K C VE "ValueError.__new__" =true):i6 h C "ValueError" "ValueError.__new__" "ValueError.__init__" VE:=by
 refine⟨PySem.F.excBase_ValueError,?_⟩;unfold jZ at q;split at q
 ·rename_i dd cd sl ho;split at q
  ·rename_i C' bm k0 k1 k2 k3 n k5 hm hs;simp only[zS,beq_iff_eq,yD]at q;obtain⟨⟨⟨⟨⟨rfl,rfl⟩,hdel⟩,ht⟩,hok⟩,hni⟩:=q;obtain⟨nm,bs,mro,ns,qn,hd,sn,sub,ab,col,del⟩:=cd;dsimp only at hm hdel hok hni;subst hm hdel;have hsl:sl= #[k0,k1,k2,k3,some (.builtin "ValueError.__new__"),k5]:=by
    obtain⟨l⟩:=sl;simp only at hs;rw[hs]
   subst hsl;have T:=PySem.W.tail_of_in X ht;exact⟨nm,qn,ns,bs,bm,hd,sn,sub,ab,col,dd,k0,k1,k2,k3,k5,_,X _ _ ho,.of_isNs (PySem.W.isNs_of_in X hok),PySem.W.nsMap_none_of_in X hok hni,T,T.hasType (by decide)⟩
  ·cases q
 ·cases q
structure EB(K:zc)(mg:Str->Option ze)(x:Str):Prop where
 ex:∃C,mg x=some (.ref C)/\jZ K C VE "ValueError.__new__" =true
theorem EB.of{K:zc}{mg:Str->Option ze}{x:Str}{h:Heap}{C:Addr}(X:K.In h)(G:h.Ns zF mg)(e:jv K zF x=some (some (.ref C)))(q:jZ K C VE "ValueError.__new__" =true):EB K mg x:=⟨C,jT X G e,q⟩
structure XI(K:zc)(x:Str):Prop where
 ex:∃C,jv K zF x=some (some (.ref C))/\jZ K C VE "ValueError.__new__" =true
theorem XI.of{K:zc}{x:Str}{C:Addr}(e:jv K zF x=some (some (.ref C)))(q:jZ K C [.type "ValueError",.type "Exception",.type "BaseException",.type "object"] "ValueError.__new__" =true):XI K x:=⟨C,e,q⟩
theorem XI.ok{K:zc}{mg:Str->Option ze}{x:Str}{h:Heap}(c:XI K x)(X:K.In h)(G:h.Ns zF mg):EB K mg x:=by obtain⟨C,e,q⟩:=c.ex;exact .of X G e q
structure dC(F:List D->M D)(n:Nat)(x:Str)(P:zB)(w:zI)(K:zc)(mg:Str->Option ze)(base:Heap)(k:Nat):Prop where
 ex:∃f fd ps,V2 P w K mg base (CXd P w) k f fd ps (spX ⟨K,mg⟩ n F)/\mg x=some (.ref f)/\jU K (.ref f)=true/\y4 K fd ps []
abbrev CkZ(E:Ev)(F:List D->M D)(n:Nat)(x:Str)(k:Nat):Prop:=dC F n x E.P E.w E.K E.mg E.base k
section
variable{E:Ev}{x:Str}{st:Stmt}{k n m:Nat}{fb:Fs}
theorem D4(N ps:List Str)(X:EvX E)(Y:FH E.K x st)(S:M4 N ps (o5 st))(b:BA x st ps)(hn:ps.length=n)(hm:N.length=m)
 (hb:M4 N ps (o5 st)->∀f pq A outer s H Z,K8 k (A.deeper (yb x (o5 st) s.heap.objs.size f pq))->DB (U5 (CXd E.P E.w) E.P E.w E.K E.mg E.base N x (o5 st) f pq A outer s H Z) (ZE E.mg Z) (O9 st) fb):CkZ E (m9 m fb) n x (k+1):=by
 obtain⟨h,X,G⟩:=X.ex;obtain⟨f,fd,c⟩:=Y.ff X G b;exact⟨f,fd,ps,Md c S hn hm (hb S f),c.m,c.F.kp,c.b⟩
theorem DX(ps:List Str)(X:EvX E)(Y:FH E.K x st)(b:BA x st ps)(hn:ps.length=n):CkZ E (λ_=>M.stuck) n x k:=by obtain⟨h,X,G⟩:=X.ex;obtain⟨f,fd,c⟩:=Y.ff X G b;exact⟨f,fd,ps,Kp hn,c.m,c.F.kp,c.b⟩
end
theorem c7.zmono{α:Type}{c:Wc}{Z Z':XC}{μ:List Addr}{H:Hp}{r:Option (Except Str α×DH)}{K:α->List Addr->DH->Hp->Prop}(h:c7 c Z μ H r K)(k:∀x μ G H,Z x μ G H->Z' x μ G H):c7 c Z' μ H r K:=by
 match r,h with
 |some (.ok a,G'),h=>exact h
 |some (.error x,G'),h=>exact λWW H2 p2 e=>k _ _ _ _ (h WW H2 p2 e)
structure bE(X:Cx)(Z:XC):Prop where
 ex:∃E:XK,GC (CXd X.prog X.w) X E/\∀x μ G H,Z x μ G H->ZE X.mg E x μ G H
theorem Kk{X:Cx}:bE X ZF:=⟨λ_ _ _=>False,λ_ _ _ _ _ _ _ h=>(by obtain⟨_,_,_,_,_,_,_,_,_,_,_,_,_,_,z⟩:=h;exact z.elim),λ_ _ _ _ z=>z.elim⟩
section
variable{P:zB}{w:zI}{K:zc}{mg:Str->Option ze}{base:Heap}{N:List Str}{qual:Str}{scope:Scope}{cd:ze}{A:zL}{outer:List Env}{s0:zh}{H0:Hp}{E:XK}{fa:Addr}
theorem AY:bE (U5 (CXd P w) P w K mg base N qual scope fa cd A outer s0 H0 E) (ZE mg E):=⟨E,Hw,λ_ _ _ _ z=>z⟩
theorem lW{e1:Expr}(hC:EB K mg x)(hg:Gl (U5 (CXd P w) P w K mg base N qual scope fa cd A outer s0 H0 E) x)(ha:DA (U5 (CXd P w) P w K mg base N qual scope fa cd A outer s0 H0 E) (ZE mg E) [e1] (C0 fe z0))
 (hdb:(x==("__debug__" :Str))=false) (hs: [e1].all J9=true):DS (U5 (CXd P w) P w K mg base N qual scope fa cd A outer s0 H0 E) (ZE mg E) (.Raise (some (.Call (.Name x np) [e1] [] cpos)) none pos) (aB x (C0 fe z0)):=by
 obtain⟨C,hm,qq⟩:=hC.ex;rw[jC,zS]at hs;refine⟨λom s σ H D I hL=>(nh rfl hg hm (i6.of I.ok.mod.kin qq) ha hdb (N0 hs.1) (by rw[M5];exact Q3 hs.2) λσ G ds G' h=>?_).h om s σ H D I hL⟩;unfold C0 z0 at h;simp only[M.bind_eq]at h;rcases q:fe σ G with _|⟨r,G1⟩
 ·rw[q]at h;cases h
 ·rw[q]at h
  cases r with
  |error y=>cases h
  |ok d=>cases h;rfl
end
section
variable{X:Cx}{Z:XC}
theorem EZ(hT:bE X Z)(hF:∃k kk,dC F n x X.prog X.w X.K X.mg X.base k/\K8 kk X.A/\k<=kk)(hg:Gl X x)(ha:DA X Z (e::es) fs)(hdb:(x==("__debug__" :Str))=false)(hs:(e::es).all J9=true):
 DE X Z (.Call (.Name x p) (e::es) [] pos) (D0 (fnZ n F) fs):=by
 obtain⟨k,kk,hF,hr,hk⟩:=hF;obtain⟨f,fd,ps,h1,h2,h3,h4⟩:=hF.ex;obtain⟨E,hp,hz⟩:=hT.ex;rw[jC,zS]at hs;refine DE.of (QM (E:=E) h1 (hr.mono hk) hg h2 h3 h4 .nil hp ha.h hdb (N0 hs.1) (by rw[M5];exact Q3 hs.2)) λσ H Q ov=>ov.elim λX9 μ G s h p=>?_;refine⟨X9,μ,G,s,h,(c7.bind p).mono λds' X0 G1 H1 x' h1 p1 vs rv=>?_⟩;obtain⟨hl,p2⟩:=kL p1;show spX (wc X) n F (vs++[]) H1 Q E;rw[ji];exact⟨by rw[<-rv.length];exact hl,ds',X0,G1,rv,h1,p2.zmono hz⟩
def MA(i n:Nat)(tab:Str->Option (List D->M D))(fs:DSt->M (List D)):Fe:=λσ=>match σ[i]? with
|some (some (.fn x))=>match tab x with
  |some F=>fs σ >>= fnZ n F
  |none=>M.stuck
|_=>M.stuck
theorem qT{α:Type}{X9:DSt}{c:Wc}{H:Hp}{G:DH}{K:D->List Addr->DH->Hp->Prop}(p:c7 c Z μ H (MA i n tab fs X9 G) K):
 ∃x F,X9[i]? =some (some (.fn x))/\tab x=some F/\c7 c Z μ H ((fs X9 >>= fnZ n F) G) K:=by
 delta MA at p;rcases hx:X9[i]? with _|_|d
 ·rw[hx]at p;exact p.elim
 ·rw[hx]at p;exact p.elim
 ·rw[hx]at p;rcases d with _|_|_|_|_|_|x|_<;>try exact p.elim
  have p:c7 c Z μ H ((match tab x with|some F=>fs X9 >>= fnZ n F|none=>M.stuck:M D) G) K:=p;rcases hF:tab x with _|F
  ·rw[hF]at p;exact p.elim
  ·rw[hF]at p;exact⟨x,F,rfl,hF,p⟩
theorem MV{e:Expr}{y:Str}(hTh:bE X Z)(hT:∀x F,tab x=some F->∃k kk,dC F n x X.prog X.w X.K X.mg X.base k/\K8 kk X.A/\k<=kk)(hv:PE X (.Name y p) (VA i))(ha:DA X Z (e::es) fs)(hs:(e::es).all J9=true):
 DE X Z (.Call (.Name y p) (e::es) [] pos) (MA i n tab fs):=⟨by
 intro om s σ H Q I h;obtain⟨X9,μ,G,sr,hr,pp⟩:=h;obtain⟨E,hp,hz⟩:=hTh.ex;obtain⟨x,F,hx,hF,pp⟩:=qT (α:=D) pp;obtain⟨k,kk,hC,hrm,hk⟩:=hT x F hF;obtain⟨f,fd,ps,f1,f2,f3,f4⟩:=hC.ex;rw[jC,zS]at hs;obtain⟨v,e1,r⟩:=sr.2 i _ hx;unfold d7 at r;obtain⟨a,ea,rfl⟩:=r;have ea:X.mg x=some (.ref a):=ea;rw[f2]at ea
 cases ea
 refine yB (thn (hv om s σ H (λv' H'=>v'= .ref f/\H'=H) I ⟨_,e1,rfl,rfl⟩) λu s1 ⟨v',H',I1,rv,e2,e3⟩=>?_);subst e2 e3
 cases rv
 refine Zk (h₀:=X.base) I1.ok.mod.kin f3 (thn (ha.h pos om s1 σ H' (λvs H2=>spX (wc X) n F vs H2 Q E) I1 ⟨X9,μ,G,sr,hr,(c7.bind pp).mono λds' X0 G1 H1 x' h1 p1 vs rv=>?_⟩) λus s2 ⟨vs,H2,I2,r2,q2⟩=>⟨I2.kIn,?_⟩) (N0 hs.1) (by rw[M5];exact Q3 hs.2)
 ·obtain⟨hl,p2⟩:=kL p1;exact⟨by rw[<-rv.length];exact hl,ds',X0,G1,rv,h1,p2.zmono hz⟩
 ·exact TD (dvs:= []) (ds:= []) f1 (hrm.mono hk) f4 .nil hp I2 r2 (by rw[ji];exact q2)⟩
theorem BW(hTh:bE X Z)(ha:∃k kk,dC Fa n a X.prog X.w X.K X.mg X.base k/\K8 kk X.A/\k<=kk)(hb:∃k kk,dC Fb n b X.prog X.w X.K X.mg X.base k/\K8 kk X.A/\k<=kk)
 (hN:X.N[i]? =some y) (hv:Vis X.env.scope y) (hd:(y==("__debug__" :Str))=false) (hcd:(y==("__classdict__" :Str))=false) (hs:(e::es).all J9=true) (hA:DA X Z (e::es) fs):
 DE X Z (.Call (.Name y p) (e::es) [] pos) (MA i n (w9 a b Fa Fb) fs):=MV hTh (λx F h=>by
 unfold w9 at h;split at h
 ·rename_i k;cases h;rw[k];exact ha
 ·split at h
  ·rename_i k;cases h;rw[k];exact hb
  ·cases h) (MC hN hv hd hcd) hA hs
theorem Ph(hF:∃F n k,dC F n x X.prog X.w X.K X.mg X.base k)(hg:Gl X x)(hdb:(x==("__debug__" :Str))=false):DE X Z (.Name x p) (cE (.fn x)):=⟨by
 intro om s σ H Q I h;obtain⟨F,n,k,hF⟩:=hF;obtain⟨f,fd,ps,f1,f2,f3,f4⟩:=hF.ex;obtain⟨X9,μ,G,sr,hr,pp⟩:=h;exact U9 I hg f2 ⟨.ref f,H,I,rfl,c7.ok pp hr _ ⟨f,f2,rfl⟩⟩ hdb⟩
theorem wm(rn:X.ex= [])(hF:∃k kk,dC F n x X.prog X.w X.K X.mg X.base k/\K8 kk X.A/\k<=kk)(hg:Gl X x)(ha:∀om S R,DA (CxT X om S R) (ZE X.mg R) (e::es) fs)(hdb:(x==("__debug__" :Str))=false)(hs:(e::es).all J9=true):
 EAt X (.Call (.Name x p) (e::es) [] pos) (D0 (fnZ n F) fs):=by
 obtain⟨k,kk,hF,hr,hk⟩:=hF;obtain⟨f,fd,ps,h1,h2,h3,h4⟩:=hF.ex;rw[jC,zS]at hs;exact Gk rn h1 (hr.mono hk) hg h2 h3 h4 ha hdb (N0 hs.1) (by rw[M5];exact Q3 hs.2)
theorem iX{np hp pos:Pos}{body suite:List Stmt}{b₀:Stmt}{f g:Fs}(hst:X.stack=X.env::X.outer)(hfr:X.env.frame=some X.env.locals)(rn:X.ex= [])(hC:EB X.K X.mg x)(hg:Gl X x)(hdb:(x==("__debug__" :Str))=false)
 (hb:BAt X body f) (hs:∀a,DB (CxH X a) ZF (b₀::suite) g):DS X ZF (.Try body [.ExceptHandler (some (.Name x np)) none (b₀::suite) hp] [] [] pos) (NB x f g):=by
 obtain⟨C,hm,q⟩:=hC.ex;exact⟨λom s σ H D I hL=>(Lw hst hfr rn hg hm (i6.of I.ok.mod.kin q) hdb hb hs).h om s σ H D I hL⟩
end
def Pd(f:Fe):Fe:=λσ=>do
 match <-f σ with
 | .str z=>if (JH z).length<=zi then pure (.str (JH z))else M.stuck
 |_=>M.stuck
def aF:List Fe->Str->Fe
|[],pi=>λ_=>if pi.length<=zi then pure (.str pi)else M.stuck
|f::r,pi=>λσ=>do
  match <-f σ with
  | .str y=>if (pi++y).length<=zi then aF r (pi++y) σ else M.stuck
  |_=>M.stuck
section
variable{X:Cx}{Z:XC}
theorem vw(he:DE X Z e f):DE X Z (.FormattedValue e 114 none pos) (Pd f):=⟨by
 intro om s σ H Q I h;obtain⟨X9,μ,G,sr,hr,p⟩:=h;refine wpAny_FormattedValue_repr (thn (he.h om s σ H (λv H1=>∃z,v= .str z/\(JH z).length<=zi/\Q (.str (JH z)) H1) I ⟨X9,μ,G,sr,hr,(c7.bind p).mono λd X0 G1 H1 x' h1 p1 v rv=>?_⟩) λu s1 hE=>hE.elim λv H1 I1 r q=>?_)
 ·rcases d with _|_|_|z|_|_|_|_<;>try exact p1.elim
  dsimp only at p1;split at p1
  ·rename_i hz;rw[S1 rv];exact⟨z,rfl,hz,c7.ok p1 h1 _ (by unfold d7;rfl)⟩
  ·exact p1.elim
 ·obtain⟨z,rfl,hz,q⟩:=q;obtain⟨t,rfl⟩:=r;refine wpAny_pyReprObj_gives (Xs _ _ _) slot_str_repr entry_str_repr (args_str_repr _) (gives_str_repr z t) ?_ rfl hz;exact formatField_str (λt' tk=>⟨.str (JH z),H1,I1.tok _,⟨_,rfl⟩,q⟩) hz⟩
structure DJ(X:Cx)(Z:XC)(es:List Expr)(fs:List Fe):Prop where
 h:∀(pi:Str) (om:PNS) (s:zh) (σ:St) (H:Hp) (Q:VK),Inv X om σ H s->L3 (wc X) Z (aF fs pi) σ H Q->Joins (zz X.prog X.w) X.A X.xe (evalEach es X.env) pi (λout W1=>out.length<=zi/\EP X om σ Q (.str out W1.toks) {W1 with toks:=W1.toks+1}) s
theorem Vd:DJ X Z [] []:=⟨λpi om s σ H Q I h=>by
 obtain⟨X9,μ,G,sr,hr,p⟩:=h;show _/\_;unfold aF at p;split at p
 ·rename_i hz;exact⟨hz,.str pi,H,I.tok _,⟨_,rfl⟩,c7.ok p hr _ (by unfold d7;rfl)⟩
 ·exact p.elim⟩
theorem GV(he:DE X Z e f)(hr:DJ X Z es fs):DJ X Z (e::es) (f::fs):=⟨λpi om s σ H Q I h=>by
 obtain⟨X9,μ,G,sr,hr',p⟩:=h;show zq _ _ (eval e X.env) _ _ s;refine thn (he.h om s σ H (λv H1=>∃y,v= .str y/\(pi++y).length<=zi/\L3 (wc X) Z (aF fs (pi++y)) σ H1 Q) I ⟨X9,μ,G,sr,hr',(c7.bind p).mono λd X0 G1 H1 x' h1 p1 v rv=>?_⟩) λu s1 hE=>hE.elim λv H1 I1 r q=>?_
 ·rcases d with _|_|_|y|_|_|_|_<;>try exact p1.elim
  dsimp only at p1;split at p1
  ·rename_i hz;rw[S1 rv];exact⟨y,rfl,hz,X9,X0,G1,sr.mono x',h1,p1⟩
  ·exact p1.elim
 ·obtain⟨y,rfl,hz,q⟩:=q;obtain⟨t,rfl⟩:=r;exact⟨y,t,rfl,hz,hr.h _ om s1 σ H1 Q I1 q⟩⟩
theorem Rx(h:DJ X Z (e1::e2::es) fs):DE X Z (.JoinedStr (e1::e2::es) pos) (aF fs Str.empty):=⟨λom s σ H Q I hh=>wpAny_JoinedStr (h.h _ om s σ H Q I hh)⟩
end
end DL
namespace DL
open PySem PySem.Spec
section
variable{prog:zB}{w:zI}{A:zL}{E:VSP}{h:Heap}{g:Array GenState}{d:Drawn}{t:Nat}{os:OsState}{a C:Addr}{o:Obj}{vs:Array ze}{K:zc}
theorem RW{R:Jl->zh->Prop}(X:K.In h)(hm:jB K C (.type "object")=some true)(hx:h.get? a=some o)(hc:o.cls= .ref C)(hq:R (.ok (.ret (.ref C))) ⟨h,g,d,t,os⟩):
 ZC (zz prog w) A (.call (.builtin "getset_descriptor.__get__") ⟨[.builtin "object.__class__",.ref a,.ref C], []⟩) R ⟨h,g,d,t,os⟩:=by
 have hT5:(⟨h,g,d,t,os⟩:zh).TypeIs (.builtin "object.__class__") "getset_descriptor":=Yx;have L:=Yn (M:=zz prog w) X hm;rw[<-F.owner_object_class]at L;refine codeAny_call_builtin JN.plain F.entry_gs_get (JN.check _ _ _ _ _ _ _ _ hT5 (F.args_gs_get _ _ _) ?_)
 repeat (any_goals (first|assumption|(with_reducible refine jJ hx ?_;rw[hc])|with_reducible refine L.at ?_|wp_step))
 refine⟨Code.quiet_builtin _ (by decide +kernel),jY F.entry_object_class ?_⟩
 repeat (any_goals (first|assumption|(with_reducible refine jJ hx ?_;rw[hc])|wp_step))
variable(X:K.In h)(hm:jB K C (.type "object")=some true)(hB:jB K C (.type "BaseException")=some true)(hl:jx K (.ref C) "__class__" =some (some (.builtin "object.__class__")))
 (hga:jx K (.ref C) "__getattribute__" =some (some (.builtin "BaseException.__getattribute__"))) (hgn:jx K (.ref C) "__getattr__" =some none) (hx:h.get? a=some o) (hc:o.cls= .ref C)
include X hm hl hx hc
theorem QW{tk:Tok}{Q:Fin->zh->Prop}(hq:Q (.done (.ret (.ref C))) ⟨h,g,d,t,os⟩):
 zq (zz prog w) A (xR.«object.__getattribute__» ⟨[.ref a,.str "__class__" tk], []⟩) Q E ⟨h,g,d,t,os⟩:=by
 have hT5:(⟨h,g,d,t,os⟩:zh).TypeIs (.builtin "object.__class__") "getset_descriptor":=Yx;have f5:=Yx;have f6:=JN.lookup;have f7:=F.slot_gs_set.lookup;have L:=Yd (M:=zz prog w) X hl
 repeat (any_goals (first|assumption|(with_reducible refine jJ hx ?_;rw[hc])|with_reducible refine L.at ?_|wp_step))
 refine RW X hm hx hc ?_
 repeat (any_goals (first|assumption|wp_step))
include hB
omit hl hm in
theorem uZ{nameV:ze}{Q:Unit->zh->Prop}(hq:Q () ⟨h,g,d,t,os⟩):zq (zz prog w) A (checkBuiltinCall "BaseException.__getattribute__" ⟨[.ref a,nameV], []⟩) Q E ⟨h,g,d,t,os⟩:=by
 have hk:builtinKind "BaseException.__getattribute__" =some .slot:=by decide +kernel
 have hsplit:splitId "BaseException.__getattribute__" =some ("BaseException", "__getattribute__"):=by decide +kernel
 have L:=Yn (M:=zz prog w) X hB;have ha:=F.args_bexc_ga (.ref a) nameV;simp only[checkBuiltinCall,hk,hsplit];refine za ?_;unfold isInstance
 repeat (first|(with_reducible refine jJ hx ?_;rw[hc])|with_reducible refine L.at ?_|wp_step)
 exact hq
theorem Gm{tk:Tok}{R:Jl->zh->Prop}(hq:R (.ok (.ret (.ref C))) ⟨h,g,d,t,os⟩):
 ZC (zz prog w) A (.call (.builtin "BaseException.__getattribute__") ⟨[.ref a,.str "__class__" tk], []⟩) R ⟨h,g,d,t,os⟩:=
 codeAny_call_builtin F.excAttr_ValueError.ga.plain F.entry_bexc_ga (uZ X hB hx hc (QW X hm hl hx hc hq))
include hga hgn
theorem CY{tk:Tok}{Q:VSP}(hq:Q (.ref C) ⟨h,g,d,t,os⟩):zq (zz prog w) A (getAttrBy (.ref a) (.str "__class__" tk) false) Q E ⟨h,g,d,t,os⟩:=by
 have f3:=F.excAttr_ValueError.ga.bind (.ref a);have hx2:(Value.builtin "BaseException.__getattribute__" == Value.builtin "object.__getattribute__")=false:=by decide +kernel
 have hx1:(onTheHeap (Value.ref C)&&Value.builtin "BaseException.__getattribute__" == Value.builtin "object.__getattribute__")=false:=by rw[hx2];rfl
 have L1:=Yd (M:=zz prog w) X hga;have L2:=Yd (M:=zz prog w) X hgn
 repeat (any_goals (first|assumption|(with_reducible refine jJ hx ?_;rw[hc])|with_reducible refine L1.at ?_|with_reducible refine L2.at ?_|wp_step))
 refine Gm X hm hB hl hx hc ?_
 repeat (any_goals (first|assumption|wp_step))
theorem Dd{Q:Option ze->zh->Prop}(hq:Q (some (.ref C)) ⟨h,g,d,t+1,os⟩):zq (zz prog w) A (getAttr? (.ref a) "__class__") Q E ⟨h,g,d,t,os⟩:=by
 unfold getAttr? getAttrBy?
 repeat (any_goals (first|assumption|with_reducible apply CY X hm hB hl hga hgn hx hc|wp_step))
end
def XAt(a C:Addr)(h:Heap):Prop:=∃o,h.get? a=some o/\o.cls= .ref C
theorem Rp{K:zc}{a C:Addr}{cd:ClassData}(hcd:xE K C=some cd)(hm:jB K C (.type "object")=some true)(hB:jB K C (.type "BaseException")=some true)(hl:jx K (.ref C) "__class__" =some (some (.builtin "object.__class__")))
 (hga:jx K (.ref C) "__getattribute__" =some (some (.builtin "BaseException.__getattribute__"))) (hgn:jx K (.ref C) "__getattr__" =some none):PySem.W.KitX K (.ref a) (.ref C) (XAt a C) where
 ty:=λM h _ p=>by obtain⟨o,h1,h2⟩:=p;exact h2▸(PySem.W.Looks.ld h1).andThen .now
 it:=λ_ _ X _=>by
  unfold xE at hcd;split at hcd
  ·rename_i c' d' cd' sl' ho;intro A' Q' E' s' k q;unfold isType loadHead;exact za (wpAny_loadPart (k _ _ (X _ _ ho)) (zm q))
  ·cases hcd
 ne:=λh tp dd ou n sl X htp=>by
  refine jO.mpr λq=>?_;have e:C=tp:=Xu (beq_iff_eq.mp q);subst e;unfold xE at hcd;split at hcd
  ·rename_i c' d' cd' sl' ho;have z:=(X _ _ ho).symm.trans htp
   cases z
  ·cases hcd
 ca:=λ{_ _ _ _ _ s} X p k=>by obtain⟨h,g,d,t,os⟩:=s;obtain⟨o,h1,h2⟩:=p;exact Dd X hm hB hl hga hgn h1 h2 k
theorem EI{M:Model}{A:zL}{E:VSP}{K:zc}{h:Heap}{g:Array GenState}{d:Drawn}{t:Nat}{os:OsState}{a C B:Addr}{o:Obj}{Q:Bool->zh->Prop}(X:K.In h)(hx:h.get? a=some o)(hc:o.cls= .ref C)
 (hB:jB K B (.type "BaseException")=some true) (hcl:xE K B=some cd) (hty:yq K (.ref B)=some (.type "type")) {b:Bool} (hs:jz K (.ref C) (.ref B)=some b) (hq:Q b ⟨h,g,d,t,os⟩):zq M A (excMatches (.ref a) (.ref B)) Q E ⟨h,g,d,t,os⟩:=by
 have L1:=Yn (M:=M) X hB;have L2:=PySem.W.looks_subIn (M:=M) X hs;obtain⟨oB,hb,hbc⟩:=Option.map_eq_some_iff.mp (show (K.lookup B).map (·.cls)=some (.type "type")from hty);unfold xE at hcl;rw[hb]at hcl;obtain⟨c0,d0,dt,sl⟩:=oB;rcases dt with _|_|_|_|_|_|_|_|_|_|_|_|_|_<;>try (cases hcl;done)
 have hB':=X _ _ hb;have f:=tc_notTuple;unfold excMatches
 cases b
 all_goals repeat (first|(with_reducible refine jJ hx ?_;rw[hc])|(with_reducible refine jJ hB' ?_;rw[hbc])|with_reducible refine L1.at ?_|with_reducible refine L2.at ?_|wp_step)
 all_goals exact hq
end DL
namespace DL
open PySem PySem.Spec L2
open PyProof.Rows hiding St
section
variable{X:Cx}{om:PNS}{σ:St}{H:Hp}{s:zh}
theorem wH{M:Model}{A:zL}{E:VSP}{i:Nat}{x:Str}{pos:Pos}{Q:Unit->zh->Prop}(I:Inv X om σ H s)(hN:X.N.Nodup)(hi:X.N[i]? =some x)(hk:X.env.scope.names.lookup x=some .local)
 (h:∀s',Inv X om (σ.set i none) H s'->yV X.env.locals s.heap s'.heap->Q () s'):zq M A (do bindName X.env x .none;unbindBehindTheSuite X.env x pos) Q E s:=by
 obtain⟨m,hn,hl⟩:=id I.loc;have hcls:(X.env.scope.kind == .class||(X.env.scope.kind == .module&&X.env.locals != X.env.globals))=false:=by rw[I.ok.kind];rfl
 have hiσ:i<σ.length:=by rw[I.len];exact(jI.mp hi).1
 have cne:=I.cne;refine wpAny_nameGoes_keeps hk hn hcls λh' v hn' hs=>?_;obtain⟨oL,_,_,hoL,_⟩:=id hn;have tracked:HOk X.prog X.w H h':=λb ob e=>by
  refine(I.hok b ob e).stay (λc w' hc q=>(hs.2 c ?_).trans q) (λ_ q=>q) λ_ _ q=>q;rintro rfl;rcases hc with rfl|hc
  ·rw[I.free]at e;cases e
  ·rw[I.free]at hc;cases hc
 refine h _ ⟨I.ok,I.os,I.bare,⟨λb o e n hb hx=>?_,λb o e n hb hx=>?_,I.base.free,λb o e hx=>?_,I.base.tups,I.base.frzs,I.base.tbls⟩,⟨_,hn',λj y v' e1 e2 e3=>?_⟩,λy c e=>?_,I.free,I.freeC,λp hp=>?_,tracked,by simpa using I.len⟩ hs
 ·exact(hs.2 b (zu (zQ (zj e) I.ok.above))).trans (I.base.keep b o e n hb hx)
 ·obtain⟨sl,e1⟩:=I.base.slot b o e n hb hx;exact⟨sl,(hs.2 b (zu (zQ (zj e) I.ok.above))).trans e1⟩
 ·obtain⟨o',e1⟩:=I.base.there b o e hx;exact⟨o',(hs.2 b (zu (zQ (zj e) I.ok.above))).trans e1⟩
 ·by_cases hj:j=i
  ·subst hj;rw[zX hiσ]at e2
   cases e2
  ·rw[jb (Ne.symm hj)]at e2;obtain⟨u',r',q⟩:=hl j y v' e1 e2 e3;refine⟨u',r',?_⟩;rcases q with⟨k,e⟩|⟨k,c,e,z⟩
   ·refine .inl ⟨k,?_⟩;have:y≠x:=λe=>hj (gL hN e1 (e▸hi));simp[this,e]
   ·exact .inr ⟨k,c,e,z.sameBut hs (cne y c e)⟩
 ·obtain⟨w',z⟩:=I.cell y c e;exact⟨w',z.sameBut hs (cne y c e)⟩
 ·obtain⟨e,n,ne,nf,d⟩:=I.pin p hp;exact⟨(hs.2 p.1 ne).trans e,n,ne,nf,d⟩
def CxE(X:Cx)(om:PNS)(a:Addr)(oe:Obj):Cx:={X with A:=X.A.mark (some (.ref a)),calm:=false,xe:=λ_ _=>False,pn:=X.pn++om++[(a,oe)]}
theorem uO{a:Addr}{oe:Obj}{vs:Array ze}(I:Inv X om σ H s)(na:H a=none)(ha:s.heap.get? a=some oe)(hd:oe.data= .fields vs):Inv (CxE X om a oe) [] σ H s:=by
 refine⟨(λk=>⟨k.mod,k.kind,k.glob,k.blt,k.above,k.inj,k.has,k.cab,λz=>(nomatch z),k.frames,k.stk,k.exf,k.bs,k.bsz,k.noex,k.exfs,k.funs,k.frf,k.gd⟩:X.Ok->(CxE X om a oe).Ok) I.ok,I.os,I.bare,I.base,I.loc,I.cell,I.free,I.freeC,λp hp=>?_,I.hok,I.len⟩;rw[ji]at hp;rcases jr.mp hp with hp|hp
 ·exact I.pin p hp
 ·cases zt.mp hp
  refine⟨ha,na,λz=>?_,λz=>?_,λv z=>?_⟩
  ·obtain⟨m,⟨o',es,ep,ho',rz,_⟩,_⟩:=I.loc;have z:a=X.env.locals:=z;rw[<-z,ha]at ho';cases ho';rw[hd]at rz;cases rz
  ·obtain⟨_,o,ho,k⟩:=I.funs.mem z;have ho:s.heap.get? a=some o:=ho;rw[ha]at ho;cases ho;exact k vs hd
  ·have z:oe.data= .cell v:=z;rw[hd]at z;cases z
theorem lJ{a:Addr}{oe:Obj}(k:X.Ok)(I:Inv (CxE X om a oe) [] σ H s):Inv X om σ H s:=⟨k,I.os,I.bare,I.base,I.loc,I.cell,I.free,I.freeC,λp hp=>I.pin p (by rw[ji];exact yX _ hp),I.hok,I.len⟩
end
structure XJ(K:zc)(mg:Str->Option ze)(x m n1 n2 n3 n4:Str):Prop where
 ex:∃C B N1 N2 N3 N4,mg x=some (.ref C)/\mg m=some (.ref B)/\mg n1=some (.ref N1)/\mg n2=some (.ref N2)/\mg n3=some (.ref N3)/\mg n4=some (.ref N4)/\mg "ValueError" =none/\
  (∀a,PySem.W.KitX K (.ref a) (.ref C) (XAt a C))/\jB K B (.type "BaseException")=some true/\(∃cd,xE K B=some cd)/\yq K (.ref B)=some (.type "type")/\jz K (.ref C) (.ref B)=some true/\
  ya K (.ref C) (.type "ValueError")=some true/\yY K (.ref C) [.ref N1,.ref N2,.ref N3,.ref N4]=some false
def nL(K:zc)(a C:Addr):List V->Hp->VK->Prop:=λxs H Q=>
 (∃B b,xs= [.ref a,.ref B]/\ya K (.ref C) (.ref B)=some b/\Q (.bl b) H)\/(∃T b,xs= [.ref a,.ty T]/\ya K (.ref C) (.type T)=some b/\Q (.bl b) H)\/
 ∃q B1 B2 B3 B4 b,xs= [.ref a,.ref q]/\H q=some (.tup [.ref B1,.ref B2,.ref B3,.ref B4])/\yY K (.ref C) [.ref B1,.ref B2,.ref B3,.ref B4]=some b/\Q (.bl b) H
section
variable{Y:Cx}{a C:Addr}{oe:Obj}
theorem rV(hp:(a,oe)∈Y.pn)(hc:oe.cls= .ref C)(kx:PySem.W.KitX Y.K (.ref a) (.ref C) (XAt a C)):R7 Y (.builtin "isinstance") (nL Y.K a C):=by
 intro om s σ H xs us Q I r h;have hx:XAt a C s.heap:=⟨oe,(I.pin (a,oe) (yX _ hp)).1,hc⟩;rcases h with⟨B,b,rfl,e,q⟩|⟨T,b,rfl,e,q⟩|⟨t,B1,B2,B3,B4,b,rfl,ht,e,q⟩
 ·obtain⟨u,u',rfl,ru,ru'⟩:=CA r
  cases ru;cases ru'
  exact Xa kx I.kIn hx e (λz=>nomatch z) λtk=>⟨.bl b,H,I.tok tk,rfl,q⟩
 ·obtain⟨u,u',rfl,ru,ru'⟩:=CA r
  cases ru;cases ru'
  exact Xa kx I.kIn hx e (λz=>nomatch z) λtk=>⟨.bl b,H,I.tok tk,rfl,q⟩
 ·obtain⟨u,u',rfl,ru,ru'⟩:=CA r
  cases ru;cases ru'
  obtain⟨ou,rr,⟨⟨cls,dd,data,sl⟩,h1,h2,n,h3⟩,_⟩:=I.tuple (.inl (.inl ht));simp only at h2 h3;subst h2 h3;have hi:ou= [Value.ref B1,.ref B2,.ref B3,.ref B4]:=by
   rcases rr with _|⟨r1,z⟩;rcases z with _|⟨r2,z⟩;rcases z with _|⟨r3,z⟩;rcases z with _|⟨r4,z⟩;rcases z with _|_
   cases r1;cases r2;cases r3;cases r4;rfl
  exact PySem.W.kia_tup kx I.kIn hx h1 (by rw[hi];exact e) (λz=>nomatch z) λtk=>⟨.bl b,H,I.tok tk,rfl,q⟩
end
def aS(i:Nat)(a b c:Bool):Fs:=λσ G=>some (.ok (.nx (σ.set i (some (.ref G.length)))),G++[.lst [.bl a,.bl b,.bl c]])
def AQ(x:Str)(i:Nat)(f g:Fs):Fs:=λσ G=>match f σ G with
|some (.error y,G')=>if y=x then (match σ[i]? with|some none=>g σ G'|_=>none)else none
|r=>r
theorem gc:zU "ValueError" =some (.type "ValueError"):=by decide +kernel
section
variable{X:Cx}{om:PNS}{S:St}{H:Hp}{s:zh}{a C:Addr}{oe:Obj}{ie ik:Nat}{x m n1 n2 n3 n4 en kn:Str}{N1 N2 N3 N4:Addr}{D:f8}
 {p0 p1 p2 p3 p4 p5 p6 p7 p8 p9 p10 q0 q1 q2 q3 q4 q5 q6 q7 q9 q10 q11 q12:Pos} {q8:Nat}
theorem sW(I:Inv (CxE X om a oe) [] S H s)(hcl:oe.cls= .ref C)(kx:PySem.W.KitX X.K (.ref a) (.ref C) (XAt a C))(hi:X.mg "isinstance" =none)(hv:X.mg "ValueError" =none)
 (hmx:X.mg x=some (.ref C)) (hm1:X.mg n1=some (.ref N1)) (hm2:X.mg n2=some (.ref N2)) (hm3:X.mg n3=some (.ref N3)) (hm4:X.mg n4=some (.ref N4))
 (k1:ya X.K (.ref C) (.ref C)=some true) (k2:ya X.K (.ref C) (.type "ValueError")=some true) (k3:yY X.K (.ref C) [.ref N1,.ref N2,.ref N3,.ref N4]=some false)
 (hN:X.N.Nodup) (eN:X.N[ie]? =some en) (kN:X.N[ik]? =some kn) (ev:Vis X.env.scope en) (kv:Loc X.env.scope kn) (kf:X.fn kn=true\/X.env.scope.names.lookup kn=some .local)
 (gi:Gl X "isinstance") (gv:Gl X "ValueError") (gx:Gl X x) (g1:Gl X n1) (g2:Gl X n2) (g3:Gl X n3) (g4:Gl X n4)
 (de:(en==("__debug__" :Str))=false) (ce:(en==("__classdict__" :Str))=false) (dk:(kn==("__debug__" :Str))=false) (ck:(kn==("__classdict__" :Str))=false) (dx:(x==("__debug__" :Str))=false) (d1:(n1==("__debug__" :Str))=false) (d2:(n2==("__debug__" :Str))=false) (d3:(n3==("__debug__" :Str))=false) (d4:(n4==("__debug__" :Str))=false)
 (hs1:Ya [.Name kn p0] (.List [.Call (.Name "isinstance" p1) [.Name en p2,.Name x p3] [] p4,.Call (.Name "isinstance" p5) [.Name en p6,.Name "ValueError" p7] [] p8] p9) p10.line X.env=pure false)
 (hw1:Yb [.Name kn p0] (.List [.Call (.Name "isinstance" p1) [.Name en p2,.Name x p3] [] p4,.Call (.Name "isinstance" p5) [.Name en p6,.Name "ValueError" p7] [] p8] p9) X.env=pure none)
 (hs2:YT (.Call (.Attribute (.Name kn q0) "append" q1) [.Call (.Name "isinstance" q2) [.Name en q3,.Tuple [.Name n1 q4,.Name n2 q5,.Name n3 q6,.Name n4 q7] q8 q9] [] q10] [] q11) none q12.line X.env=pure false)
 (hl2:(q1.endLine==q11.line)=true)
 (he:S[ie]? =some (some (.ref a))) (qo:ie≠ik) (hD:∀q t,H q=none->upd H q (.lst [.bl true,.bl true]) t=none->D.nx (S.set ik (some (.ref q))) (upd (upd (upd H q (.lst [.bl true,.bl true])) t (.tup [.ref N1,.ref N2,.ref N3,.ref N4])) q (.lst [.bl true,.bl true,.bl false]))):
 zq (zz X.prog X.w) (X.A.mark (some (.ref a))) (execs [.Assign [.Name kn p0] (.List [.Call (.Name "isinstance" p1) [.Name en p2,.Name x p3] [] p4,.Call (.Name "isinstance" p5) [.Name en p6,.Name "ValueError" p7] [] p8] p9) p10,
  .Expr (.Call (.Attribute (.Name kn q0) "append" q1) [.Call (.Name "isinstance" q2) [.Name en q3,.Tuple [.Name n1 q4,.Name n2 q5,.Name n3 q6,.Name n4 q7] q8 q9] [] q10] [] q11) q12] X.env) (SP (CxE X om a oe) [] D) (λ_ _=>False) s:=by
 have hp:(a,oe)∈(CxE X om a oe).pn:=zG _ (zt.mpr rfl);have cr:R7 (CxE X om a oe) (.builtin "isinstance") (nL X.K a C):=rV hp hcl kx;have pv:∀p,PE (CxE X om a oe) (.Name en p) (VA ie):=λp=>MC eN ev de ce;have one:∀(p1 p2 p4:Pos) (e:Expr) (v:V),J9 e=true->PE (CxE X om a oe) e (tC v)->PE (CxE X om a oe) (.Call (.Name "isinstance" p1) [.Name en p2,e] [] p4) (tCB (nL X.K a C) (eC (VA ie) (eC (tC v) KF))):=λp1 p2 p4 e v hn h=>
  FK cr gi hi FJ (T4 (pv _) (T4 h HB (N0 hn)) (N0 rfl)) (by decide) (by decide) (N0 rfl) (by rw[M5];exact Q3 (by simp[hn]))
 have T1:=VI (X:=CxE X om a oe) (pos:=p10) (GJ (pos:=p9) (T4 (one p1 p2 p4 _ (.ref C) rfl (AE gx hmx rfl dx)) (T4 (one p5 p6 p8 _ (.ty "ValueError") rfl (SM gv hv gc rfl (by decide) (by decide))) HB (N0 rfl)) (N0 rfl))) (OP hN kN kv kf (pos:=p0)) hs1 hw1 rfl;have ptup:PE (CxE X om a oe) (.Tuple [.Name n1 q4,.Name n2 q5,.Name n3 q6,.Name n4 q7] q8 q9) (pR (eC (tC (.ref N1)) (eC (tC (.ref N2)) (eC (tC (.ref N3)) (eC (tC (.ref N4)) KF))))):=
  rP (T4 (AE g1 hm1 rfl d1) (T4 (AE g2 hm2 rfl d2) (T4 (AE g3 hm3 rfl d3) (T4 (AE g4 hm4 rfl d4) HB (N0 rfl)) (N0 rfl)) (N0 rfl)) (N0 rfl))
 have isT:PE (CxE X om a oe) (.Call (.Name "isinstance" q2) [.Name en q3,.Tuple [.Name n1 q4,.Name n2 q5,.Name n3 q6,.Name n4 q7] q8 q9] [] q10) _:=
  FK cr gi hi FJ (T4 (pv q3) (T4 ptup HB (N0 rfl)) (N0 rfl)) (by decide) (by decide) (N0 rfl) (by rw[M5];exact Q3 rfl)
 have T2:=RN (X:=CxE X om a oe) (pos:=q12) (eI (X:=CxE X om a oe) (cpos:=q11) (apos:=q1) XT ZS XF cI (MC (pos:=q0) kN (kv.elim .inl (λz=>.inr (.inl z))) dk ck) (T4 isT HB (N0 rfl)) rfl rfl hl2 (N0 rfl) rfl) hs2;refine wO T1 (IS T2) [] s S H D I ?_;refine⟨.ref a,he,?_⟩;refine .inl ⟨C,true,rfl,k1,?_⟩;refine⟨.ref a,he,?_⟩;refine .inr (.inl ⟨"ValueError",true,rfl,k2,?_⟩);refine⟨by decide,λq hq=>?_⟩;have il:ik<S.length:=by rw[I.len];exact(jI.mp kN).1
 refine⟨.ref q,zX il,.inl ⟨rfl, [.bl true,.bl true],.inl (.inl v9)⟩,?_⟩;refine⟨.ref a,by rw[jb (Ne.symm qo)];exact he,?_⟩;refine⟨show 4<=zi by decide,λt ht=>?_⟩;refine .inr (.inr ⟨t,N1,N2,N3,N4,false,rfl,v9,k3,?_⟩);have qt:q≠t:=λz=>by rw[<-z,v9]at ht;cases ht
 refine⟨q, [.bl true,.bl true],.bl false,rfl,rfl,by rw[m7 qt];exact v9,by decide,?_⟩;exact hD q t hq ht
end
theorem AV{G:DH}{o u:DO}:(G++[o]).set G.length u=G++[u]:=by rw[JS (h:=zg _),JR];rfl
section
variable{X:Cx}{ie ik:Nat}{x m n1 n2 n3 n4 en kn:Str}{np hp pos p0 p1 p2 p3 p4 p5 p6 p7 p8 p9 p10 q0 q1 q2 q3 q4 q5 q6 q7 q9 q10 q11 q12:Pos}{q8:Nat}{body:List Stmt}{f:Fs}
theorem Wx(hst:X.stack=X.env::X.outer)(hfr:X.env.frame=some X.env.locals)(rn:X.ex= [])(hC:XJ X.K X.mg x m n1 n2 n3 n4)(hB:BLs X.mg)
 (eN:X.N[ie]? =some en) (kN:X.N[ik]? =some kn) (el:X.env.scope.names.lookup en=some .local) (kv:Loc X.env.scope kn) (kf:X.fn kn=true\/X.env.scope.names.lookup kn=some .local) (hN:X.N.Nodup)
 (gi:Gl X "isinstance") (gv:Gl X "ValueError") (gm:Gl X m) (gx:Gl X x) (g1:Gl X n1) (g2:Gl X n2) (g3:Gl X n3) (g4:Gl X n4)
 (hd:([en,kn,m,x,n1,n2,n3,n4].all λz=> !(z==("__debug__" :Str))&&!(z==("__classdict__" :Str)))=true)
 (hs1:Ya [.Name kn p0] (.List [.Call (.Name "isinstance" p1) [.Name en p2,.Name x p3] [] p4,.Call (.Name "isinstance" p5) [.Name en p6,.Name "ValueError" p7] [] p8] p9) p10.line X.env=pure false) (hw1:Yb [.Name kn p0] (.List [.Call (.Name "isinstance" p1) [.Name en p2,.Name x p3] [] p4,.Call (.Name "isinstance" p5) [.Name en p6,.Name "ValueError" p7] [] p8] p9) X.env=pure none)
 (hs2:YT (.Call (.Attribute (.Name kn q0) "append" q1) [.Call (.Name "isinstance" q2) [.Name en q3,.Tuple [.Name n1 q4,.Name n2 q5,.Name n3 q6,.Name n4 q7] q8 q9] [] q10] [] q11) none q12.line X.env=pure false) (hl2:(q1.endLine==q11.line)=true) (qo:ie≠ik) (hb:BAt X body f):
 DS X ZF (.Try body [.ExceptHandler (some (.Name m np)) (some en) [.Assign [.Name kn p0] (.List [.Call (.Name "isinstance" p1) [.Name en p2,.Name x p3] [] p4,.Call (.Name "isinstance" p5) [.Name en p6,.Name "ValueError" p7] [] p8] p9) p10,.Expr (.Call (.Attribute (.Name kn q0) "append" q1) [.Call (.Name "isinstance" q2) [.Name en q3,.Tuple [.Name n1 q4,.Name n2 q5,.Name n3 q6,.Name n4 q7] q8 q9] [] q10] [] q11) q12] hp] [] [] pos) (AQ x ie f (aS ik true true false)):=by
 simp only[jC,List.all_nil,Bool.and_true,zS,yD]at hd;obtain⟨⟨de,ce⟩,⟨dk,ck⟩,⟨dm,_⟩,⟨dx,_⟩,⟨d1,_⟩,⟨d2,_⟩,⟨d3,_⟩,⟨d4,_⟩⟩:=hd;obtain⟨C,B,N1,N2,N3,N4,mx,mm,m1,m2,m3,m4,mv,kx,hBB,⟨cd,hcB⟩,htB,hsB,k2,k3⟩:=hC.ex;have k1:ya X.K (.ref C) (.ref C)=some true:=by unfold ya;rw[if_pos (beq_self_eq_true _)]
 refine⟨λom s σ H D I hL=>?_⟩;obtain⟨X9,μ,G,sr,hr,p⟩:=hL;refine XZ (jg (hb.h om σ (λc _ H1=>c= .ref C/\∃ X0 G1,Ext μ H X0 H1/\j9 (wc X) X0 G1 H1/\X9[ie]? =some none/\c7 (wc X) ZF X0 H1 (aS ik true true false X9 G1) (λfl X2 _ H'=>a9 (wc X) D fl X2 H')) s H D (nK I) ⟨X9,μ,G,sr,hr,?_⟩) (λfl s1 h1=>?_) (λe s1 h1=>?_))
 ·unfold AQ at p;rcases r:f X9 G with _|⟨r0,G1⟩
  ·rw[r]at p;exact p
  ·rw[r]at p
   cases r0 with
   |ok fl=>exact p
   |error y=>
     intro X0 H1 x1 h1;dsimp only at p;split at p
     ·rename_i e;subst e;split at p
      ·rename_i e2;exact⟨C,mx,rfl,X0,G1,x1,h1,e2,p.from x1⟩
      ·exact p.elim
     ·exact p.elim
 ·cases fl with
  |next=>
    obtain⟨X1,H',I',k⟩:=h1;exact yZ ⟨X1,H',L4 I',k⟩
  |brk=>
    obtain⟨X1,H',I',k⟩:=h1;exact⟨X1,H',L4 I',k⟩
  |cont=>
    obtain⟨X1,H',I',k⟩:=h1;exact⟨X1,H',L4 I',k⟩
  |ret u=>
    obtain⟨v,X1,H',I',k⟩:=h1;exact⟨v,X1,H',L4 I',k⟩
 ·obtain⟨a,T,cls,H',rfl,I',ha,hT,pn,na,nT,tr,rfl,X0,G1,ex,hr1,de0,p1⟩:=h1;have kk:=I'.ok;have fr:X.A.frames=some (X.env::X.outer):=hst▸I'.ok.frames;have st:s1.heap.FunFrames X.base (X.env::X.outer):=hst▸I'.stack;refine mI (base:=X.base) fr st hfr tr λh' h1 l1 sz l2 t2=>?_;rw[<-hst]at l2;have kp:∀b o,s1.heap.get? b=some o->b≠a->b≠T->b∉frs X.stack->h'.get? b=some o:=λb o q na nT nf=>l2.keep b o (l1.keep b o q (λz=>nomatch z) na nT) nf na (zu (zj q));have sl:∀b o,s1.heap.get? b=some o->b≠a->b≠T->b∈frs X.stack->∃sl,h'.get? b=some {o with slots:=sl}:=λb o q na nT nf=>l2.slot b o (l1.keep b o q (λz=>nomatch z) na nT) nf na (zu (zj q));have I2:Inv X om σ H' {s1 with heap:=h'}:=fA I' ha hT pn na nT tr.df kp sl;refine YZ (YD (U9 (X:=CxH X a) (kG I2) gm mm ?_ dm)) (by intro q;cases q);obtain⟨oe,vs,oT,ts,he,hc,_⟩:=id t2;refine EI I2.kIn he hc hBB hcB htB hsB ?_;refine JV (fly (fr:=none) t2 λh3 l3 t3=>?_);have I3:Inv X om σ H' {s1 with heap:=h3}:=fA I' ha hT pn na nT tr.df (λb o q na nT nf=>l3.keep b o (kp b o q na nT nf) (λz=>nomatch z) na (zu (zj q))) λb o q na nT nf=>by
   obtain⟨l,z⟩:=sl b o q na nT nf;exact⟨l,l3.keep b _ z (λz=>nomatch z) na (zu (zj q))⟩
  obtain⟨oe,vs,oT,ts,he,hc,hdf,_⟩:=id t3;have I4:Inv (CxE X om a oe) [] σ H' {s1 with heap:=h3}:=uO I3 na he hdf;have iσ:ie<σ.length:=by rw[I3.len];exact(jI.mp eN).1
  refine oP (X:=CxE X om a oe) I4 hN eN (.inl el) (v:=.ref a) (u:=.ref a) rfl (λs5 I5=>?_) (.inr el);refine jg (sW (D:={rt:=D.rt,nx:=λσ5 H5=>∃ μ5 G5,Ext X0 H' μ5 H5/\j9 (wc X) μ5 G5 H5/\G5=G1++[.lst [.bl true,.bl true,.bl false]]/\v5 (wc X) μ5 H5 (X9.set ik (some (.ref G1.length))) (σ5.set ie none)}) I5 hc (kx a) (hB.h "isinstance" (by decide)) mv mx m1 m2 m3 m4 k1 k2 k3 hN eN kN (.inl el) kv kf gi gv gx g1 g2 g3 g4 de ce dk ck dx d1 d2 d3 d4 hs1 hw1 hs2 hl2 (zX iσ) qo λq t hq ht=>?_) (λfl s6 h6=>?_) λ_ _ z=>z.elim
  ·have qt:q≠t:=λz=>by rw[<-z,v9]at ht;cases ht
   have x1:Ext X0 H' (X0++[q]) (upd H' q (.lst [.bl true,.bl true])):=Ext.add hq _;have h1:=hr1.new (o:=.lst [.bl true,.bl true]) hq ⟨[.bl true,.bl true],v9,.cons ofB (.cons ofB .nil)⟩;have x2:Ext (X0++[q]) (upd H' q (.lst [.bl true,.bl true])) (X0++[q]) (upd (upd H' q (.lst [.bl true,.bl true])) t (.tup [.ref N1,.ref N2,.ref N3,.ref N4])):=Ext.lay ht _;have h2:=h1.same x2 λb o e _=>by rw[m7 (m8 e ht)];exact e
   have e2:upd (upd H' q (.lst [.bl true,.bl true])) t (.tup [.ref N1,.ref N2,.ref N3,.ref N4]) q=some (.lst [.bl true,.bl true]):=by rw[m7 qt];exact v9
   have x3:Ext (X0++[q]) (upd (upd H' q (.lst [.bl true,.bl true])) t (.tup [.ref N1,.ref N2,.ref N3,.ref N4])) (X0++[q]) (upd (upd (upd H' q (.lst [.bl true,.bl true])) t (.tup [.ref N1,.ref N2,.ref N3,.ref N4])) q (.lst [.bl true,.bl true,.bl false])):=
    Ext.mut (zG _ (zt.mpr rfl)) e2 (λ_ z=>nomatch z) (λ_ _ z=>nomatch z) _
   have gl:(G1++[DO.lst [.bl true,.bl true]])[G1.length]? =some (.lst [.bl true,.bl true]):=by simp
   have ml:(X0++[q])[G1.length]? =some q:=by rw[<-hr1.len];simp
   have h3:=h2.set (o':=.lst [.bl true,.bl true,.bl false]) gl (λz=>z) ml x3 (λz=>z) ⟨[.bl true,.bl true,.bl false],v9,.cons ofB (.cons ofB (.cons ofB .nil))⟩;rw[AV]at h3;have xx:=(x1.trans x2).trans x3;refine⟨X0++[q],_,xx,h3,rfl,?_⟩;have s0:v5 (wc X) (X0++[q]) _ X9 σ:=(sr.mono ex).mono xx;have rq:d7 (wc X) (X0++[q]) (upd (upd (upd H' q (.lst [.bl true,.bl true])) t (.tup [.ref N1,.ref N2,.ref N3,.ref N4])) q (.lst [.bl true,.bl true,.bl false])) (.ref G1.length) (.ref q):=by unfold d7;exact⟨q,ml,rfl⟩
   have s1:=s0.put rq ik;refine⟨by simpa using s1.1,λj d e=>?_⟩;have je:j≠ie:=λz=>by rw[z,jb (Ne.symm qo),de0]at e;cases e
   obtain⟨v,e1,r1⟩:=s1.2 j d e;refine⟨v,?_,r1⟩;rw[jb (Ne.symm je),List.set_comm _ _ qo,jb (Ne.symm je)];exact e1
  ·cases fl with
   |next=>
     obtain⟨X1,H2,I6,μ5,G5,xx,h5,rfl,s5⟩:=h6;exact wH (lJ kk I6) hN eN el λs7 I7 _=>⟨_,H2,I7,p1 μ5 H2 xx h5 _ s5⟩
   |brk=>
     obtain⟨X1,H2,I6,k⟩:=h6;exact k.elim
   |cont=>
     obtain⟨X1,H2,I6,k⟩:=h6;exact k.elim
   |ret u=>
     obtain⟨v,X1,H2,I6,k⟩:=h6;exact wH (lJ kk I6) hN eN el λs7 I7 _=>⟨v,_,H2,I7,k⟩
end
section
variable{K:zc}{mg:Str->Option ze}{h:Heap}{C B N:Addr}{x m n n1 n2 n3 n4:Str}
structure XN(K:zc)(C:Addr)(n:Str):Prop where
 ex:∃N,jv K zF n=some (some (.ref N))/\yd K N=true/\yq K (.ref N)=some (.type "type")/\jz K (.ref C) (.ref N)=some false
theorem XN.of(a:jv K zF n=some (some (.ref N)))(b:yd K N=true)(c:yq K (.ref N)=some (.type "type"))(d:jz K (.ref C) (.ref N)=some false):XN K C n:=⟨N,a,b,c,d⟩
theorem XN.one(c:jz K (.ref C) (.ref C)=some true)(h1:yd K N=true)(h2:yq K (.ref N)=some (.type "type"))(h3:jz K (.ref C) (.ref N)=some false):ya K (.ref C) (.ref N)=some false:=by unfold ya;rw[if_neg (λz=>by rw[beq_iff_eq]at z;rw[<-z,c]at h3;cases h3)];unfold PySem.W.kitCls;dsimp only;unfold yd at h1;rw[if_pos (by rw[h1,h2];rfl)];exact h3
structure XJI(K:zc)(x m n1 n2 n3 n4:Str):Prop where
 ex:∃C B,jv K zF x=some (some (.ref C))/\jv K zF m=some (some (.ref B))/\jv K zF "ValueError" =some none/\yd K C=true/\jB K C (.type "object")=some true/\
  jB K C (.type "BaseException")=some true/\jx K (.ref C) "__class__" =some (some (.builtin "object.__class__"))/\jx K (.ref C) "__getattribute__" =some (some (.builtin "BaseException.__getattribute__"))/\jx K (.ref C) "__getattr__" =some none/\
  jB K B (.type "BaseException")=some true/\yd K B=true/\yq K (.ref B)=some (.type "type")/\jz K (.ref C) (.ref B)=some true/\jz K (.ref C) (.type "ValueError")=some true/\jz K (.ref C) (.ref C)=some true/\XN K C n1/\XN K C n2/\XN K C n3/\XN K C n4
theorem XJI.of(a:jv K zF x=some (some (.ref C)))(b:jv K zF m=some (some (.ref B)))(c:jv K zF "ValueError" =some none)(d:yd K C=true)(e:jB K C (.type "object")=some true)
 (f:jB K C (.type "BaseException")=some true) (g:jx K (.ref C) "__class__" =some (some (.builtin "object.__class__"))) (h:jx K (.ref C) "__getattribute__" =some (some (.builtin "BaseException.__getattribute__"))) (i:jx K (.ref C) "__getattr__" =some none)
 (j:jB K B (.type "BaseException")=some true) (k:yd K B=true) (l:yq K (.ref B)=some (.type "type")) (o:jz K (.ref C) (.ref B)=some true) (p:jz K (.ref C) (.type "ValueError")=some true) (q:jz K (.ref C) (.ref C)=some true)
 (r:XN K C n1/\XN K C n2/\XN K C n3/\XN K C n4):XJI K x m n1 n2 n3 n4:=⟨C,B,a,b,c,d,e,f,g,h,i,j,k,l,o,p,q,r⟩
theorem XJI.ok(c:XJI K x m n1 n2 n3 n4)(X:K.In h)(G:h.Ns zF mg):XJ K mg x m n1 n2 n3 n4:=by
 obtain⟨C,B,e1,e2,e3,e4,e5,e6,e7,e8,e9,e10,e11,e12,e13,e14,e15,⟨N1,a1,a2,a3,a4⟩,⟨N2,b1,b2,b3,b4⟩,⟨N3,c1,c2,c3,c4⟩,⟨N4,d1,d2,d3,d4⟩⟩:=c.ex;obtain⟨cd,e4⟩:=yn.mp e4;obtain⟨cB,e11⟩:=yn.mp e11;refine⟨C,B,N1,N2,N3,N4,jT X G e1,jT X G e2,jT X G a1,jT X G b1,jT X G c1,jT X G d1,JL X G e3,λa=>Rp e4 e5 e6 e7 e8 e9,e10,⟨cB,e11⟩,e12,e13,?_,?_⟩
 ·unfold ya;rw[if_neg (by rw[beq_iff_eq];exact λz=>nomatch z)];unfold PySem.W.kitCls;dsimp only;rw[if_pos (by decide +kernel)];exact e14
 ·unfold yY;rw[XN.one e15 a2 a3 a4];unfold yY;rw[XN.one e15 b2 b3 b4];unfold yY;rw[XN.one e15 c2 c3 c4];unfold yY;rw[XN.one e15 d2 d3 d4];rfl
end
theorem Kc(a:ze):argsOk "max" ⟨[a], []⟩:=by unfold argsOk;kernel_rfl
section
variable{prog:zB}{w:zI}{A:zL}{E:VSP}
set_option maxHeartbeats 1000000 in
theorem Rb(hh:A.in1.handled=none)(hlI:l≠I)(hSI:S≠I)(hSl:S≠l)(hi:IntsAre vs ns):
 ∀k j s c pi old,vs.length-j=k->j<=vs.length->(s.heap.IsListIter I l j/\s.heap.IsList l vs.toArray)->s.heap.get? S=some (jF "list" old c)->ii pi old->(pi=none->j<ns.length)->
 (∀v h' tk,gR ((ns.drop j).foldl (LG) pi) v->(∀b o,b≠I->b≠S->s.heap.get? b=some o->h'.get? b=some o)->R (.ok (.ret v)) {s with heap:=h',toks:=tk})->
 ZC (zz prog w) A (.builtin "max.loop" ⟨[.ref I,.none,.ref S],([]:List (Str×ze))⟩) R s:=by
 have ow:=hi.length;have W:=Walks.list (prog:=prog) (w:=w) hh I l hlI vs.toArray;have n1:(YM "max" ++ YM ".loop" :String)= "max.loop":=by decide
 have n2:(YM "min" ++ YM ".loop" :String)= "min.loop":=by decide
 all_goals
  intro k
  induction k with
  |zero=>
    intro j s c pi old hk hj hst hS ho qo hR;have hd:ns.drop j= []:=JE (by lia);rw[hd]at hR
    first|refine jY F.entry_max_loop ?_|refine jY F.entry_min_loop ?_
    first|rw[jG xJ _]|rw[jG Zf _]
    refine za (yg hS rfl ?_);refine za (YO (W.done s _ _ (by rw[zn,show vs.length=j by lia];exact hst) λh' tk sw=>?_));have td:=sw S _ (by simpa using hSI) hS;rcases pi with _|b
    ·exact absurd (qo rfl) (by lia)
    ·obtain⟨t,t',rfl⟩:=ho;refine za (Jv td rfl (za (xX (zm ?_))));exact hR _ _ tk ⟨t,rfl⟩ λb o b1 b2 e=>(js _ _ (Ne.symm b2)).trans (sw b o (by simpa using b1) e)
  |succ k ih=>
    intro j s c pi old hk hj hst hS ho qo hR;have pj:j<ns.length:=by lia
    have hd:ns.drop j=ns[j]::ns.drop (j+1):=xG pj;rw[hd]at hR
    first|refine jY F.entry_max_loop ?_|refine jY F.entry_min_loop ?_
    first|rw[jG xJ _]|rw[jG Zf _]
    refine za (yg hS rfl ?_);refine za (YO (W.item j s _ _ (by rw[zn];lia) hst λv h' tk hP hst' sw=>?_));have td:=sw S _ (by simpa using hSI) hS;obtain⟨t0,e0⟩:=hi.get j _ (zr pj);have ev:v= .int ns[j] t0:=by
     have hP':vs[j]? =some v:=by simpa using hP
     rw[e0]at hP';exact(jH hP').symm
    subst ev;have keep:∀ {f:Array ze->Array ze} (b:Addr) (o:Obj),b≠S->h'.get? b=some o->(h'.update S (jV f)).get? b=some o:=λb o hb e=>(js _ _ (Ne.symm hb)).trans e;have stay:∀ {f:Array ze->Array ze},(h'.update S (jV f)).IsListIter I l (j+1)/\(h'.update S (jV f)).IsList l vs.toArray:=⟨hst'.1.at λo e=>keep _ o hSI.symm e,hst'.2.at λo e=>keep _ o hSl.symm e⟩;rcases pi with _|b
    ·cases ho
     refine za (zm (za (Jv td rfl ?_)))
     first|rw[n1]|rw[n2]
     refine zm ⟨yS (by first|exact xJ|exact Zf) _,ih (j+1) _ _ (some ns[j]) _ (by lia) (by lia) stay (jN _ td rfl) ⟨t0,t0,rfl⟩ (λz=>nomatch z) λv h2 tk2 o2 k2=>?_⟩;exact hR v h2 tk2 o2 λb o b1 b2 e=>k2 b o b1 b2 (keep b o b2 (sw b o (by simpa using b1) e))
    ·obtain⟨t,t',rfl⟩:=ho;refine za (zm (za (YO (jQ (za ?_)))))
     first|with_reducible refine tV ?_|with_reducible refine Mq ?_
     refine za (jQ (yH (za (xX (zm ?_)))));split<;>rename_i hb
     ·rw[List.foldl_cons]at hR
      first|rw[show LG (some b) ns[j]=some ns[j]from congrArg some (if_pos (of_decide_eq_true hb))]at hR|rw[show LN (some b) ns[j]=some ns[j]from congrArg some (if_pos (of_decide_eq_true hb))]at hR
      refine za (Jv td rfl (za (xX ?_)))
      first|rw[n1]|rw[n2]
      refine zm ⟨yS (by first|exact xJ|exact Zf) _,ih (j+1) _ _ (some ns[j]) _ (by lia) (by lia) stay (jN _ td rfl) ⟨t0,t0,rfl⟩ (λz=>nomatch z) λv h2 tk2 o2 k2=>?_⟩;exact hR v h2 tk2 o2 λb o b1 b2 e=>k2 b o b1 b2 (keep b o b2 (sw b o (by simpa using b1) e))
     ·rw[List.foldl_cons]at hR
      first|rw[show LG (some b) ns[j]=some b from congrArg some (if_neg (of_decide_eq_false (jO.mpr hb)))]at hR|rw[show LN (some b) ns[j]=some b from congrArg some (if_neg (of_decide_eq_false (jO.mpr hb)))]at hR
      refine za (xX ?_)
      first|rw[n1]|rw[n2]
      refine zm ⟨yS (by first|exact xJ|exact Zf) _,ih (j+1) _ _ (some b) _ (by lia) (by lia) hst' td ⟨t,t',rfl⟩ (λz=>nomatch z) λv h2 tk2 o2 k2=>?_⟩;exact hR v h2 tk2 o2 λb o b1 b2 e=>k2 b o b1 b2 (sw b o (by simpa using b1) e)
theorem Pg(hh:A.in1.handled=none)(hl:s.heap.IsList l vs.toArray)(hi:IntsAre vs ns)(qo:ns≠ [])
 (hQ:∀v h' tk,gR (dH ns) v->(∀b o,s.heap.get? b=some o->h'.get? b=some o)->Q v {s with heap:=h',toks:=tk}):zq (zz prog w) A (call (.builtin "max") [.ref l] ([]:List (Str×ze))) Q E s:=by
 have pj:l<s.heap.objs.size:=by obtain⟨_,e,_⟩:=hl;exact zj e
 have hname:(YM "max" ++ YM ".loop" :String)= "max.loop":=by decide
 refine kmb_tree F.kind_max F.plain_max F.entry_max (Kc _) ?_;refine za (wpAny_of_eq (show Builtin.Builtins.bindParams "max" ["key", "default"] 0 ⟨[],([]:List (Str×ze))⟩=pure [none,none]from rfl) (za (zm (za (Za hl (za (wpAny_newList ?_ (jl _))))))));rw[hname];have hS:∀o,(s.heap.push o).objs.size=s.heap.objs.size+1:=λo=>size_push' ..;refine zm ⟨yS xJ _,Rb hh (zu pj) (by rw[hS];exact xp (ZT _)) (by rw[hS];exact xp (xz pj)) hi _ 0 _ 0 none #[] rfl (jl _) ⟨⟨_,zf _ (zy _ rfl),rfl,rfl⟩,(hl.push _).push _⟩ (zy _ rfl) rfl (λ_=>List.length_pos_iff.mpr qo) λv h' tk o k=>?_⟩;exact hQ v h' tk o λb o e=>k b o (zu (zj e)) (by rw[hS];exact zu (xz (zj e))) (zf _ (zf _ e))
end
def LS:List D->M D:=λds=>match ds with
|[d]=>mQ d >>= λns=>match dH ns with
  |some b=>pure (.int b)
  |none=>M.stuck
|_=>M.stuck
theorem qb:dH []=none:=rfl
theorem Tp(hc:X.calm=true):R9 X Z (.builtin "max") LS:=⟨by
 intro om s σ H xs us Q I r ov;obtain⟨ds,μ,G,rl,hr,p⟩:=ov;rcases ds with _|⟨d,_|⟨_,_⟩⟩<;>try exact p.elim
 obtain⟨v,rfl,rd⟩:=S2 rl;obtain⟨u,rfl,ru⟩:=S3 r;obtain⟨l,ns,a,ws,rfl,rll,sq,en,p2⟩:=Vx hr rd p
 cases ru
 obtain⟨ou,rr,pl,hz⟩:=I.list sq;obtain⟨n1,n2⟩:=TQ en rll rr;rcases hm:dH ns with _|b
 ·rw[hm]at p2;exact p2.elim
 ·rw[hm]at p2;refine Pg (I.ok.hd hc) pl.isList (KL n1 n2) (λz=>by rw[z,qb]at hm;cases hm) λv h' tk ho hk=>?_;rw[hm]at ho;obtain⟨t,rfl⟩:=ho;exact⟨.int b,H,I.kept hk,⟨t,rfl⟩,c7.ok p2 hr _ (by unfold d7;rfl)⟩⟩
theorem vW(h:X.calm=true):BD LS "max" X Z:=⟨.inl ⟨_,Tp h,dX⟩⟩
end DL
namespace DL
open PySem PySem.Spec
inductive Rc(h:Heap):Addr->Addr->Prop
|refl {a}:Rc h a a
|step {a o vs b c}:h.get? a=some o->o.data= .fields vs->vs[2]? =some (.ref b)->Rc h b c->Rc h a c
theorem Rc.on{h:Heap}{o p:Addr}{oo vs}(q:h.get? o=some oo)(d:oo.data= .fields vs)(z:vs[2]? =some (.ref p)):∀ {sl},Rc h sl o->∃o2 v2 s2,h.get? sl=some o2/\o2.data= .fields v2/\v2[2]? =some (.ref s2)/\Rc h s2 p
|_,.refl=>⟨_,_,_,q,d,z,.refl⟩
|_,.step (b:=b) q2 d2 z2 r=>by obtain⟨o2,v2,s2,e1,e2,e3,r2⟩:=Rc.on q d z r;exact⟨_,_,b,q2,d2,z2,.step e1 e2 e3 r2⟩
theorem Rc.trans{h:Heap}{o p:Addr}{oo vs}(q:h.get? o=some oo)(d:oo.data= .fields vs)(z:vs[2]? =some (.ref p)):∀ {sl},Rc h sl o->Rc h sl p
|_,.refl=>.step q d z .refl
|_,.step q2 d2 z2 r=>.step q2 d2 z2 (Rc.trans q d z r)
theorem dR:entryFor table "proto.unchain" =some xR.«proto.unchain»:=entryFor_of_fast (by kernel_rfl)
theorem AG:plainId "proto.unchain" =true:=by decide +kernel
section
variable{prog:zB}{w:zI}{A:zL}{R:Jl->zh->Prop}{s:zh}{e:Addr}
theorem NI(hR:R (.ok (.ret .none)) s):∀ {l:List Addr} {o:Addr},Ch s.heap l o->e∉l->∀ {sl:Addr} {b:Bool},Rc s.heap sl o->ZC (zz prog w) A (.builtin "proto.unchain" ⟨[.ref e,.ref o,.ref sl,.bool b], []⟩) R s
|_,o,.nil q d z,lt,sl,b,c=>by refine jY dR ?_;rw[jG AG _];unfold xR.«proto.unchain»;refine za (zZ q d z ?_);rw[if_pos (by decide)];refine za (zm (zm ?_));exact hR
|_,o,.cons (b:=p) q d z cp,lt,sl,b,c=>by
  have ne:(Value.ref p==Value.ref e)=false:=by refine jO.mpr λk=>?_;exact lt (Xu (beq_iff_eq.mp k)▸ .head _)
  refine jY dR ?_;rw[jG AG _];unfold xR.«proto.unchain»;refine za (zZ q d z ?_);rw[if_neg (show ¬((Value.ref p==Value.none)=true)from by simp),if_neg (show ¬((Value.ref p==Value.ref e)=true)from by rw[ne];decide)];obtain⟨o2,v2,s2,e1,e2,e3,r2⟩:=Rc.on q d z c;split
  ·refine za (ZK (za (zm (zm ?_))));exact hR
  ·cases b with
   |false=>
     refine za (zm (zm ⟨yS AG _,NI hR cp (λm=>lt (.tail _ m)) (Rc.trans q d z c)⟩))
   |true=>
     exact za (zZ e1 e2 e3 (zm ⟨yS AG _,NI hR cp (λm=>lt (.tail _ m)) r2⟩))
end
def XO(h:Heap)(a C:Addr):Prop:=∃nm q N bs bm hdct sn sub ab col dd k0 k1 k2 k3 k5 newId oe vs,h.get? C=some (excClassObj nm q C N bs bm hdct sn sub ab col dd k0 k1 k2 k3 k5 newId)/\bm.contains (.type "BaseException")=true/\h.get? a=some oe/\oe.cls= .ref C/\oe.data= .fields vs
section
variable{M:Model}{A:zL}{E:VSP}{s:zh}{e a C D:Addr}{env:Env}
theorem HQ{msg:String}{Q:VSP}(x:XO s.heap e C)(hq:Q (.ref e) s):zq M A (excFromValue (.ref e) msg) Q E s:=by
 obtain⟨nm,q,N,bs,bm,hdct,sn,sub,ab,col,dd,k0,k1,k2,k3,k5,newId,oe,vs,hC,hb,he,hc,hd⟩:=x;obtain⟨h,g,d,t,os⟩:=s;have hcB:(Value.ref C::bm).contains (.type "BaseException")=true:=by rw[List.contains_cons,hb,Bool.or_true]
 obtain⟨cl,di,da,sl⟩:=oe;simp only at hc hd;subst hc hd;unfold excFromValue
 repeat (first|with_reducible refine jJ he ?_|with_reducible refine jJ hC ?_|(with_reducible refine wpAny_isSubtype_exc hC ?_;rw[hcB])|wp_step)
 exact hq
theorem Vz{Q:Bool->zh->Prop}(x:XO s.heap e C)(hq:Q false s):zq M A (isType (.ref e)) Q E s:=by
 obtain⟨nm,q,N,bs,bm,hdct,sn,sub,ab,col,dd,k0,k1,k2,k3,k5,newId,oe,vs,hC,hb,he,hc,hd⟩:=x;obtain⟨h,g,d,t,os⟩:=s;obtain⟨cl,di,da,sl⟩:=oe;simp only at hc hd;subst hc hd
 repeat (first|with_reducible refine jJ he ?_|wp_step)
 exact hq
theorem Rm{Q:VSP}(x:XO s.heap e C)(hq:Q (.ref e) s):zq M A (raisedInstance (.ref e)) Q E s:=by
 obtain⟨nm,q,N,bs,bm,hdct,sn,sub,ab,col,dd,k0,k1,k2,k3,k5,newId,oe,vs,hC,hb,he,hc,hd⟩:=x;obtain⟨h,g,d,t,os⟩:=s;obtain⟨cl,di,da,sl⟩:=oe;simp only at hc hd;subst hc hd;unfold raisedInstance
 repeat (first|with_reducible refine jJ he ?_|with_reducible refine jJ hC ?_|wp_step)
 exact hq
theorem XO.upd{h:Heap}{f:Array ze->Array ze}(x:XO h e C):XO (h.update e (jA f)) e C:=by
 obtain⟨nm,q,N,bs,bm,hdct,sn,sub,ab,col,dd,k0,k1,k2,k3,k5,newId,oe,vs,hC,hb,he,hc,hd⟩:=x;have ne:e≠C:=λz=>by rw[z,hC]at he;cases he;exact nomatch hd
 have rz:=yr hd f;exact⟨nm,q,N,bs,bm,hdct,sn,sub,ab,col,dd,k0,k1,k2,k3,k5,newId,_,_,(js _ _ ne).trans hC,hb,jN _ he (yj rz),(Xc _ _).trans hc,rz⟩
end
section
variable{prog:zB}{w:zI}{A:zL}{E:VSP}{s:zh}{e a C D:Addr}{env:Env}
theorem Lf{x c:Sem ze}{Q:Flow->zh->Prop}(hh:A.handled=some (.ref a))
 (h:zq (zz prog w) A x (λv W1=>∃e t C D,v= .ref e/\XO W1.heap e C/\XO W1.heap a D/\
   W1.heap.get? e=some {cls:=.ref C,data:=.fields #[.ref t,.none,.none,.none,.bool false,.none]}/\(∃l,Ch W1.heap l a/\e∉a::l)/\
   zq (zz prog w) A c (λv' WQ=>v'= .ref a/\WQ=W1/\
    ∀h',(∀b,b≠e->h'.get? b=W1.heap.get? b)->h'.get? e=some {cls:=.ref C,data:=.fields #[.ref t,.none,.ref a,.ref a,.bool true,.none]}->E (.ref e) {W1 with heap:=h'}) E W1) E s):
 zq (zz prog w) A (raiseStmt env (some x) (some c)) Q E s:=by
 unfold raiseStmt;refine za (jg h (λv W1 h₁=>?_) λ_ _ x=>x);obtain⟨e,t,C,D,rfl,xe,xa,he,⟨l,ch,lt⟩,h₁⟩:=h₁;refine za (jQ (jg h₁ (λv' WQ h₂=>?_) λ_ _ x=>x));obtain⟨rfl,rfl,hE⟩:=h₂;refine za (zm ?_);refine za (jQ (HQ xe ?_));have na:(Value.ref a==Value.none)=false:=by simp
 dsimp only;rw[if_neg (by rw[na];decide)];refine za (jQ (HQ xa ?_));have hd:({cls:=Value.ref C,data:=.fields #[.ref t,.none,.none,.none,.bool false,.none]}:Obj).data= .fields #[.ref t,.none,.none,.none,.bool false,.none]:=rfl;refine za (yT he hd (by simp) ?_);have d1:=yr hd (·.setIfInBounds 3 (Value.ref a));have e1:=jN (jA (·.setIfInBounds 3 (Value.ref a))) he (yj d1);refine za (yT e1 d1 (by simp) ?_);have d2:=yr d1 (·.setIfInBounds 4 (Value.bool true));have e2:=jN (jA (·.setIfInBounds 4 (Value.bool true))) e1 (yj d2);have x2:=(xe.upd (f:=(·.setIfInBounds 3 (Value.ref a)))).upd (f:=(·.setIfInBounds 4 (Value.bool true)));refine za (Vz x2 ?_);rw[if_neg (by decide)];refine za (Rm x2 ?_);unfold Ja;refine za (za (zZ e2 d2 (x:=.none) (by simp) ?_));rw[if_neg (by decide)];refine zm ?_;unfold raiseNew;refine za (wpAny_handled ?_);rw[hh];dsimp only;have ne:(Value.ref a != Value.ref e)=true:=by rw[bne_iff_ne];exact λk=>lt (Xu k▸ .head _)
 rw[if_pos ne];have up:∀b,b≠e->((WQ.heap.update e (jA (·.setIfInBounds 3 (Value.ref a)))).update e (jA (·.setIfInBounds 4 (Value.bool true)))).get? b=WQ.heap.get? b:=λb hb=>by rw[js _ _ (Ne.symm hb),js _ _ (Ne.symm hb)]
 have c2:=ch.keep (h':=(WQ.heap.update e (jA (·.setIfInBounds 3 (Value.ref a)))).update e (jA (·.setIfInBounds 4 (Value.bool true)))) λb m o vs q d=>⟨o,vs,(up b λz=>lt (z▸m)).trans q,d,rfl⟩;refine za (jQ (wpAny_runValue (NI ?_ c2 (λm=>lt (.tail _ m)) .refl)));have d3:=yr d2 (·.setIfInBounds 2 (Value.ref a));refine za (show zq _ _ (setField (.ref e) 2 (.ref a)) _ _ _ from yT e2 d2 (by simp) (wpAny_throw (hE _ (λb hb=>(js _ _ (Ne.symm hb)).trans (up b hb)) ?_)));exact jN (jA (·.setIfInBounds 2 (Value.ref a))) e2 (yj d3)
end
end DL
namespace DL
open PySem PySem.Spec L2
open PyProof.Rows hiding St
theorem TrG.keep{v:ze}{h h':Heap}{e T:Addr}{cls:ze}(t:TrG v h e T cls)(k:∀b o vs,h.get? b=some o->o.data= .fields vs->h'.get? b=some o):TrG v h' e T cls:=by obtain⟨oe,vs,oT,ts,he,hc,hd,h1,ne,hT,dT,h3,l,ch,n1,n2⟩:=t;exact⟨oe,vs,oT,ts,k _ _ _ he hd,hc,hd,h1,ne,k _ _ _ hT dT,dT,h3,l,ch.keep λb _ o v q d=>⟨o,v,k b o v q d,d,rfl⟩,n1,n2⟩
section
variable{M:Model}{A:zL}{E:VSP}{s:zh}{env:Env}{L e T:Addr}{cls v:ze}
theorem cR{Q:Unit->zh->Prop}(hf:env.frame=some L)(ht:TrG (yC L) s.heap e T cls)(h:Q () s):zq M A (Zi (.ref e) env) Q E s:=by obtain⟨oe,vs,oT,ts,he,rfl,hd,h1,ne,hT,dT,h3,_⟩:=ht;unfold Zi;simp only[hf];refine za (zZ he hd h1 ?_);rw[if_pos (show (Value.ref T != Value.none)=true from by simp)];refine za (zZ hT dT h3 ?_);rw[if_pos (by simp[yC])];exact zm h
theorem Dg{Q:Unit->zh->Prop}(hf:env.frame=some L)(ht:TrG (yC L) s.heap e T cls)(h:∀h',Lv [] e T s.heap h'->TrF h' e T cls->Q () {s with heap:=h'}):zq M A (YU env (.ref e)) Q E s:=by unfold YU;exact za (cR hf ht (fly (fr:=none) ht h))
theorem OT{base:Heap}{outer:List Env}{oe:Obj}{vs:Array ze}{l:List Addr}{Q:Unit->zh->Prop}(hfr:A.frames=some (env::outer))(hl:s.heap.FunFrames base (env::outer))(hf:env.frame=some L)(he:s.heap.get? e=some oe)(hd:oe.data= .fields vs)(h1:vs[1]? =some .none)(hc:Ch s.heap l e)(hn:e∉l)
 (h:∀h',Lv (frs (env::outer)) e s.heap.objs.size s.heap h'->TrG (yC L) h' e s.heap.objs.size oe.cls->Q () {s with heap:=h'}):zq M A (Zi (.ref e) env) Q E s:=by
 unfold Zi;simp only[hf];refine za (zZ he hd h1 ?_);rw[if_neg (by decide)];exact AM hfr hl hf he hd (jh.mp h1).1 hc hn h
theorem QN{α:Type}{what:String}{Q:α->zh->Prop}(hf:env.frame=some L)(ht:TrG v s.heap e T cls)(h:∀h',Lv [] e T s.heap h'->TrG (yC L) h' e T cls->E (.ref e) {s with heap:=h'}):zq M A (PySem.passOn what (.ref e) env) Q E s:=by obtain⟨oe,vs,oT,ts,he,_,hd,h1,_⟩:=id ht;unfold PySem.passOn;refine za (zZ he hd h1 ?_);rw[if_neg (by simp),hf];exact za (fly (fr:=some L) ht λh' l t=>wpAny_throw (h h' l t))
theorem aW(hf:env.frame=some L)(ht:TrG v s.heap e T cls)(h:∀h',Lv [] e T s.heap h'->TrG (yC L) h' e T cls->E (.ref e) {s with heap:=h'}):cameBackBy M A env E (.ref e) s:=by obtain⟨oe,vs,oT,ts,he,_,hd,h1,_⟩:=id ht;unfold cameBackBy;refine za (zZ he hd h1 ?_);rw[if_neg (by simp),hf];exact fly (fr:=some L) ht h
end
section
variable{X:Cx}{om:PNS}{σ:St}{H:Hp}{s:zh}
theorem EX{i:Nat}{x:Str}{v:V}{pos:Pos}{E:VSP}{Q:VSP}(I:Inv X om σ H s)(hN:X.N[i]? =some x)(el:X.env.scope.names.lookup x=some .local)(e:σ[i]? =some (some v))(hd:(x==("__debug__" :Str))=false)(hcd:(x==("__classdict__" :Str))=false)
 (h:∀u,u5 v u->Q u s):zq (zz X.prog X.w) X.A (eval (.Name x pos) X.env) Q E s:=by
 obtain⟨m,hn,hl⟩:=I.loc;obtain⟨u,r,l⟩:=hl i x v hN e (.inl el);rcases l with⟨hk,hm⟩|⟨hk,c,hc,hcell⟩
 ·exact Yv (wpAny_loadName_local I.ok.kind hk hn hm (h u r)) hd
 ·rcases hk with hk|hk
  ·exact Yv (wpAny_loadName_cell I.ok.kind hk hc hcell (h u r)) hd
  ·exact Yv (wpAny_loadName_free I.ok.kind hk hc hcell (h u r) hcd) hd
theorem tR(I:Inv X om σ H s){a:Addr}{h':Heap}(k:yV a s.heap h')(ha:a=X.env.locals\/∃x,X.env.cells.lookup x=some a):∀b o vs,s.heap.get? b=some o->o.data= .fields vs->h'.get? b=some o:=λb o vs q d=>(k.2 b λz=>by
 subst z;rcases ha with rfl|⟨x,c⟩
 ·obtain⟨m,⟨o',es,ep,ho',rz,_⟩,_⟩:=I.loc;rw[q]at ho';cases ho';rw[d]at rz;cases rz
 ·obtain⟨v,o',ho',rz⟩:=I.cell x b c;rw[q]at ho';cases ho';rw[d]at rz;cases rz).trans q
end
def HC(x y:Str)(f:Fs):Fs:=λσ G=>match f σ G with
|some (.error z,G')=>if z=x\/z=y then some (.error y,G')else none
|r=>r
structure XR(K:zc)(mg:Str->Option ze)(x y:Str):Prop where
 ex:∃C D cd,mg x=some (.ref C)/\mg y=some (.ref D)/\jZ K C VE "ValueError.__new__" =true/\jZ K D VE "ValueError.__new__" =true/\jB K C (.type "BaseException")=some true/\xE K C=some cd/\yq K (.ref C)=some (.type "type")/\jz K (.ref C) (.ref C)=some true/\jz K (.ref D) (.ref C)=some false
theorem i6.xo{base h:Heap}{C a:Addr}{B n i:String}{bm:List ze}{oe:Obj}{vs:Array ze}(c:i6 base C B n i bm)(k:∀b o,base.get? b=some o->h.get? b=some o)(he:h.get? a=some oe)(hc:oe.cls= .ref C)(hd:oe.data= .fields vs):XO h a C:=by obtain⟨nm,q,Nn,bs,bm,hdct,sn,sub,ab,col,dd,k0,k1,k2,k3,k5,mN,q1,q2,q3,q4,q5⟩:=c.ex;exact⟨nm,q,Nn,bs,bm,hdct,sn,sub,ab,col,dd,k0,k1,k2,k3,k5,_,oe,vs,k _ _ q1,q5,he,hc,hd⟩
section
variable{P:zB}{w:zI}{K:zc}{mg:Str->Option ze}{base:Heap}{N:List Str}{qual:Str}{scope:Scope}{cd:ze}{A:zL}{outer:List Env}{s0:zh}{H0:Hp}{E:XK}{fa:Addr}{x y en c:Str}{j:Nat}{np hp pos yp cp cpos p2 pos2:Pos}{body:List Stmt}{f:Fs}
theorem Sb(hC:XR K mg x y)(gx:Gl (U5 (CXd P w) P w K mg base N qual scope fa cd A outer s0 H0 E) x)(gy:Gl (U5 (CXd P w) P w K mg base N qual scope fa cd A outer s0 H0 E) y)(dx:(x==("__debug__" :Str))=false)(dy:(y==("__debug__" :Str))=false)(de:(en==("__debug__" :Str))=false)(ce:(en==("__classdict__" :Str))=false)
 (eN:en∈N) (hN:N.Nodup) (el:scope.names.lookup en=some .local) (hb:BAt (U5 (CXd P w) P w K mg base N qual scope fa cd A outer s0 H0 E) body f):
 DS (U5 (CXd P w) P w K mg base N qual scope fa cd A outer s0 H0 E) (ZE mg E) (.Try body [.ExceptHandler (some (.Name x np)) (some en) [.Raise (some (.Call (.Name y yp) [.Constant (.str c) j cp] [] cpos)) (some (.Name en p2)) pos2] hp] [] [] pos) (HC x y f):=by
 generalize hX:U5 (CXd P w) P w K mg base N qual scope fa cd A outer s0 H0 E=X at *;obtain⟨C,D,cd1,mx,my,qC,qD,hB,hcl,hty,sC,sD⟩:=hC.ex;have e1:X.mg=mg:=by rw[<-hX];rfl
 have e2:X.K=K:=by rw[<-hX];rfl
 have e3:X.N=N:=by rw[<-hX];rfl
 have e4:X.env.scope=scope:=by rw[<-hX];rfl
 have hst:X.stack=X.env::X.outer:=by rw[<-hX];rfl
 have hfr:X.env.frame=some X.env.locals:=by rw[<-hX];rfl
 have rn:X.ex= []:=by rw[<-hX];rfl
 have hxe:∀(a T:Addr) (H':Hp) (s':zh) (cls:ze),X.WY.heap.get? a=none->X.WY.heap.get? T=none->H' a=none->H' T=none->TrG (yC X.env.locals) s'.heap a T cls->E cls none H'->(∀h',Lv [] a T s'.heap h'->∃ σ om,Inv X om σ H' {s' with heap:=h'})->X.xe (.ref a) s':=by
  intro a T H' s' cls ha hT na nT t hE k;have hs:X.WY=s0:=by rw[<-hX];rfl
  have:X.xe=λe s'=>zq (zz P w) (A.deeper (yb qual scope s0.heap.objs.size fa cd)) (YU X.env e) (λ_ s''=>CXd P w outer H0 s0 E e s'') (λe' s''=>CXd P w outer H0 s0 E e' s'') s':=by rw[<-hX];rfl
  rw[this];refine Dg hfr t λh' l t'=>?_;obtain⟨σ,om,I⟩:=k h' l;subst hX;exact⟨a,T,cls,H',rfl,ha,hT,na,nT,I.os,I.bare,I.base,I.hok,t',hE⟩
 subst e1 e2 e3;obtain⟨ie,eN⟩:=Yt eN;rw[<-e4]at el;refine⟨λom s σ H Dn I hL=>?_⟩;obtain⟨X9,μ,G,sr,hr,p⟩:=hL;refine XZ (jg (hb.h om σ (λc _ H1=>(c= .ref C\/c= .ref D)/\E (.ref D) none H1) s H Dn (nK I) ⟨X9,μ,G,sr,hr,?_⟩) (λfl s1 h1=>?_) (λe s1 h1=>?_))
 ·unfold HC at p;rcases r:f X9 G with _|⟨r0,G1⟩
  ·rw[r]at p;exact p
  ·rw[r]at p
   cases r0 with
   |ok fl=>exact p
   |error z=>
     intro X0 H1 x1 h1;dsimp only at p;split at p
     ·rename_i hz;obtain⟨D',q1,q2⟩:=p X0 H1 x1 h1;rw[my]at q1;cases q1;rcases hz with rfl|rfl
      ·exact⟨C,mx,.inl rfl,q2⟩
      ·exact⟨_,my,.inr rfl,q2⟩
     ·exact p.elim
 ·cases fl with
  |next=>
    obtain⟨X1,H',I',k⟩:=h1;exact yZ ⟨X1,H',L4 I',k⟩
  |brk=>
    obtain⟨X1,H',I',k⟩:=h1;exact⟨X1,H',L4 I',k⟩
  |cont=>
    obtain⟨X1,H',I',k⟩:=h1;exact⟨X1,H',L4 I',k⟩
  |ret u=>
    obtain⟨v,X1,H',I',k⟩:=h1;exact⟨v,X1,H',L4 I',k⟩
 ·obtain⟨a,T,cls,H',rfl,I',ha,hT,pn,na,nT,tr,hcc,hE⟩:=h1;have kk:=I'.ok;have fr:X.A.frames=some (X.env::X.outer):=hst▸I'.ok.frames;have st:s1.heap.FunFrames X.base (X.env::X.outer):=hst▸I'.stack;refine mI (base:=X.base) fr st hfr tr λh' h1 l1 sz l2 t2=>?_;rw[<-hst]at l2;have kp:∀b o,s1.heap.get? b=some o->b≠a->b≠T->b∉frs X.stack->h'.get? b=some o:=λb o q na nT nf=>l2.keep b o (l1.keep b o q (λz=>nomatch z) na nT) nf na (zu (zj q));have sl:∀b o,s1.heap.get? b=some o->b≠a->b≠T->b∈frs X.stack->∃sl,h'.get? b=some {o with slots:=sl}:=λb o q na nT nf=>l2.slot b o (l1.keep b o q (λz=>nomatch z) na nT) nf na (zu (zj q));have kl:∀ {h''},Lv [] a s1.heap.objs.size h' h''->Inv X om σ H' {s1 with heap:=h''}:=λl=>fA I' ha hT pn na nT tr.df (λb o q x y z=>l.keep b o (kp b o q x y z) (λz=>nomatch z) x (zu (zj q))) λb o q x y z=>by
   obtain⟨l',z⟩:=sl b o q x y z;exact⟨l',l.keep b _ z (λz=>nomatch z) x (zu (zj q))⟩
  have I2:Inv X om σ H' {s1 with heap:=h'}:=fA I' ha hT pn na nT tr.df kp sl;have zT:X.WY.heap.get? s1.heap.objs.size=none:=yy I'.sz;have zH:H' s1.heap.objs.size=none:=dE I'.hok (yy (zg _));refine YZ (YD (U9 (X:=CxH X a) (kG I2) gx mx ?_ dx)) (by intro q;cases q);obtain⟨oe,vs,oT,ts,he,hc,hd,_⟩:=id t2;rcases hcc with rfl|rfl
  ·refine EI I2.kIn he hc hB hcl hty sC ?_;refine JV (fly (fr:=none) t2 λh3 l3 t3=>?_);have I3:=kl l3;obtain⟨oe,vs,oT,ts,he,hc,hd,_,_,_,_,_,lc,ch,n1,n2⟩:=id t3;have I4:Inv (CxE X om a oe) [] σ H' {s1 with heap:=h3}:=uO I3 na he hd;have iσ:ie<σ.length:=by rw[I3.len];exact(jI.mp eN).1
   refine KM (X:=CxE X om a oe) I4 hN eN (.inl el) (v:=.ref a) (u:=.ref a) rfl (λs5 I5 ⟨b5,k5,z5⟩=>?_) (.inr el);have fk:=tR I4 k5 (z5.imp id λz=>⟨_,z⟩);have he5:s5.heap.get? a=some oe:=fk _ _ _ he hd;have c5:Ch s5.heap lc a:=ch.keep λb _ o v q d=>⟨o,v,fk b o v q d,d,rfl⟩;refine Ym ?_;rw[arm_exec_Raise];simp only[evalOpt,Option.map];refine za (xO (Lf (a:=a) rfl ?_));refine za (jg (wpAny_Call_ofName (jg (U9 (X:=CxE X om a oe) (Q:=λf W1=>f= .ref D/\W1=s5) I5 gy my ⟨rfl,rfl⟩ dy) (λf W1 h₁=>?_) λ_ _ x=>x)) (λv WN h₃=>za (xO (zm h₃))) λ_ _ x=>x);obtain⟨rfl,e5⟩:=h₁;rw[e5];unfold callWith;have W:∀ {Q:Args->zh->Prop} {E:VSP},(∀t k,Q ⟨[.str c t], []⟩ {s5 with toks:=k})->zq (zz X.prog X.w) (X.A.mark (some (.ref a))) (evalArgs (.ref D) true (yo cpos (zC [Expr.Constant (.str c) j cp] X.env)) []) Q E s5:=λq=>by rw[show yo cpos (zC [Expr.Constant (.str c) j cp] X.env)= [(false,eval (Expr.Constant (.str c) j cp) X.env)] by rw[N0 rfl];rfl];exact Yo (Calls.spliced_cons (Calls.Constant_str (Calls.spliced_nil (q _ _))))
   have qu:(yo cpos (zC [Expr.Constant (.str c) j cp] X.env)).any (·.1)=false:=by rw[M5];exact Q3 rfl
   refine za (jQ (W λtk k=>za (xO ?_)));simp only[qu];have xD:=i6.of I.ok.mod.kin qD;obtain⟨nm,q,Nn,bs,bm,hdct,sn,sub,ab,col,dd,k0,k1,k2,k3,k6,mN,q1,q2,q3,q4,q5⟩:=xD.ex;refine za (wpAny_keeperOf_exc (I5.bk _ _ q1) ?_);refine za (wpAny_call_exc_subT (hrest:=by show 1<=zi;decide) xD.facts (q4.keeps I5.bk) (I5.bk _ _ q1) (q2.keeps I5.bk) q3 λh6 e hm=>za (jQ (wpAny_point (zm ?_))));obtain⟨tt,et,_,_⟩:=hm.there;have kB:∀b o,X.base.get? b=some o->h6.get? b=some o:=λb o q=>hm.keeps _ _ (I5.bk b o q);have ne:∀b o,s5.heap.get? b=some o->b≠e:=λb o q z=>by rw[z,hm.new]at q;cases q
   have nm:e∉a::lc:=λm=>by obtain⟨o,v,q,_⟩:=c5.mem _ m;exact ne _ _ q rfl
   refine⟨e,tt,D,C,rfl,xD.xo kB et rfl rfl,(i6.of I.ok.mod.kin qC).xo kB (hm.keeps _ _ he5) hc hd,et,⟨lc,c5.keep λb _ o v q d=>⟨o,v,hm.keeps _ _ q,d,rfl⟩,nm⟩,?_⟩;have I6:Inv (CxE X om a oe) [] (σ.set ie (some (.ref a))) H' {s5 with heap:=h6,toks:=k}:=I5.kept hm.keeps;refine za (jg (EX (X:=CxE X om a oe) I6 eN el (zX iσ) de ce (Q:=λv s'=>v= .ref a/\s'= {s5 with heap:=h6,toks:=k}) λu r=>⟨r,rfl⟩) (λv s' z=>za (xO (zm ⟨z.1,z.2,λh7 u7 e7=>?_⟩))) λ_ _ x=>x);have k7:∀b u,s5.heap.get? b=some u->h7.get? b=some u:=λb u q=>(u7 b (ne b u q)).trans (hm.keeps _ _ q);have I7:Inv (CxE X om a oe) [] (σ.set ie (some (.ref a))) H' {s5 with heap:=h7,toks:=k}:=I5.kept k7;have st7:h7.FunFrames X.base (X.env::X.outer):=hst▸I7.stack;refine OT (base:=X.base) (outer:=X.outer) fr st7 hfr e7 rfl rfl (.cons e7 rfl rfl (c5.keep λb _ o v q d=>⟨o,v,k7 _ _ q,d,rfl⟩)) nm λh8 l8 t8=>?_;have z1:X.WY.heap.get? e=none:=by
    rcases q:X.WY.heap.get? e with _|o
    ·rfl
    ·obtain⟨o',z⟩:=I5.base.there e o q (by show e∉X.ex;rw[rn];exact λz=>nomatch z);rw[hm.new]at z;cases z
   have z2:X.WY.heap.get? h7.objs.size=none:=yy I7.sz;have z3:H' e=none:=dE I5.hok hm.new;have z4:H' h7.objs.size=none:=dE I7.hok (yy (zg _));have zp:∀p∈(CxE X om a oe).pn++[],p.1≠e/\p.1≠h7.objs.size:=λp hp=>⟨ne _ _ (I5.pin p hp).1,zu (zj (I7.pin p hp).1)⟩;rw[<-hst]at l8;have I8:Inv (CxE X om a oe) [] (σ.set ie (some (.ref a))) H' {s5 with heap:=h8,toks:=k}:=fA I7 z1 z2 zp z3 z4 (λb o q kf=>⟨λz=>by rw[z,e7]at q;cases q;exact kf _ rfl,zu (zj q)⟩) (λb o q x y z=>l8.keep b o q z x y) λb o q x y z=>l8.slot b o q z x y;refine wH (X:=CxE X om a oe) I8 hN eN el λs9 I9 k9=>?_;have t9:=t8.keep (tR I8 k9 (.inl rfl));refine QN hfr t9 λh10 l10 t10=>?_;refine cR hfr t10 ?_;refine aW hfr t10 λh11 l11 t11=>?_;refine hxe e _ H' {s9 with heap:=h11} _ z1 z2 z3 z4 t11 hE λh12 l12=>?_;have I12:Inv (CxE X om a oe) [] ((σ.set ie (some (.ref a))).set ie none) H' {s9 with heap:=h12}:=fA I9 z1 z2 zp z3 z4 t9.df (λb o q x y _=>((l10.more l11).more l12).keep b o q (λz=>nomatch z) x y) λb o q x y _=>⟨o.slots,((l10.more l11).more l12).keep b o q (λz=>nomatch z) x y⟩;exact⟨_,_,lJ kk I12⟩
  ·refine EI I2.kIn he hc hB hcl hty sD ?_;refine wpAny_handleBy_nil (QN hfr t2 λh3 l3 t3=>?_);exact hxe a _ H' {s1 with heap:=h3} _ ha zT na zH t3 hE λh4 l4=>⟨σ,om,kl (l3.more l4)⟩
end
structure XRI(K:zc)(x y:Str):Prop where
 ex:∃C D,jv K zF x=some (some (.ref C))/\jv K zF y=some (some (.ref D))/\jZ K C VE "ValueError.__new__" =true/\jZ K D VE "ValueError.__new__" =true/\jB K C (.type "BaseException")=some true/\yd K C=true/\yq K (.ref C)=some (.type "type")/\jz K (.ref C) (.ref C)=some true/\jz K (.ref D) (.ref C)=some false
theorem XRI.of{K:zc}{x y:Str}{C D:Addr}(a:jv K zF x=some (some (.ref C)))(b:jv K zF y=some (some (.ref D)))(c:jZ K C [.type "ValueError",.type "Exception",.type "BaseException",.type "object"] "ValueError.__new__" =true)(d:jZ K D [.type "ValueError",.type "Exception",.type "BaseException",.type "object"] "ValueError.__new__" =true)
 (e:jB K C (.type "BaseException")=some true) (f:yd K C=true) (g:yq K (.ref C)=some (.type "type")) (h:jz K (.ref C) (.ref C)=some true) (i:jz K (.ref D) (.ref C)=some false):XRI K x y:=⟨C,D,a,b,c,d,e,f,g,h,i⟩
theorem XRI.ok{K:zc}{mg:Str->Option ze}{x y:Str}{h:Heap}(c:XRI K x y)(X:K.In h)(G:h.Ns zF mg):XR K mg x y:=by obtain⟨C,D,a,b,c,d,e,f,g,h,i⟩:=c.ex;obtain⟨cd,f⟩:=yn.mp f;exact⟨C,D,cd,jT X G a,jT X G b,c,d,e,f,g,h,i⟩
end DL
namespace W
open PySem PySem.Spec L2 DL
open PyProof.Rows hiding St
def D1:Fs:=(m5 (J4 (binE t4 (binE A5 (binE t4 (binE addD (binE addD (K9 3) (binE A5 (cE (.int 7919)) (K9 2))) (cE (.int 3))) (cE (.int 2147483647))) (cE (.int 48271))) (cE (.int 2147483647))) (O0 4)) (m5 (J4 (binE t4 (binE A5 (K9 4) (K9 4)) (cE (.int 2147483629))) (O0 4)) (m5 (A8 (mtE S8 W4 (K9 1) (C0 (binE t4 (binE LB (K9 4) (cE (.int 16))) (cE (.int 1000))) (z0)))) (m5 (A8 (mtE S8 W4 (K9 1) (C0 (binE t4 (binE LB (K9 4) (cE (.int 16000))) (cE (.int 1000))) (z0)))) (m5 (J4 (binE t4 (binE addD (K9 4) (binE A5 (cE (.int 40692)) (binE addD (K9 2) (cE (.int 7))))) (cE (.int 2147483587))) (O0 4)) (A8 (mtE S8 W4 (K9 1) (C0 (binE t4 (binE LB (binE t4 (binE A5 (K9 4) (K9 4)) (cE (.int 2147483647))) (cE (.int 16))) (cE (.int 1000))) (z0)))))))))
def WT1:DSt->M Bool:=(w4 (g6 (binE geD (K9 3) (cE (.int 1000)))) (g6 (binE ltD (K9 5) (cE (.int 60)))))
def WB1:Fs:=(m5 (A8 (mtE S8 W4 (K9 1) (C0 (binE t4 (K9 3) (cE (.int 1000))) (z0)))) (m5 (J4 (binE LB (K9 3) (cE (.int 1000))) (O0 3)) (J4 (binE addD (K9 5) (cE (.int 1))) (O0 5))))
def D2:Fs:=(m5 (J4 (cE (.int 0)) (O0 5)) (V3 WT1 WB1))
def DB:Fs:=(m5 (J4 (D0 gF (C0 (binE ixD (K9 0) (K9 2)) (z0))) (O0 3)) (ifS (g6 (binE ltD (K9 3) (binE PD (cE (.int 10)) (cE (.int 18))))) D1 D2))
abbrev F5(a:Fe):=C0 a (z0)
abbrev I0(a b:Fe):=C0 a (C0 b (z0))
abbrev y3(a b c:Fe):=C0 a (C0 b (C0 c (z0)))
abbrev uH(a b c d:Fe):=C0 a (C0 b (C0 c (C0 d (z0))))
abbrev u4(a b c d e:Fe):=C0 a (C0 b (C0 c (C0 d (C0 e (z0)))))
abbrev asQ(e:Fe)(g:D->DSt->M DSt)(r:Fs):Fs:=m5 (J4 e g) r
abbrev cBf:Fe:=cE (.bl false)
abbrev cBt:Fe:=cE (.bl true)
abbrev B0:Fe:=cE (.int 0)
abbrev x0:Fe:=cE (.int 1)
abbrev io:Fe:=cE (.int 10)
abbrev C1:Fe:=cE (.int 2)
abbrev i4:Fe:=cE (.int 3)
abbrev E5:Fe:=cE (.int 4)
abbrev am:Fe:=cE (.int 5)
abbrev iT:Fe:=cE (.int 6)
abbrev vQ:Fe:=cE (.int 7)
abbrev Vg:Fe:=cE (.int 8)
abbrev kZ:Fe:=cE (.int 9)
abbrev cIn(i:Int):Fe:=cE (.int i)
abbrev A0:Fe:=cE .non
abbrev cSt(s:Str):Fe:=cE (.str s)
abbrev lE(F:List D->M D):Fe:=D0 (fnX 0 F) (z0)
abbrev K2(F:List D->M D)(a:Fe):Fe:=D0 (fnX 1 F) (C0 a (z0))
abbrev K0(F:List D->M D)(a b:Fe):Fe:=D0 (fnX 2 F) (C0 a (C0 b (z0)))
abbrev kF(F:List D->M D)(a b c:Fe):Fe:=D0 (fnX 3 F) (C0 a (C0 b (C0 c (z0))))
abbrev uE(F:List D->M D)(a b c d:Fe):Fe:=D0 (fnX 4 F) (C0 a (C0 b (C0 c (C0 d (z0)))))
abbrev M0(F:List D->M D)(a:Fe):Fe:=D0 F (C0 a (z0))
abbrev E2(F:List D->M D)(a b:Fe):Fe:=D0 F (C0 a (C0 b (z0)))
abbrev gdQ(t:DSt->M Bool)(x:Fe)(r:Fs):Fs:=m5 (ifS t (u9 x) v4) r
abbrev ixE(a b:Fe):Fe:=binE ixD a b
abbrev S4:=O0 0
abbrev U1:=O0 1
abbrev S0:=O0 2
abbrev F2:=O0 3
abbrev i5:=O0 4
abbrev aA:=O0 5
abbrev sG:=O0 6
abbrev VC:=O0 7
abbrev MH:=O0 8
abbrev rN:=O0 9
abbrev sIi(i:Int):Option D:=some (D.int i)
abbrev sRf(r:Nat):Option D:=some (D.ref r)
abbrev tBn(o:D->D->M D)(a b:Fe):=g6 (binE o a b)
abbrev A2(a:Fe):=T9 (C0 a (z0))
abbrev y0(a b:Fe):=T9 (C0 a (C0 b (z0)))
abbrev B8(a b c:Fe):=T9 (C0 a (C0 b (C0 c (z0))))
abbrev g0:Fe:=K9 0
abbrev l0:Fe:=K9 1
abbrev o0:Fe:=K9 2
abbrev F0:Fe:=K9 3
abbrev L0:Fe:=K9 4
abbrev C2:Fe:=K9 5
abbrev i3:Fe:=K9 6
abbrev EK:Fe:=K9 7
abbrev IC:Fe:=K9 8
abbrev LD:Fe:=K9 9
def UI:Fs:=m5 (J4 (E1 z0) U1) (m5 (F8 (KA (F5 (E2 PC (M0 lenF g0) (cIn 80)))) S0 DB) (u9 (J5 l0 (J7) (J3 (cIn 240)))))
def T5:List D->M D:=m9 6 UI
def ER:Fs:=u9 (T9 (u4 (T9 z0) (y0 (cSt "of") (T9 z0)) (T9 z0) A0 A0))
def N8:List D->M D:=m9 0 ER
def II:Fs:=m5 (ifS (tBn eqD g0 (E1 z0)) (u9 B0) v4) (u9 (binE t4 (mtE S8 QG g0 (F5 B0)) l0))
def o9:List D->M D:=m9 2 II
def fgB:Fs:=(J4 (binE addD o0 (ixE (cSt "0123456789") (K0 o9 g0 io))) S0)
def kK:Fs:=m5 (J4 (ixE (cSt "123456789") (K0 o9 g0 kZ)) S0) (m5 (F8 (KA (F5 (binE wB l0 x0))) F2 fgB) (u9 o0))
def X3:List D->M D:=m9 4 kK
def iP:Fe:=(E1 (u4 (y0 i3 i3) (y0 i3 A0) (y0 A0 i3) (y0 i3 i3) (y0 i3 i3)))
def iM:Fs:=(asQ (ixE iP F0) MH (u9 (y0 EK (binE addD (A2 (A2 IC)) (J5 o0 (J3 x0) (J7))))))
def iN:Fs:=(asQ (ixE (E1 (u4 C2 (binE addD C2 (cSt "..")) (binE addD (cSt "..") C2) (binE addD (binE addD C2 (cSt "..")) C2) C2)) F0) VC iM)
def fJ:Fs:=m5 (J4 (lE N8) S0) (asQ (K0 o9 g0 Vg) F2 (m5 (ifS (tBn gtD F0 E5) (asQ (E1 (y3 (y0 (cSt "any") (cSt "any")) (y0 (cSt "[]") (binE addD (J5 o0 (J7) (J3 i4)) (y0 (y0 (T9 z0) o0) A0))) (y0 (cSt "{}") (binE addD (J5 o0 (J7) (J3 E5)) (A2 (y0 (T9 z0) o0)))))) i5 (u9 (ixE L0 (binE wB F0 am)))) v4) (asQ (K0 X3 g0 l0) aA (asQ (M0 E6 C2) sG (m5 (ifS (tBn eqD (K0 o9 g0 C1) x0) (asQ (binE addD (cSt "-") C2) aA (J4 (unE nG i3) sG)) v4) iN)))))
def S9:List D->M D:=m9 9 fJ
def lG:Fs:=m5 (ifS (truthE (mtE isStrM startsD g0 (I0 (cSt "any") l0))) (u9 (y0 (cSt "any") (binE addD l0 (M0 lenF (cSt "any"))))) v4) (m5 (ifS (truthE (mtE isStrM startsD g0 (I0 (cSt "nothing") l0))) (J2) v4) (u9 A0))
def ID:List D->M D:=m9 2 lG
def CI:Fs:=u9 (ifE (orT (tBn P2 g0 A0) (tBn inX (cE (.tup [.tup [],.tup [.str ("of" :Str),.tup []],.tup [],.non,.non])) (ixE g0 B0))) A0 g0)
def U7:List D->M D:=m9 1 CI
def Z3:Fs:=m5 (ifS (orT (tBn P2 g0 A0) (truthE (M0 RE (U4 (itW (ixE g0 B0)) [none,none,none] (E4 3 (Q4 S4 (Q4 U1 (Q4 S0 (F4))))) (y6) (W6 l0 (binE eqD o0 (cE (.tup [.tup [],.tup [.str ("of" :Str),.tup []],.tup [],.non,.non])))))))) (u9 A0) v4) (u9 (y0 (M0 d6 (U4 (itW (ixE g0 B0)) [none,some 0] S4 (orT (truthE (ixE g0 x0)) (tBn neW (ixE g0 C1) (ixE l0 x0))) g0)) (ixE g0 x0)))
def O5:List D->M D:=m9 1 Z3
def dJ:Fs:=m5 (J4 (T9 (u4 g0 l0 o0 (K2 U7 F0) (K2 O5 L0))) aA) (u9 (ifE (tBn eqD C2 (cE (.tup [.tup [.tup [.non,.non]],.tup [.str ("but" :Str),.tup []],.tup [.bl false,.bl true],.tup [.tup [],.str ("any" :Str)],.tup [.tup [],.str ("any" :Str)]]))) (cSt "any") C2))
def C6:List D->M D:=m9 6 dJ
def DM:Fs:=u9 (ifE (tBn P2 (ixE g0 B0) A0) (y0 B0 B0) (y0 x0 (ixE g0 B0)))
def J8:List D->M D:=m9 1 DM
def EN:Fs:=u9 (W6 (binE n9 (ixE g0 x0) A0) (W6 (binE n9 (ixE l0 B0) A0) (binE ltD (binE addD (ixE g0 x0) x0) (ixE l0 B0))))
def cJ:List D->M D:=m9 2 EN
def AI:Fs:=m5 (J4 (E1 z0) U1) (m5 (F8 (itW (CH J8 g0)) S0 (ifS (w4 (truthE l0) (t5 (truthE (K0 cJ (ixE l0 (unE nG x0)) o0)))) (J2) (A8 (mtE S8 W4 l0 (F5 (y0 (ixE o0 B0) (ixE o0 x0))))))) (u9 (M0 d6 l0)))
def gG:List D->M D:=m9 3 AI
def gS:Fs:=u9 (y0 (ifE (tBn eqD (ixE g0 B0) (cSt "of")) (cSt "but") (cSt "of")) (ixE g0 x0))
def OC:List D->M D:=m9 1 gS
def sH:Fs:=u9 (M0 CB (U4 (itW g0) [none] S4 (y6) (y0 g0 cBt)))
def qE:List D->M D:=m9 1 sH
def oJ:Fs:=u9 (y0 (M0 lenF g0) g0)
def K4:List D->M D:=m9 1 oJ
def GK:Fs:=u9 (M0 d6 (eE K4 (K2 qE g0)))
def S7:List D->M D:=m9 1 GK
def wI:Fs:=u9 (K2 S7 (binE addD g0 l0))
def iL:List D->M D:=m9 2 wI
def OJ:Fs:=m5 (ifS (w4 (tBn eqD (ixE g0 B0) (cSt "of")) (tBn eqD (ixE l0 B0) (cSt "of"))) (J2) v4) (m5 (ifS (tBn eqD (ixE g0 B0) (cSt "of")) (J2) v4) (m5 (ifS (tBn eqD (ixE l0 B0) (cSt "of")) (J2) v4) (u9 (y0 (cSt "but") (K0 iL (ixE g0 x0) (ixE l0 x0))))))
def iI:List D->M D:=m9 2 OJ
def cK:Fs:=u9 (K2 OC (K0 iI (K2 OC g0) (K2 OC l0)))
def PF:List D->M D:=m9 2 cK
def SH:Fs:=m5 (ifS (orT (tBn P2 g0 A0) (tBn P2 l0 A0)) (u9 (ifE (tBn P2 g0 A0) l0 g0)) v4) (m5 (J2) (m5 (J2) (m5 (J2) (J2))))
def iH:List D->M D:=m9 5 SH
def gI:Fs:=m5 (ifS (orT (tBn P2 g0 A0) (tBn P2 l0 A0)) (u9 (ifE (tBn P2 g0 A0) l0 g0)) v4) (m5 (J2) (J2))
def X7:List D->M D:=m9 3 gI
def MK:Fs:=m5 (ifS (orT (tBn eqD g0 (cSt "any")) (tBn eqD l0 (cSt "any"))) (J2) v4) (u9 (D0 (fnX 5 C6) (u4 (K2 gG (M0 NA (binE addD (ixE g0 B0) (ixE l0 B0)))) (K0 PF (ixE g0 x0) (ixE l0 x0)) (M0 d6 (U4 (itW (y0 cBf cBt)) [none,some 0,some 1] S4 (orT (tBn inD g0 (ixE l0 C1)) (tBn inD g0 (ixE o0 C1))) g0)) (K0 iH (ixE g0 i4) (ixE l0 i4)) (K0 X7 (ixE g0 E5) (ixE l0 E5)))))
def IF:List D->M D:=m9 2 MK
def JAT:DSt->M Bool:=(tBn gtD (M0 lenF l0) x0)
def JAE:Fe:=(K0 IF g0 l0)
def vE:Fs:=m5 (J4 (M0 NA g0) U1) (m5 (V3 JAT (asQ (U4 (l5 (I0 (tB l0 (J3 B0) (J7) (J3 C1)) (tB l0 (J3 x0) (J7) (J3 C1)))) [none,none] (E4 2 (Q4 S4 (Q4 U1 (F4)))) (y6) JAE) S0 (J4 (binE addD o0 (J5 l0 (J3 (binE A5 C1 (M0 lenF o0))) (J7))) U1))) (u9 (ixE l0 B0)))
def QC:List D->M D:=m9 3 vE
def oQ:Fs:=m5 (ifS (t5 (truthE (mtE isStrM startsD g0 (I0 o0 l0)))) (J2) v4) (u9 (binE addD l0 (M0 lenF o0)))
def W2:List D->M D:=m9 3 oQ
def RT:DSt->M Bool:=(w4 (tBn ltD L0 (M0 lenF g0)) (g6 (nF leD leD o0 (ixE g0 L0) F0)))
def RB:Fs:=(J4 (binE addD L0 x0) i5)
def dG:Fs:=m5 (J4 l0 i5) (m5 (V3 RT RB) (u9 L0))
def V9:List D->M D:=m9 5 dG
def NZ:Fs:=(m5 (ifS (w4 (truthE (mtE isStrM startsD g0 (I0 (cSt "0") o0))) (tBn gtD (binE wB F0 l0) x0)) (J2) v4) (u9 (y0 (M0 E6 (J5 g0 (J3 l0) (J3 F0))) F0)))
def NE:Fs:=m5 (ifS (orT (tBn eqD F0 o0) (tBn gtD (binE wB F0 o0) (cIn 40))) (aB "NoValue" (F5 (cSt "no number of one to forty figures where one is due"))) v4) NZ
def bG:Fs:=m5 (J4 (ifE (truthE (mtE isStrM startsD g0 (I0 (cSt "-") l0))) (binE addD l0 x0) l0) S0) (asQ (uE V9 g0 o0 (cSt "0") (cSt "9")) F2 NE)
def V4:List D->M D:=m9 4 bG
def dO:Fs:=m5 (J4 (uE V9 g0 (binE addD l0 x0) (cSt "a") (cSt "z")) S0) (u9 (y0 (J5 g0 (J3 (binE addD l0 x0)) (J3 o0)) (kF W2 g0 o0 (cE (.str ("\"" :Str))))))
def F_text_at:List D->M D:=m9 3 dO
def nC:Fs:=m5 (ifS (tBn gtD o0 (cIn 20)) (J2) v4) (m5 (ifS (truthE (mtE isStrM startsD g0 (I0 (cSt "[") l0))) (J2) v4) (m5 (ifS (truthE (mtE isStrM startsD g0 (I0 (cSt "{") l0))) (J2) v4) (gdQ (truthE (mtE isStrM startsD g0 (I0 (cE (.str ("\"" :Str))) l0))) (K0 F_text_at g0 l0) (gdQ (truthE (mtE isStrM startsD g0 (I0 (cSt "true") l0))) (y0 cBt (binE addD l0 (M0 lenF (cSt "true")))) (gdQ (truthE (mtE isStrM startsD g0 (I0 (cSt "false") l0))) (y0 cBf (binE addD l0 (M0 lenF (cSt "false")))) (u9 (E2 (fnZ 2 V4) g0 l0)))))))
def pE:List D->M D:=m9 3 nC
def IL:Fs:=u9 (W6 (binE n9 g0 A0) (W6 (binE n9 l0 A0) (binE gtD g0 l0)))
def mH:List D->M D:=m9 2 IL
def fQ:Fs:=u9 (ifE (truthE (K0 mH g0 l0)) (cE (.tup [.tup [],.tup [.str ("of" :Str),.tup []],.tup [],.non,.non])) (D0 (fnX 5 C6) (u4 (A2 (y0 g0 l0)) (y0 (cSt "of") (T9 z0)) (T9 z0) A0 A0)))
def V8:List D->M D:=m9 2 fQ
def aM:Fs:=u9 (rC (mtE isStrM startsD g0 (I0 (cSt "-") l0)) (binE gtD (uE V9 g0 l0 (cSt "0") (cSt "9")) l0))
def R5:List D->M D:=m9 2 aM
def GG:Fs:=m5 (J4 (binE addD l0 (M0 lenF (cSt ".."))) F2) (gdQ (w4 (tBn n9 o0 A0) (t5 (truthE (K0 R5 g0 F0)))) (y0 (K0 V8 o0 A0) F0) (asQ (E2 (fnZ 2 V4) g0 F0) i5 (m5 (ifS (w4 (tBn n9 o0 A0) (tBn gtD o0 (ixE L0 B0))) (J2) v4) (u9 (y0 (K0 V8 o0 (ixE L0 B0)) (ixE L0 x0))))))
def T7:List D->M D:=m9 5 GG
def bP:Fs:=u9 (W6 (E2 P0 g0 (cE (.ty "int"))) (mC (E2 P0 g0 (cE (.ty "bool")))))
def tE:List D->M D:=m9 1 bP
def eM:Fs:=m5 (ifS (truthE (E2 P0 g0 (cE (.ty "bool")))) (u9 (D0 (fnX 5 C6) (u4 (T9 z0) (y0 (cSt "of") (T9 z0)) (A2 g0) A0 A0))) v4) (gdQ (truthE (E2 P0 g0 (cE (.ty "int")))) (K0 V8 g0 g0) (gdQ (truthE (E2 P0 g0 (cE (.ty "str")))) (D0 (fnX 5 C6) (u4 (T9 z0) (y0 (cSt "of") (A2 g0)) (T9 z0) A0 A0)) (m5 (ifS (tBn eqD (ixE g0 B0) (cSt "list")) (J2) v4) (J2))))
def fB:List D->M D:=m9 1 eM
def SK:Fs:=u9 (D0 (fnX 5 C6) (u4 (T9 z0) (y0 (cSt "of") (T9 z0)) (T9 z0) (y0 g0 l0) A0))
def HG:List D->M D:=m9 2 SK
def fR:Fs:=u9 (ixE g0 B0)
def V7:List D->M D:=m9 1 fR
def tM:Fs:=u9 (M0 KB (U4 (l5 (I0 g0 (J5 g0 (J3 x0) (J7)))) [none,none] (E4 2 (Q4 S4 (Q4 U1 (F4)))) (y6) (binE ltD g0 l0)))
def HF:List D->M D:=m9 1 tM
def vK:Fs:=u9 (D0 (fnX 5 C6) (u4 (T9 z0) (y0 (cSt "of") (T9 z0)) (T9 z0) A0 (y0 g0 l0)))
def rG:List D->M D:=m9 2 vK
def MO:Fs:=u9 (U4 (itW g0) [none] S4 (y6) (ixE g0 B0))
def MG:List D->M D:=m9 1 MO
def rJ(R:List D->M D):Fs:=m5 (J4 (uE V9 g0 l0 (cSt "a") (cSt "z")) F2) (m5 (ifS (tBn eqD F0 l0) (J2) v4) (asQ (mC (mtE isStrM startsD g0 (I0 (cSt "?") F0))) i5 (asQ (D0 (fnZ 3 R) (y3 g0 (kF W2 g0 (ifE (truthE L0) F0 (binE addD F0 x0)) (cSt ": ")) o0)) aA (u9 (y0 (B8 (J5 g0 (J3 l0) (J3 F0)) L0 (ixE C2 B0)) (ixE C2 x0))))))
def O6(R:List D->M D):List D->M D:=m9 6 (rJ R)
def iB:DSt->M Bool:=(t5 (truthE (mtE isStrM startsD g0 (I0 (cSt ".. ") l0))))
def inZ:Fs:=(gdQ (truthE (mtE isStrM startsD g0 (I0 o0 (ixE i3 x0)))) (B8 C2 (cE (.tup [.tup [],.tup [.str ("of" :Str),.tup []],.tup [],.non,.non])) (binE addD (ixE i3 x0) (M0 lenF o0))) (J4 (kF W2 g0 (ixE i3 x0) (cSt ", ")) U1))
def inB(R:List D->M D):Fs:=(asQ (MA 3 3 (w9 "inner_at" "field_at" R (O6 R)) (y3 g0 l0 L0)) sG (m5 (A8 (mtE S8 W4 C2 (F5 (ixE i3 B0)))) inZ))
def inE(R:List D->M D):Fs:=(asQ (D0 (fnZ 3 R) (y3 g0 (binE addD l0 (M0 lenF (cSt ".. "))) L0)) VC (u9 (B8 C2 (ixE EK B0) (kF W2 g0 (ixE EK x0) o0))))
def SD(R:List D->M D):Fs:=m5 (ifS (truthE (mtE isStrM startsD g0 (I0 o0 l0))) (u9 (B8 (E1 z0) (cE (.tup [.tup [],.tup [.str ("of" :Str),.tup []],.tup [],.non,.non])) (binE addD l0 (M0 lenF o0)))) v4) (asQ (E1 z0) aA (m5 (V3 iB (inB R)) (inE R)))
def J0(R:List D->M D):List D->M D:=m9 8 (SD R)
def KI(R:List D->M D):Fs:=m5 (J4 (D0 (fnZ 5 (J0 R)) (u4 g0 (binE addD l0 x0) (cSt "]") (cE (.fn "inner_at")) (binE addD o0 x0))) F2) (u9 (y0 (K0 HG (M0 d6 (ixE F0 B0)) (ixE F0 x0)) (ixE F0 C1)))
def N6(R:List D->M D):List D->M D:=m9 4 (KI R)
def Z6(R:List D->M D):Fs:=m5 (J4 (D0 (fnZ 5 (J0 R)) (u4 g0 (binE addD l0 x0) (cSt "}") (cE (.fn "field_at")) (binE addD o0 x0))) F2) (asQ (eE V7 (ixE F0 B0)) i5 (m5 (ifS (t5 (truthE (K2 HF (K2 MG L0)))) (J2) v4) (u9 (y0 (K0 rG (M0 d6 L0) (ixE F0 x0)) (ixE F0 C1)))))
def K3(R:List D->M D):List D->M D:=m9 5 (Z6 R)
def WK:Fs:=(ifS (truthE (mtE isStrM startsD g0 (I0 F0 l0))) (J2) v4)
def WL:Fs:=(F8 (itW (B8 (cSt "number") (cSt "text") (cSt "truth"))) F2 WK)
def WZ:Fs:=(gdQ (truthE (mtE isStrM startsD g0 (I0 (cSt "..") l0))) (D0 (fnZ 3 T7) (y3 g0 l0 A0)) (asQ (D0 (fnZ 3 pE) (y3 g0 l0 x0)) i5 (gdQ (w4 (truthE (K2 tE (ixE L0 B0))) (truthE (mtE isStrM startsD g0 (I0 (cSt "..") (ixE L0 x0))))) (D0 (fnZ 3 T7) (y3 g0 (ixE L0 x0) (ixE L0 B0))) (u9 (y0 (K2 fB (ixE L0 B0)) (ixE L0 x0))))))
def MB(R:List D->M D):Fs:=m5 (ifS (truthE (mtE isStrM startsD g0 (I0 (cSt "[") l0))) (u9 (D0 (fnZ 3 (N6 R)) (y3 g0 l0 o0))) v4) (gdQ (truthE (mtE isStrM startsD g0 (I0 (cSt "{") l0))) (D0 (fnZ 3 (K3 R)) (y3 g0 l0 o0)) (m5 (ifS (truthE (mtE isStrM startsD g0 (I0 (cSt "text but") l0))) (J2) v4) (m5 WL WZ)))
def u6(R:List D->M D):List D->M D:=m9 5 (MB R)
def QZ:Fs:=(m5 (A8 (mtE S8 W4 F0 (F5 (ixE L0 B0)))) (gdQ (t5 (truthE (mtE isStrM startsD g0 (I0 (cSt " or ") (ixE L0 x0))))) (y0 F0 (ixE L0 x0)) (J4 (binE addD (ixE L0 x0) (M0 lenF (cSt " or "))) U1)))
def QB(R:List D->M D):Fs:=(asQ (D0 (fnZ 3 (u6 R)) (y3 g0 l0 o0)) i5 QZ)
def mE(R:List D->M D):Fs:=m5 (J4 (E1 z0) F2) (V3 (truthE cBt) (QB R))
def OF(R:List D->M D):List D->M D:=m9 5 (mE R)
def LK(R:List D->M D):Fs:=m5 (J4 (D0 (fnZ 3 (OF R)) (y3 g0 (binE addD l0 x0) o0)) F2) (m5 (ifS (tBn eqD (M0 lenF (ixE F0 B0)) x0) (J2) v4) (u9 (y0 (K2 QC (ixE F0 B0)) (kF W2 g0 (ixE F0 x0) (cSt ")")))))
def T6(R:List D->M D):List D->M D:=m9 4 (LK R)
def iD(R:List D->M D):Fs:=m5 (ifS (tBn gtD o0 (cIn 20)) (aB "NoSet" (F5 (cSt "too many lists and records within one another"))) v4) (gdQ (truthE (mtE isStrM startsD g0 (I0 (cSt "(") l0))) (D0 (fnZ 3 (T6 R)) (y3 g0 l0 o0)) (asQ (K0 ID g0 l0) F2 (u9 (ifE (tBn P2 F0 A0) (D0 (fnZ 3 (u6 R)) (y3 g0 l0 o0)) F0))))
def v6:Nat->List D->M D
|0=>λ_=>M.stuck
|n+1=>m9 4 (iD (v6 n))
def N7:List D->M D:=v6 22
def GR:List D->M D:=O6 N7
def gN:List D->M D:=J0 N7
def uP:List D->M D:=N6 N7
def TL:List D->M D:=K3 N7
def BN:List D->M D:=u6 N7
def bJ:List D->M D:=OF N7
def bO:List D->M D:=T6 N7
def wJ:Fs:=m5 (J4 (K0 ID g0 l0) S0) (m5 (ifS (tBn n9 o0 A0) (J2) v4) (asQ (D0 (fnZ 3 bJ) (y3 g0 l0 x0)) F2 (u9 (y0 (K2 QC (ixE F0 B0)) (ixE F0 x0)))))
def MF:List D->M D:=m9 4 wJ
def tJ:Fs:=m5 (HC "NoValue" "NoSet" (J4 (E2 (fnZ 2 MF) g0 B0) U1)) (m5 (ifS (tBn neD (ixE l0 x0) (M0 lenF g0)) (J2) v4) (u9 (ixE l0 B0)))
def oH:List D->M D:=m9 3 tJ
def sJ:Fs:=m5 (J4 A0 U1) (asQ cBf S0 (m5 (NB "NoSet" (J4 (M0 (fnZ 1 oH) g0) U1) (J4 cBt S0)) (u9 (y0 l0 o0))))
def T3:List D->M D:=m9 3 sJ
def qJ:Fs:=m5 (ifS (tBn eqD l0 B0) (u9 (binE addD (binE addD (cSt "[") g0) (cSt "]"))) v4) (gdQ (tBn eqD l0 x0) (binE addD (binE addD (cSt "{a: ") g0) (cSt "}")) (gdQ (tBn eqD l0 C1) (binE addD (binE addD (cSt "{.. ") g0) (cSt "}")) (gdQ (tBn eqD l0 i4) (binE addD (binE addD (cSt "[(") g0) (cSt " or true)]")) (gdQ (tBn eqD l0 E5) (binE addD (binE addD (cSt "{b?: (") g0) (cE (.str (" or \"a\")}" :Str)))) (u9 (binE addD (binE addD (cSt "[.. (false or ") g0) (cSt ")]")))))))
def Q8:List D->M D:=m9 2 qJ
def MP:Fs:=m5 (J4 (lE N8) S0) (gdQ (tBn eqD l0 B0) (binE addD (J5 o0 (J7) (J3 i4)) (y0 (y0 (A2 g0) o0) A0)) (gdQ (tBn eqD l0 x0) (binE addD (J5 o0 (J7) (J3 E5)) (A2 (y0 (A2 (B8 (cSt "a") cBt g0)) o0))) (gdQ (tBn eqD l0 C1) (binE addD (J5 o0 (J7) (J3 E5)) (A2 (y0 (T9 z0) g0))) (gdQ (tBn eqD l0 i4) (binE addD (J5 o0 (J7) (J3 i4)) (y0 (y0 (A2 (binE addD (binE addD (J5 g0 (J7) (J3 C1)) (A2 (A2 cBt))) (J5 g0 (J3 i4) (J7)))) o0) A0)) (gdQ (tBn eqD l0 E5) (binE addD (J5 o0 (J7) (J3 E5)) (A2 (y0 (A2 (B8 (cSt "b") cBf (binE addD (binE addD (J5 g0 (J7) (J3 x0)) (A2 (y0 (cSt "of") (A2 (cSt "a"))))) (J5 g0 (J3 C1) (J7))))) o0))) (u9 (binE addD (J5 o0 (J7) (J3 i4)) (y0 (y0 (T9 z0) (binE addD (binE addD (J5 g0 (J7) (J3 C1)) (A2 (A2 cBf))) (J5 g0 (J3 i4) (J7)))) A0))))))))
def R4:List D->M D:=m9 3 MP
def SF(R:List D->M D):Fs:=(ifS (t5 (truthE (K0 R o0 F0))) (u9 cBf) v4)
def oF(R:List D->M D):Fs:=m5 (ifS (tBn P2 l0 A0) (u9 (binE P2 g0 A0)) v4) (gdQ (truthE (E2 P0 l0 (cE (.ty "bool")))) (W6 (E2 P0 g0 (cE (.ty "bool"))) (binE eqD g0 l0)) (gdQ (truthE (E2 P0 l0 (cE (.ty "int")))) (W6 (E2 P0 g0 (cE (.ty "int"))) (W6 (mC (E2 P0 g0 (cE (.ty "bool")))) (binE eqD g0 l0))) (gdQ (truthE (E2 P0 l0 (cE (.ty "str")))) (W6 (E2 P0 g0 (cE (.ty "str"))) (binE eqD g0 l0)) (gdQ (orT (t5 (truthE (E2 P0 g0 (cE (.ty "tuple"))))) (tBn neD (M0 lenF g0) (M0 lenF l0))) cBf (m5 (F8 (l5 (I0 g0 l0)) (E4 2 (Q4 S0 (Q4 F2 (F4)))) (SF R)) (u9 cBt))))))
def V6:Nat->List D->M D
|0=>λ_=>M.stuck
|n+1=>m9 4 (oF (V6 n))
def FE:List D->M D:=V6 90
def lB:Fs:=(asQ (K0 o9 l0 iT) MH (m5 (ifS (tBn eqD L0 (cSt "any")) (J4 (binE t4 IC i4) MH) v4) (asQ (K0 Q8 L0 IC) i5 (J4 (K0 R4 C2 IC) aA))))
def lV:Fs:=(asQ (K2 T3 (binE addD (binE addD (cSt "[7, ") L0) (cSt "]"))) (E4 2 (Q4 (O0 10) (Q4 (O0 11) (F4)))) (asQ (W6 (binE ltD F0 (cIn 19)) i3) rN (asQ (binE addD (A2 (A2 (y0 vQ vQ))) (J5 (lE N8) (J3 x0) (J7))) (O0 12) (asQ (binE addD (J5 (lE N8) (J7) (J3 i4)) (y0 (y0 (y0 (K9 12) C2) (lE N8)) A0)) (O0 13) (u9 (W6 (binE neD (K9 11) LD) (K0 FE (K9 10) (ixE (E1 (I0 A0 (K9 13))) (M0 E6 LD)))))))))
def lU:Fs:=(asQ (W6 (binE ltD F0 (cIn 20)) i3) rN (asQ (K2 T3 L0) (E4 2 (Q4 (O0 10) (Q4 (O0 11) (F4)))) (gdQ (orT (tBn eqD (K9 11) LD) (t5 (truthE (K0 FE (K9 10) (ixE (E1 (I0 A0 C2)) (M0 E6 LD)))))) cBf lV)))
def lS:Fs:=(m5 (F8 (KA (F5 F0)) VC lB) lU)
def lQ:Fs:=(asQ (K0 S9 l0 o0) (E4 2 (Q4 i5 (Q4 aA (F4)))) (asQ (rC (binE leD o0 (cIn 40)) (binE inD L0 (B8 (cSt "any") (cSt "[]") (cSt "{}")))) sG lS))
def lP:Fs:=(asQ (ixE (E1 (uH (cIn 19) (cIn 20) x0 (cIn 18))) (K0 o9 l0 E5)) F2 (m5 (ifS (tBn eqD (K0 o9 l0 C1) x0) (J4 (binE addD x0 (K0 o9 l0 (cIn 40))) F2) v4) lQ))
def QF:Fs:=m5 (J4 (K2 T5 g0) U1) (asQ (ixE (E1 (uH x0 (cIn 40) (cIn 41) (cIn 39))) (K0 o9 l0 E5)) S0 (m5 (ifS (tBn eqD (K0 o9 l0 i4) C1) (J4 (binE addD x0 (K0 o9 l0 (cIn 60))) S0) v4) lP))
def KJ:List D->M D:=m9 14 QF
local macro_rules | `(tactic| walk_at "cl") => `(tactic| (refine ⟨?k, ?kk, ?a, ?b, ?c⟩; (case a => first | (dsimp only [Cx.nox, U5]; with_reducible assumption) | assumption); (case b => assumption); (case c => first | decide | omega)))
local macro_rules | `(tactic| walk_at "ck") => `(tactic| (refine ⟨?k, ?kk, ?kkk, ?a, ?b, ?c, ?d⟩; (case a => assumption); (case b => rfl); (case c => rfl); (case d => decide +kernel)))
local macro_rules | `(tactic| walk_at "od") => `(tactic| first
 |with_reducible exact Hh
 |with_reducible exact mY
 |with_reducible exact tW
 |with_reducible exact eW
 |with_reducible exact NT
 |with_reducible exact uV
 |with_reducible exact mn
 |with_reducible exact Qm
 |with_reducible exact MY
 |with_reducible exact oh
 |with_reducible exact oY
 |((with_reducible refine wq ?_);exact K8.units (by assumption))
 |((with_reducible refine Hf ?_);exact K8.units (by assumption))
 |((with_reducible refine kw ?_);exact K8.units (by assumption))
 |((with_reducible refine DY ?_);exact K8.units (by assumption))
 |((with_reducible refine Pz ?_);exact K8.units (by assumption))
 |((with_reducible refine Bz ?_);exact K8.units (by assumption)))
local macro_rules | `(tactic| walk_at "bd") => `(tactic| first
 |with_reducible exact GZ
 |with_reducible exact Dq
 |with_reducible exact fW
 |with_reducible exact KW
 |with_reducible exact gX
 |with_reducible exact Tv
 |with_reducible exact Dm
 |with_reducible exact KU
 |with_reducible exact bq
 |with_reducible exact Nf)
local macro_rules | `(tactic| walk_at "da") => `(tactic| first
 |with_reducible exact mR
 |((with_reducible refine UX ?_ ?_ ?_);walk_at "de";walk_at "da";rfl))
local macro_rules | `(tactic| walk_at "do") => `(tactic| first
 |with_reducible exact Wd
 |((with_reducible refine qY ?_);walk_at "de"))
local macro_rules | `(tactic| walk_at "pk") => `(tactic| first | exact AW | ((apply Mz); walk_at "pk"; walk_at "pk"; (unfold kA; decide); rfl) | ((apply iZ); walk_at "pk"; walk_at "pk"; rfl))
local macro_rules | `(tactic| walk_at "de") => `(tactic| first
 |with_reducible exact qk
 |with_reducible exact iY
 |with_reducible exact Lx
 |with_reducible exact pW
 |((with_reducible refine AX _ ?_ ?_ ?_ ?_);rfl;(first|exact Or.inl rfl|exact Or.inr (Or.inl rfl)|exact Or.inr (Or.inr rfl));decide;decide)
 |((with_reducible refine Dw ?_ ?_ ?_ ?_ ?_ ?_);assumption;decide;decide +kernel;rfl;decide;decide)
 |((with_reducible refine nr ?_ ?_ ?_);assumption;rfl;decide)
 |((with_reducible refine Sd ?_ ?_ ?_);walk_at "od";walk_at "de";walk_at "de")
 |((with_reducible refine Hj ET ?_);walk_at "de")
 |((with_reducible refine ao ?_);walk_at "de")
 |((with_reducible refine Qk ?_ ?_ ?_ ?_);walk_at "od";walk_at "de";walk_at "de";with_unfolding_all rfl)
 |((with_reducible refine av ?_);walk_at "de")
 |((with_reducible refine tZ ?_ ?_);walk_at "de";walk_at "de")
 |((with_reducible refine Tg ?_ ?_);walk_at "de";walk_at "de")
 |((with_reducible refine dU ?_ ?_ ?_);walk_at "dt";walk_at "de";walk_at "de")
 |((with_reducible refine kX ?_);walk_at "da")
 |((with_reducible refine TY ?_);walk_at "da")
 |((with_reducible refine nZ ?_ ?_ ?_);walk_at "de";walk_at "do";walk_at "do")
 |((with_reducible refine Bk ?_ ?_ ?_ ?_);walk_at "de";walk_at "do";walk_at "do";walk_at "do")
 |((with_reducible refine Bb ?_ ?_ ?_);walk_at "de";walk_at "de";exact λ_ _=>rfl)
 |((with_reducible refine uU ?_ ?_ ?_ ?_ ?_);walk_at "cl";rfl;walk_at "da";decide;rfl)
 |((with_reducible refine sZ ?_ ?_ ?_);walk_at "cl";rfl;decide)
 |((with_reducible refine FU ?_ ?_ ?_ ?_ ?_ ?_ ?_ ?_);walk_at "cl";walk_at "cl";rfl;(first|exact .inl rfl|exact .inr (.inl rfl)|exact .inr (.inr rfl));decide;decide;rfl;walk_at "da")
 |((with_reducible refine VT ?_ ?_ ?_ ?_ ?_ ?_ ?_ ?_);rfl;walk_at "cl";assumption;rfl;rfl;walk_at "de";rfl;decide)
 |((with_reducible refine Ld ?_ ?_ ?_ ?_ ?_ ?_ ?_ ?_);rfl;walk_at "cl";assumption;rfl;rfl;walk_at "de";rfl;decide)
 |((with_reducible refine BV ?_ ?_ ?_ ?_ ?_ ?_ ?_ ?_ ?_);rfl;walk_at "bd";assumption;decide +kernel;rfl;walk_at "da";decide;decide;rfl)
 |((with_reducible refine eR ZS XF IT ?_ ?_ ?_ ?_ ?_ ?_ ?_);walk_at "de";walk_at "da";rfl;rfl;rfl;exact N0 rfl;rfl)
 |((with_reducible refine eR PySem.F.slot_list_pop PySem.F.type_list_pop Vc ?_ ?_ ?_ ?_ ?_ ?_ ?_);walk_at "de";walk_at "da";rfl;rfl;rfl;exact N0 rfl;rfl)
 |((with_reducible refine OY Js PySem.F.type_str_startswith wd ?_ ?_ ?_ ?_ ?_ ?_ ?_);walk_at "de";walk_at "da";rfl;rfl;rfl;exact N0 rfl;rfl)
 |((with_reducible refine qv ?_ ?_ ?_ ?_ ?_ ?_ ?_ ?_);rfl;walk_at "di";walk_at "ck";decide +kernel;(intro _ _ _ _ _;walk_at "dg");(intro _ _ _ _;walk_at "dts");(intro _ _ _ _;walk_at "de");exact λ_=>rfl))
local macro_rules | `(tactic| walk_at "dt") => `(tactic| first
 |((with_reducible refine DW.dt ?_);walk_at "dw")
 |((with_reducible refine eY ?_);walk_at "dt")
 |((with_reducible refine Nh ?_ ?_ ?_ ?_);walk_at "od";walk_at "de";walk_at "de";with_unfolding_all rfl)
 |((with_reducible refine UY ?_ ?_ ?_ ?_ ?_ ?_);walk_at "od";walk_at "od";walk_at "de";walk_at "de";walk_at "de";with_unfolding_all rfl)
 |((with_reducible refine Td ?_ ?_);walk_at "de";exact λ_=>rfl))
local macro_rules | `(tactic| walk_at "dw") => `(tactic| first
 |((with_reducible refine TU ?_);walk_at "dt")
 |((with_reducible refine bo ?_);walk_at "dt")
 |((with_reducible refine Cw ?_ ?_);walk_at "dt";walk_at "dw")
 |((with_reducible refine Vk ?_ ?_);walk_at "dt";walk_at "dw"))
local macro_rules | `(tactic| walk_at "dts") => `(tactic| first
 |with_reducible exact Mg
 |((with_reducible refine UW ?_);walk_at "dt"))
local macro_rules | `(tactic| walk_at "di") => `(tactic| first
 |((with_reducible refine ny ?_ ?_ ?_ ?_);assumption;rfl;walk_at "da";rfl)
 |((with_reducible refine Bc ?_ ?_ ?_ ?_ ?_);assumption;rfl;walk_at "da";rfl;rfl)
 |((with_reducible refine bx ?_);walk_at "de"))
local macro_rules | `(tactic| walk_at "dg") => `(tactic| first
 |((with_reducible refine Gh ?_ ?_ ?_ ?_);exact⟨_,_,_, ‹M4 _ _ _›,rfl⟩;rfl;(first|exact Or.inl rfl|exact Or.inr rfl);(first|exact .inl rfl|exact .inr rfl))
 |((with_reducible refine bS ?_ ?_ ?_ ?_);assumption;rfl;(first|exact Or.inl rfl|exact Or.inr rfl);(first|exact .inl rfl|exact .inr rfl))
 |((with_reducible refine br ?_ ?_ ?_ ?_);rfl;walk_at "dgs";rfl;rfl))
local macro_rules | `(tactic| walk_at "dgs") => `(tactic| first
 |with_reducible exact Cb
 |((with_reducible refine Wh ?_ ?_ ?_);walk_at "dg";walk_at "dgs";rfl))
local macro_rules | `(tactic| walk_at "ds") => `(tactic| first
 |((with_reducible refine rY ?_);walk_at "de")
 |((with_reducible refine Rz ?_ ?_ ?_);walk_at "dt";walk_at "db";walk_at "db")
 |((with_reducible refine Gd ?_ ?_ ?_ ?_ ?_ ?_ ?_ ?_ ?_ ?_);rfl;walk_at "di";walk_at "ck";decide +kernel;(intro _ _ _ _ _;walk_at "dg");(intro _ _ _ _;walk_at "dts");(intro _ _ _ _;walk_at "de");(exact λ_=>rfl);walk_at "dg";rfl)
 |((with_reducible refine fg ?_ ?_ ?_ ?_ ?_);walk_at "de";walk_at "dg";rfl;rfl;rfl)
 |((with_reducible refine aa ?_ ?_);walk_at "de";rfl)
 |((with_reducible refine wR ?_ ?_ ?_ ?_ ?_ ?_);exact PassesOwn.never;rfl;walk_at "di";walk_at "dg";walk_at "db";exact λ_=>rfl)
 |((with_reducible refine LR ?_ ?_ ?_);exact PassesOwn.never;walk_at "dt";walk_at "db")
 |with_reducible exact Bp)
local macro_rules | `(tactic| walk_at "db") => `(tactic| first
 |with_reducible exact Tz
 |((with_reducible refine vR ?_);walk_at "ds")
 |((with_reducible refine VM ?_ ?_);walk_at "ds";walk_at "db"))
local macro_rules | `(tactic| walk_at "db0") => `(tactic| first
 |(refine vR ?_;walk_at "ds")
 |(refine VM ?_ ?_;walk_at "ds";walk_at "db"))
set_option maxHeartbeats 2000000
local macro_rules | `(tactic| walk_at "th") => `(tactic| first | exact Kk | exact AY)
local macro_rules | `(tactic| walk_at "de") => `(tactic| first
 |((with_reducible refine EZ ?_ ?_ ?_ ?_ ?_ ?_);walk_at "th";walk_at "cl";rfl;walk_at "da";decide;rfl)
 |((with_reducible refine BW ?_ ?_ ?_ ?_ ?_ ?_ ?_ ?_ ?_);walk_at "th";walk_at "cl";walk_at "cl";rfl;(first|exact .inl rfl|exact .inr (.inl rfl)|exact .inr (.inr rfl));decide;decide;rfl;walk_at "da")
 |((with_reducible refine Ph ?_ ?_ ?_);exact⟨_,_,_,by assumption⟩;rfl;decide)
 |((with_reducible refine Rx ?_);walk_at "dj")
 |((with_reducible refine vw ?_);walk_at "de"))
local macro_rules | `(tactic| walk_at "dj") => `(tactic| first
 |with_reducible exact Vd
 |((with_reducible refine GV ?_ ?_);walk_at "de";walk_at "dj"))
local macro_rules | `(tactic| walk_at "eat") => `(tactic| first
 |((with_reducible refine FW ?_ ?_);walk_at "eat";exact N0 rfl)
 |((with_reducible refine wm ?_ ?_ ?_ ?_ ?_ ?_);rfl;walk_at "cl";rfl;(intro _ _ _;walk_at "da");decide;rfl))
local macro_rules | `(tactic| walk_at "bat") => `(tactic| ((with_reducible refine tT ?_ ?_ ?_ ?_ ?_); walk_at "eat"; (intro _ _ _; walk_at "dg"); rfl; rfl; rfl))
local macro_rules | `(tactic| walk_at "ds") => `(tactic| first
 |((with_reducible refine lW ?_ ?_ ?_ ?_ ?_);assumption;rfl;walk_at "da";decide;rfl)
 |((with_reducible refine iX ?_ ?_ ?_ ?_ ?_ ?_ ?_ ?_);rfl;rfl;rfl;assumption;rfl;decide;walk_at "bat";(intro _;walk_at "db"))
 |((with_reducible refine Sb ?_ ?_ ?_ ?_ ?_ ?_ ?_ ?_ ?_ ?_ ?_);assumption;rfl;rfl;decide;decide;decide;decide;decide;exact(‹M4 _ _ _› :M4 _ _ _).nd;rfl;walk_at "bat")
 |((with_reducible refine Wx ?_ ?_ ?_ ?_ ?_ ?_ ?_ ?_ ?_ ?_ ?_ ?_ ?_ ?_ ?_ ?_ ?_ ?_ ?_ ?_ ?_ ?_ ?_ ?_ ?_ ?_);rfl;rfl;rfl;assumption;assumption;rfl;rfl;rfl;(first|exact Or.inl rfl|exact Or.inr rfl);(first|exact .inl rfl|exact .inr rfl);exact(‹M4 _ _ _› :M4 _ _ _).nd;rfl;rfl;rfl;rfl;rfl;rfl;rfl;rfl;decide;rfl;rfl;rfl;rfl;decide;walk_at "bat")
 |((with_reducible refine wR ?_ ?_ ?_ ?_ ?_ ?_);exact JC;rfl;walk_at "di";walk_at "dg";walk_at "db";exact λ_=>rfl)
 |((with_reducible refine LR ?_ ?_ ?_);exact JC;walk_at "dt";walk_at "db"))
local macro_rules | `(tactic| walk_at "bd") => `(tactic| with_reducible exact vW)
local macro_rules | `(tactic| walk_at "sc") => `(tactic| exact ⟨rfl, rfl, rfl, by decide +kernel, rfl, by decide +kernel, by decide +kernel⟩)
local macro_rules | `(tactic| walk_at "ba") => `(tactic| (intro _ _ _ _ _ _ us h; (repeat (have q := Pw h; clear h; obtain ⟨_, _, e, h⟩ := q; subst e)); cases List.eq_nil_of_length_eq_zero h; rfl))
abbrev UM:D:=.str ("any" :Str)
abbrev HR:D:=.tup [.tup [],.tup [.str ("of" :Str),.tup []],.tup [],.non,.non]
abbrev VQ:D:=.tup [.tup [.tup [.non,.non]],.tup [.str ("but" :Str),.tup []],.tup [.bl false,.bl true],.tup [.tup [],.str ("any" :Str)],.tup [.tup [],.str ("any" :Str)]]
abbrev AS:D:=.int 40
abbrev SQ:D:=.int 20
structure BC(K:zc)(mg:Str->Option ze):Prop where
 b:BLs mg
 c_ANY:nB K mg "ANY" UM
 c_NOTHING:nB K mg "NOTHING" HR
 c_ALL_PARTS:nB K mg "ALL_PARTS" VQ
 c_MOST_FIGURES:nB K mg "MOST_FIGURES" AS
 c_MOST_DEEP:nB K mg "MOST_DEEP" SQ
 x_NoValue:EB K mg "NoValue"
 x_NoSet:EB K mg "NoSet"
 r_0:XR K mg "NoValue" "NoSet"
local macro_rules | `(tactic| walk_at "s1") => `(tactic| (walk_at "sc"; walk_at "ba"; (intro _ _ _ _ _ _ _ _ _; obtain ⟨_, _, _, _, _, _, _, _, _⟩ := (‹_› : BC _ _); skip)))
def top(i:Nat):Stmt:=PySem.Challenge.pw_allmeet_k48_how_deep_and_how_long.main.body.getD i (.Pass ⟨0,0,0,0⟩)
section
variable{E:Ev}(zx:EvX E)(zb:BC E.K E.mg)
include zx zb
theorem SV(Y:FH E.K "_law_draws" (top 73)):Ck E T5 1 "_law_draws" 1:=by refine Q9 ["script", "draws", "k", "rest", "stir", "many"] ["script"] zx Y ?_ ?_ rfl rfl ?_;walk_at "s1";unfold UI;unfold DB D1 D2 WT1 WB1;walk_at "db0"
variable(k0:Ck E T5 1 "_law_draws" 1)
theorem Hd(Y:FH E.K "_law_nothing" (top 75)):Ck E N8 0 "_law_nothing" 1:=by refine Q9 [] [] zx Y ?_ ?_ rfl rfl ?_;walk_at "s1";unfold ER;walk_at "db0"
variable(k1:Ck E N8 0 "_law_nothing" 1)
theorem Fh(Y:FH E.K "_law_take" (top 74)):Ck E o9 2 "_law_take" 1:=by refine Q9 ["draws", "many"] ["draws", "many"] zx Y ?_ ?_ rfl rfl ?_;walk_at "s1";unfold II;walk_at "db0"
variable(k2:Ck E o9 2 "_law_take" 1)
include k2 in
theorem vf(Y:FH E.K "_law_figures" (top 77)):Ck E X3 2 "_law_figures" 2:=by refine Q9 ["draws", "size", "text", "k"] ["draws", "size"] zx Y ?_ ?_ rfl rfl ?_;walk_at "s1";unfold kK;unfold fgB;walk_at "db0"
variable(k3:Ck E X3 2 "_law_figures" 2)
include k1 k2 k3 in
theorem HY(Y:FH E.K "_law_innermost" (top 81)):Ck E S9 2 "_law_innermost" 3:=by refine Q9 ["draws", "size", "none", "way", "some", "figures", "number", "text", "pair"] ["draws", "size"] zx Y ?_ ?_ rfl rfl ?_;walk_at "s1";unfold fJ;unfold iN iM iP;walk_at "db0"
variable(k4:Ck E S9 2 "_law_innermost" 3)
theorem Cj(Y:FH E.K "alone_at" (top 59)):Ck E ID 2 "alone_at" 1:=by refine Q9 ["text", "at"] ["text", "at"] zx Y ?_ ?_ rfl rfl ?_;walk_at "s1";unfold lG;walk_at "db0"
variable(k5:Ck E ID 2 "alone_at" 1)
theorem pZ(Y:FH E.K "lists_in_form" (top 36)):Ck E U7 1 "lists_in_form" 1:=by refine Q9 ["lists"] ["lists"] zx Y ?_ ?_ rfl rfl ?_;walk_at "s1";unfold CI;walk_at "db0"
variable(k6:Ck E U7 1 "lists_in_form" 1)
theorem cn(Y:FH E.K "records_in_form" (top 37)):Ck E O5 1 "records_in_form" 1:=by refine Q9 ["records"] ["records"] zx Y ?_ ?_ rfl rfl ?_;walk_at "s1";unfold Z3;walk_at "db0"
variable(k7:Ck E O5 1 "records_in_form" 1)
include k6 k7 in
theorem TV(Y:FH E.K "made" (top 35)):Ck E C6 5 "made" 2:=by refine Q9 ["numbers", "texts", "truths", "lists", "records", "parts"] ["numbers", "texts", "truths", "lists", "records"] zx Y ?_ ?_ rfl rfl ?_;walk_at "s1";unfold dJ;walk_at "db0"
variable(k8:Ck E C6 5 "made" 2)
theorem cW(Y:FH E.K "low_order" (top 12)):Ck E J8 1 "low_order" 1:=by refine Q9 ["stretch"] ["stretch"] zx Y ?_ ?_ rfl rfl ?_;walk_at "s1";unfold DM;walk_at "db0"
variable(k9:Ck E J8 1 "low_order" 1)
theorem HV(Y:FH E.K "lies_clear" (top 11)):Ck E cJ 2 "lies_clear" 1:=by refine Q9 ["lower", "upper"] ["lower", "upper"] zx Y ?_ ?_ rfl rfl ?_;walk_at "s1";unfold EN;walk_at "db0"
variable(k10:Ck E cJ 2 "lies_clear" 1)
include k9 k10 in
theorem kh(Y:FH E.K "numbers_of" (top 13)):Ck E gG 1 "numbers_of" 4:=by refine Q9 ["pairs", "merged", "pair"] ["pairs"] zx Y ?_ ?_ rfl rfl ?_;walk_at "s1";unfold AI;walk_at "db0"
variable(k11:Ck E gG 1 "numbers_of" 4)
theorem BZ(Y:FH E.K "turned" (top 17)):Ck E OC 1 "turned" 1:=by refine Q9 ["texts"] ["texts"] zx Y ?_ ?_ rfl rfl ?_;walk_at "s1";unfold gS;walk_at "db0"
variable(k12:Ck E OC 1 "turned" 1)
theorem bz(Y:FH E.K "marked" (top 18)):Ck E qE 1 "marked" 1:=by refine Q9 ["texts"] ["texts"] zx Y ?_ ?_ rfl rfl ?_;walk_at "s1";unfold sH;walk_at "db0"
variable(k13:Ck E qE 1 "marked" 1)
theorem Bx(Y:FH E.K "text_order" (top 8)):Ck E K4 1 "text_order" 1:=by refine Q9 ["text"] ["text"] zx Y ?_ ?_ rfl rfl ?_;walk_at "s1";unfold oJ;walk_at "db0"
variable(k14:Ck E K4 1 "text_order" 1)
include k13 k14 in
theorem Nd(Y:FH E.K "rising_texts" (top 19)):Ck E S7 1 "rising_texts" 4:=by refine Q9 ["texts"] ["texts"] zx Y ?_ ?_ rfl rfl ?_;walk_at "s1";unfold GK;walk_at "db0"
variable(k15:Ck E S7 1 "rising_texts" 4)
include k15 in
theorem dr(Y:FH E.K "in_either" (top 22)):Ck E iL 2 "in_either" 5:=by refine Q9 ["one", "other"] ["one", "other"] zx Y ?_ ?_ rfl rfl ?_;walk_at "s1";unfold wI;walk_at "db0"
variable(k16:Ck E iL 2 "in_either" 5)
include k16 in
theorem vd(Y:FH E.K "meet_texts" (top 15)):Ck E iI 2 "meet_texts" 6:=by refine Q9 ["one", "other"] ["one", "other"] zx Y ?_ ?_ rfl rfl ?_;walk_at "s1";unfold OJ;walk_at "db0"
variable(k17:Ck E iI 2 "meet_texts" 6)
include k12 k17 in
theorem Rk(Y:FH E.K "join_texts" (top 16)):Ck E PF 2 "join_texts" 7:=by refine Q9 ["one", "other"] ["one", "other"] zx Y ?_ ?_ rfl rfl ?_;walk_at "s1";unfold cK;walk_at "db0"
variable(k18:Ck E PF 2 "join_texts" 7)
theorem Wq(Y:FH E.K "join_lists" (top 40)):Ck E iH 2 "join_lists" 1:=by refine Q9 ["one", "other", "shorter", "fronts", "more"] ["one", "other"] zx Y ?_ ?_ rfl rfl ?_;walk_at "s1";unfold SH;walk_at "db0"
variable(k19:Ck E iH 2 "join_lists" 1)
theorem Wg(Y:FH E.K "join_records" (top 41)):Ck E X7 2 "join_records" 1:=by refine Q9 ["one", "other", "fields"] ["one", "other"] zx Y ?_ ?_ rfl rfl ?_;walk_at "s1";unfold gI;walk_at "db0"
variable(k20:Ck E X7 2 "join_records" 1)
include k8 k11 k18 k19 k20 in
theorem cU(Y:FH E.K "join" (top 39)):Ck E IF 2 "join" 8:=by refine Q9 ["one", "other"] ["one", "other"] zx Y ?_ ?_ rfl rfl ?_;walk_at "s1";unfold MK;walk_at "db0"
variable(k21:Ck E IF 2 "join" 8)
include k21 in
theorem ag(Y:FH E.K "join_all" (top 43)):Ck E QC 1 "join_all" 9:=by refine Q9 ["sets", "waiting", "joined"] ["sets"] zx Y ?_ ?_ rfl rfl ?_;walk_at "s1";unfold vE;unfold JAT JAE;walk_at "db0"
variable(k22:Ck E QC 1 "join_all" 9)
theorem PZ(Y:FH E.K "behind" (top 55)):Ck E W2 3 "behind" 1:=by refine Q9 ["text", "at", "sign"] ["text", "at", "sign"] zx Y ?_ ?_ rfl rfl ?_;walk_at "s1";unfold oQ;walk_at "db0"
variable(k23:Ck E W2 3 "behind" 1)
theorem Pq(Y:FH E.K "run_end" (top 54)):Ck E V9 4 "run_end" 1:=by refine Q9 ["text", "at", "first", "last", "end"] ["text", "at", "first", "last"] zx Y ?_ ?_ rfl rfl ?_;walk_at "s1";unfold dG;unfold RT RB;walk_at "db0"
variable(k24:Ck E V9 4 "run_end" 1)
include k24 in
theorem Km(Y:FH E.K "number_at" (top 53)):CkZ E V4 2 "number_at" 2:=by refine D4 ["text", "at", "start", "end"] ["text", "at"] zx Y ?_ ?_ rfl rfl ?_;walk_at "s1";unfold bG;unfold NE NZ;walk_at "db0"
variable(k25:CkZ E V4 2 "number_at" 2)
include k23 k24 in
theorem Df(Y:FH E.K "text_at" (top 52)):Ck E F_text_at 2 "text_at" 2:=by refine Q9 ["text", "at", "end"] ["text", "at"] zx Y ?_ ?_ rfl rfl ?_;walk_at "s1";unfold dO;walk_at "db0"
variable(k26:Ck E F_text_at 2 "text_at" 2)
include k25 k26 in
theorem Gv(Y:FH E.K "value_at" (top 47)):CkZ E pE 3 "value_at" 3:=by refine D4 ["text", "at", "depth"] ["text", "at", "depth"] zx Y ?_ ?_ rfl rfl ?_;walk_at "s1";unfold nC;walk_at "db0"
variable(k27:CkZ E pE 3 "value_at" 3)
theorem cg(Y:FH E.K "is_empty" (top 10)):Ck E mH 2 "is_empty" 1:=by refine Q9 ["low", "high"] ["low", "high"] zx Y ?_ ?_ rfl rfl ?_;walk_at "s1";unfold IL;walk_at "db0"
variable(k28:Ck E mH 2 "is_empty" 1)
include k8 k28 in
theorem Ff(Y:FH E.K "stretch" (top 32)):Ck E V8 2 "stretch" 3:=by refine Q9 ["low", "high"] ["low", "high"] zx Y ?_ ?_ rfl rfl ?_;walk_at "s1";unfold fQ;walk_at "db0"
variable(k29:Ck E V8 2 "stretch" 3)
include k24 in
theorem Cc(Y:FH E.K "begins_number" (top 65)):Ck E R5 2 "begins_number" 2:=by refine Q9 ["text", "at"] ["text", "at"] zx Y ?_ ?_ rfl rfl ?_;walk_at "s1";unfold aM;walk_at "db0"
variable(k30:Ck E R5 2 "begins_number" 2)
include k25 k29 k30 in
theorem RU(Y:FH E.K "stretch_at" (top 64)):CkZ E T7 3 "stretch_at" 4:=by refine D4 ["text", "at", "low", "start", "found"] ["text", "at", "low"] zx Y ?_ ?_ rfl rfl ?_;walk_at "s1";unfold GG;walk_at "db0"
variable(k31:CkZ E T7 3 "stretch_at" 4)
theorem bX(Y:FH E.K "is_whole" (top 5)):Ck E tE 1 "is_whole" 1:=by refine Q9 ["thing"] ["thing"] zx Y ?_ ?_ rfl rfl ?_;walk_at "s1";unfold bP;walk_at "db0"
variable(k32:Ck E tE 1 "is_whole" 1)
include k8 k29 in
theorem Mp(Y:FH E.K "set_of" (top 30)):Ck E fB 1 "set_of" 4:=by refine Q9 ["value"] ["value"] zx Y ?_ ?_ rfl rfl ?_;walk_at "s1";unfold eM;walk_at "db0"
variable(k33:Ck E fB 1 "set_of" 4)
include k8 in
theorem DZ(Y:FH E.K "lists_set" (top 33)):Ck E HG 2 "lists_set" 3:=by refine Q9 ["fronts", "more"] ["fronts", "more"] zx Y ?_ ?_ rfl rfl ?_;walk_at "s1";unfold SK;walk_at "db0"
variable(k34:Ck E HG 2 "lists_set" 3)
theorem aZ(Y:FH E.K "name_of" (top 69)):Ck E V7 1 "name_of" 1:=by refine Q9 ["field"] ["field"] zx Y ?_ ?_ rfl rfl ?_;walk_at "s1";unfold fR;walk_at "db0"
variable(k35:Ck E V7 1 "name_of" 1)
theorem EY(Y:FH E.K "rising" (top 6)):Ck E HF 1 "rising" 1:=by refine Q9 ["keys"] ["keys"] zx Y ?_ ?_ rfl rfl ?_;walk_at "s1";unfold tM;walk_at "db0"
variable(k36:Ck E HF 1 "rising" 1)
include k8 in
theorem mV(Y:FH E.K "records_set" (top 34)):Ck E rG 2 "records_set" 3:=by refine Q9 ["fields", "more"] ["fields", "more"] zx Y ?_ ?_ rfl rfl ?_;walk_at "s1";unfold vK;walk_at "db0"
variable(k37:Ck E rG 2 "records_set" 3)
theorem PU(Y:FH E.K "names_of" (top 7)):Ck E MG 1 "names_of" 1:=by refine Q9 ["pairs"] ["pairs"] zx Y ?_ ?_ rfl rfl ?_;walk_at "s1";unfold MO;walk_at "db0"
variable(k38:Ck E MG 1 "names_of" 1)
include k23 k24 in
theorem fM{R:List D->M D}{lv:Nat}(kR:CkZ E R 3 "inner_at" lv)(h2:9<=lv)(Y:FH E.K "field_at" (top 71)):CkZ E (O6 R) 3 "field_at" (lv+1):=by refine D4 ["text", "at", "depth", "end", "must", "found"] ["text", "at", "depth"] zx Y ?_ ?_ rfl rfl ?_;walk_at "s1";unfold rJ;walk_at "db0"
include k23 in
theorem vM{R:List D->M D}{lv:Nat}(kR:CkZ E R 3 "inner_at" lv)(h40:CkZ E (O6 R) 3 "field_at" (lv+1))(h2:9<=lv)(Y:FH E.K "inside_at" (top 70)):CkZ E (J0 R) 5 "inside_at" (lv+2):=by refine D4 ["text", "at", "close", "part_at", "depth", "parts", "found", "more"] ["text", "at", "close", "part_at", "depth"] zx Y ?_ ?_ rfl rfl ?_;walk_at "s1";unfold SD;unfold inB inZ inE iB;walk_at "db0"
include k34 in
theorem gQ{R:List D->M D}{lv:Nat}(kR:CkZ E R 3 "inner_at" lv)(h41:CkZ E (J0 R) 5 "inside_at" (lv+2))(h2:9<=lv)(Y:FH E.K "list_word_at" (top 67)):CkZ E (N6 R) 3 "list_word_at" (lv+3):=by refine D4 ["text", "at", "depth", "found"] ["text", "at", "depth"] zx Y ?_ ?_ rfl rfl ?_;walk_at "s1";unfold KI;walk_at "db0"
include k35 k36 k37 k38 in
theorem QR{R:List D->M D}{lv:Nat}(kR:CkZ E R 3 "inner_at" lv)(h40:CkZ E (O6 R) 3 "field_at" (lv+1))(h41:CkZ E (J0 R) 5 "inside_at" (lv+2))(h2:9<=lv)(Y:FH E.K "record_word_at" (top 68)):CkZ E (K3 R) 3 "record_word_at" (lv+3):=by refine D4 ["text", "at", "depth", "found", "fields"] ["text", "at", "depth"] zx Y ?_ ?_ rfl rfl ?_;walk_at "s1";unfold Z6;walk_at "db0"
include k27 k31 k32 k33 in
theorem rR{R:List D->M D}{lv:Nat}(kR:CkZ E R 3 "inner_at" lv)(h42:CkZ E (N6 R) 3 "list_word_at" (lv+3))(h43:CkZ E (K3 R) 3 "record_word_at" (lv+3))(h2:9<=lv)(Y:FH E.K "word_at" (top 63)):CkZ E (u6 R) 3 "word_at" (lv+4):=by refine D4 ["text", "at", "depth", "kind", "found"] ["text", "at", "depth"] zx Y ?_ ?_ rfl rfl ?_;walk_at "s1";unfold MB;unfold WZ WL WK;walk_at "db0"
theorem HM{R:List D->M D}{lv:Nat}(kR:CkZ E R 3 "inner_at" lv)(h44:CkZ E (u6 R) 3 "word_at" (lv+4))(h2:9<=lv)(Y:FH E.K "words_at" (top 62)):CkZ E (OF R) 3 "words_at" (lv+5):=by refine D4 ["text", "at", "depth", "words", "found"] ["text", "at", "depth"] zx Y ?_ ?_ rfl rfl ?_;walk_at "s1";unfold mE;unfold QB QZ;walk_at "db0"
include k22 k23 in
theorem vL{R:List D->M D}{lv:Nat}(kR:CkZ E R 3 "inner_at" lv)(h45:CkZ E (OF R) 3 "words_at" (lv+5))(h2:9<=lv)(Y:FH E.K "bracket_at" (top 61)):CkZ E (T6 R) 3 "bracket_at" (lv+6):=by refine D4 ["text", "at", "depth", "words"] ["text", "at", "depth"] zx Y ?_ ?_ rfl rfl ?_;walk_at "s1";unfold LK;walk_at "db0"
include k5 in
theorem vX{R:List D->M D}{lv:Nat}(kR:CkZ E R 3 "inner_at" lv)(h44:CkZ E (u6 R) 3 "word_at" (lv+4))(h46:CkZ E (T6 R) 3 "bracket_at" (lv+6))(h2:9<=lv)(Y:FH E.K "inner_at" (top 60)):CkZ E (m9 4 (iD R)) 3 "inner_at" (lv+7):=by refine D4 ["text", "at", "depth", "found"] ["text", "at", "depth"] zx Y ?_ ?_ rfl rfl ?_;walk_at "s1";unfold iD;walk_at "db0"
section
variable(Y:FH E.K "inner_at" (top 60))(Y40:FH E.K "field_at" (top 71))(Y41:FH E.K "inside_at" (top 70))(Y42:FH E.K "list_word_at" (top 67))(Y43:FH E.K "record_word_at" (top 68))(Y44:FH E.K "word_at" (top 63))(Y45:FH E.K "words_at" (top 62))(Y46:FH E.K "bracket_at" (top 61))
include Y Y40 Y41 Y42 Y43 Y44 Y45 Y46 k5 k22 k23 k24 k27 k31 k32 k33 k34 k35 k36 k37 k38
theorem LL:∀n,CkZ E (v6 n) 3 "inner_at" (9+7*n)
|0=>DX ["text", "at", "depth"] zx Y (by walk_at "ba") rfl
|n+1=>by have kR:=LL n;have h40:=fM zx zb k23 k24 kR (jM _ _) Y40;have h41:=vM zx zb k23 kR h40 (jM _ _) Y41;have h42:=gQ zx zb k34 kR h41 (jM _ _) Y42;have h43:=QR zx zb k35 k36 k37 k38 kR h40 h41 (jM _ _) Y43;have h44:=rR zx zb k27 k31 k32 k33 kR h42 h43 (jM _ _) Y44;have h45:=HM zx zb kR h44 (jM _ _) Y45;have h46:=vL zx zb k22 k23 kR h45 (jM _ _) Y46;exact vX zx zb k5 kR h44 h46 (jM _ _) Y
end
include k5 k22 k23 k24 k27 k31 k32 k33 k34 k35 k36 k37 k38 in
theorem bf(Y:FH E.K "inner_at" (top 60))(Y40:FH E.K "field_at" (top 71))(Y41:FH E.K "inside_at" (top 70))(Y42:FH E.K "list_word_at" (top 67))(Y43:FH E.K "record_word_at" (top 68))(Y44:FH E.K "word_at" (top 63))(Y45:FH E.K "words_at" (top 62))(Y46:FH E.K "bracket_at" (top 61)):CkZ E N7 3 "inner_at" 163:=LL zx zb k5 k22 k23 k24 k27 k31 k32 k33 k34 k35 k36 k37 k38 Y Y40 Y41 Y42 Y43 Y44 Y45 Y46 22
variable(k39:CkZ E N7 3 "inner_at" 163)
include k23 k24 k39 in
theorem bp(Y:FH E.K "field_at" (top 71)):CkZ E GR 3 "field_at" 164:=fM zx zb k23 k24 k39 (by decide) Y
variable(k40:CkZ E GR 3 "field_at" 164)
include k23 k39 k40 in
theorem FX(Y:FH E.K "inside_at" (top 70)):CkZ E gN 5 "inside_at" 165:=vM zx zb k23 k39 k40 (by decide) Y
variable(k41:CkZ E gN 5 "inside_at" 165)
include k34 k39 k41 in
theorem hV(Y:FH E.K "list_word_at" (top 67)):CkZ E uP 3 "list_word_at" 166:=gQ zx zb k34 k39 k41 (by decide) Y
variable(k42:CkZ E uP 3 "list_word_at" 166)
include k35 k36 k37 k38 k39 k40 k41 in
theorem Pj(Y:FH E.K "record_word_at" (top 68)):CkZ E TL 3 "record_word_at" 166:=QR zx zb k35 k36 k37 k38 k39 k40 k41 (by decide) Y
variable(k43:CkZ E TL 3 "record_word_at" 166)
include k27 k31 k32 k33 k39 k42 k43 in
theorem Hz(Y:FH E.K "word_at" (top 63)):CkZ E BN 3 "word_at" 167:=rR zx zb k27 k31 k32 k33 k39 k42 k43 (by decide) Y
variable(k44:CkZ E BN 3 "word_at" 167)
include k39 k44 in
theorem EU(Y:FH E.K "words_at" (top 62)):CkZ E bJ 3 "words_at" 168:=HM zx zb k39 k44 (by decide) Y
variable(k45:CkZ E bJ 3 "words_at" 168)
include k22 k23 k39 k45 in
theorem vh(Y:FH E.K "bracket_at" (top 61)):CkZ E bO 3 "bracket_at" 169:=vL zx zb k22 k23 k39 k45 (by decide) Y
variable(k46:CkZ E bO 3 "bracket_at" 169)
include k5 k22 k45 in
theorem wV(Y:FH E.K "whole_at" (top 58)):CkZ E MF 2 "whole_at" 169:=by refine D4 ["text", "at", "found", "words"] ["text", "at"] zx Y ?_ ?_ rfl rfl ?_;walk_at "s1";unfold wJ;walk_at "db0"
variable(k47:CkZ E MF 2 "whole_at" 169)
include k47 in
theorem VZ(Y:FH E.K "read_set" (top 57)):CkZ E oH 1 "read_set" 170:=by refine D4 ["text", "found", "fault"] ["text"] zx Y ?_ ?_ rfl rfl ?_;walk_at "s1";unfold tJ;walk_at "db0"
variable(k48:CkZ E oH 1 "read_set" 170)
include k48 in
theorem Nm(Y:FH E.K "_law_found" (top 80)):Ck E T3 1 "_law_found" 171:=by refine Q9 ["text", "found", "refused"] ["text"] zx Y ?_ ?_ rfl rfl ?_;walk_at "s1";unfold sJ;walk_at "db0"
variable(k49:Ck E T3 1 "_law_found" 171)
theorem fT(Y:FH E.K "_law_nest_text" (top 78)):Ck E Q8 2 "_law_nest_text" 1:=by refine Q9 ["text", "kind"] ["text", "kind"] zx Y ?_ ?_ rfl rfl ?_;walk_at "s1";unfold qJ;walk_at "db0"
variable(k50:Ck E Q8 2 "_law_nest_text" 1)
include k1 in
theorem GT(Y:FH E.K "_law_nest_set" (top 79)):Ck E R4 2 "_law_nest_set" 2:=by refine Q9 ["some", "kind", "none"] ["some", "kind"] zx Y ?_ ?_ rfl rfl ?_;walk_at "s1";unfold MP;walk_at "db0"
variable(k51:Ck E R4 2 "_law_nest_set" 2)
theorem FT{R:List D->M D}{lv kk:Nat}(kR:Ck E R 2 "_law_same" lv)(h1:lv<=kk)(h2:0<=kk)(Y:FH E.K "_law_same" (top 76)):Ck E (m9 4 (oF R)) 2 "_law_same" (kk+1):=by refine Q9 ["found", "due", "one", "other"] ["found", "due"] zx Y ?_ ?_ rfl rfl ?_;walk_at "s1";unfold oF;unfold SF;walk_at "db0"
section
variable(Y:FH E.K "_law_same" (top 76))
include Y
theorem vS:∀n,Ck E (V6 n) 2 "_law_same" (0+n)
|0=>gb ["found", "due"] zx Y (by walk_at "ba") rfl
|n+1=>FT zx zb (vS n) (zg _) (jM _ _) Y
end
theorem Ng(Y:FH E.K "_law_same" (top 76)):Ck E FE 2 "_law_same" 90:=vS zx zb Y 90
variable(k52:Ck E FE 2 "_law_same" 90)
end
set_option maxHeartbeats 4000000 in
theorem all_mk{l:PySem.W.OpenLaw}{w:zI}{K:zc}{h:Heap}{mg:Str->Option ze}{fa:Addr}(X:K.In h)(G:h.Ns zF mg)(hfa:mg "law" =some (.ref fa))(Z0:FHs K top ["_law_draws", "_law_nothing", "_law_take", "_law_figures", "_law_innermost", "alone_at", "lists_in_form", "records_in_form", "made", "low_order", "lies_clear", "numbers_of", "turned", "marked", "text_order", "rising_texts", "in_either", "meet_texts", "join_texts", "join_lists", "join_records", "join", "join_all", "behind", "run_end"] [73,75,74,77,81,59,36,37,35,12,11,13,17,18,8,19,22,15,16,40,41,39,43,55,54])(Z25:FHs K top ["number_at", "text_at", "value_at", "is_empty", "stretch", "begins_number", "stretch_at", "is_whole", "set_of", "lists_set", "name_of", "rising", "records_set", "names_of", "inner_at", "field_at", "inside_at", "list_word_at", "record_word_at", "word_at", "words_at", "bracket_at", "whole_at", "read_set", "_law_found"] [53,52,47,10,32,65,64,5,30,33,69,6,34,7,60,71,70,67,68,63,62,61,58,57,80])(Z50:FHs K top ["_law_nest_text", "_law_nest_set", "_law_same", "law"] [78,79,76,82])
 (g_ANY:CC K mg "ANY" UM)
 (g_NOTHING:CC K mg "NOTHING" HR)
 (g_ALL_PARTS:CC K mg "ALL_PARTS" VQ)
 (g_MOST_FIGURES:CC K mg "MOST_FIGURES" AS)
 (g_MOST_DEEP:CC K mg "MOST_DEEP" SQ)
 (x_NoValue:XI K "NoValue")
 (x_NoSet:XI K "NoSet")
 (r_0:XRI K "NoValue" "NoSet")
 (z:∀b∈bltL,jv K zF b=some none) (pure:∀ns:List Int,ns.length<=63->∃G',KJ [.ref 0] [.rol (ns.map D.int)]=some (.ok (.bl true),G')):
 ∃fd:xm,(∀(s:zh) (v:ze),Yy s fd ⟨[v], []⟩ [("script",v)])/\∀base:Heap,K.In base->base.Ns zF mg->V2 l.prog w K mg base CX0 172 fa fd ["script"] (aG K):=by
 obtain⟨Y0,Y1,Y2,Y3,Y4,Y5,Y6,Y7,Y8,Y9,Y10,Y11,Y12,Y13,Y14,Y15,Y16,Y17,Y18,Y19,Y20,Y21,Y22,Y23,Y24,_⟩:=Z0;obtain⟨Y25,Y26,Y27,Y28,Y29,Y30,Y31,Y32,Y33,Y34,Y35,Y36,Y37,Y38,Y39,Y40,Y41,Y42,Y43,Y44,Y45,Y46,Y47,Y48,Y49,_⟩:=Z25;obtain⟨Y50,Y51,Y52,Y53,_⟩:=Z50;have zb:BC K mg:=⟨BLs.of X G z,g_ANY.ok X G,g_NOTHING.ok X G,g_ALL_PARTS.ok X G,g_MOST_FIGURES.ok X G,g_MOST_DEEP.ok X G,x_NoValue.ok X G,x_NoSet.ok X G,r_0.ok X G⟩;refine qz (N:= ["script", "draws", "size", "many", "text", "some", "short", "k", "kind", "due", "found", "refused", "seven", "beside"]) X G hfa Y53 (by walk_at "ba") (by walk_at "sc") rfl (λ_ _ _ _ _ _ s v=>.of_eq rfl) (λbase=>?_) pure;have zx:EvX ⟨l.prog,w,K,mg,base⟩:=⟨h,X,G⟩;have k0:=SV zx zb Y0;have k1:=Hd zx zb Y1;have k2:=Fh zx zb Y2;have k3:=vf zx zb k2 Y3;have k4:=HY zx zb k1 k2 k3 Y4;have k5:=Cj zx zb Y5;have k6:=pZ zx zb Y6;have k7:=cn zx zb Y7;have k8:=TV zx zb k6 k7 Y8;have k9:=cW zx zb Y9;have k10:=HV zx zb Y10;have k11:=kh zx zb k9 k10 Y11;have k12:=BZ zx zb Y12;have k13:=bz zx zb Y13;have k14:=Bx zx zb Y14;have k15:=Nd zx zb k13 k14 Y15;have k16:=dr zx zb k15 Y16;have k17:=vd zx zb k16 Y17;have k18:=Rk zx zb k12 k17 Y18;have k19:=Wq zx zb Y19;have k20:=Wg zx zb Y20;have k21:=cU zx zb k8 k11 k18 k19 k20 Y21;have k22:=ag zx zb k21 Y22;have k23:=PZ zx zb Y23;have k24:=Pq zx zb Y24;have k25:=Km zx zb k24 Y25;have k26:=Df zx zb k23 k24 Y26;have k27:=Gv zx zb k25 k26 Y27;have k28:=cg zx zb Y28;have k29:=Ff zx zb k8 k28 Y29;have k30:=Cc zx zb k24 Y30;have k31:=RU zx zb k25 k29 k30 Y31;have k32:=bX zx zb Y32;have k33:=Mp zx zb k8 k29 Y33;have k34:=DZ zx zb k8 Y34;have k35:=aZ zx zb Y35;have k36:=EY zx zb Y36;have k37:=mV zx zb k8 Y37;have k38:=PU zx zb Y38;have k39:=bf zx zb k5 k22 k23 k24 k27 k31 k32 k33 k34 k35 k36 k37 k38 Y39 Y40 Y41 Y42 Y43 Y44 Y45 Y46;have k40:=bp zx zb k23 k24 k39 Y40;have k41:=FX zx zb k23 k39 k40 Y41;have k42:=hV zx zb k34 k39 k41 Y42;have k43:=Pj zx zb k35 k36 k37 k38 k39 k40 k41 Y43;have k44:=Hz zx zb k27 k31 k32 k33 k39 k42 k43 Y44;have k45:=EU zx zb k39 k44 Y45;have k46:=vh zx zb k22 k23 k39 k45 Y46;have k47:=wV zx zb k5 k22 k45 Y47;have k48:=VZ zx zb k47 Y48;have k49:=Nm zx zb k48 Y49;have k50:=fT zx zb Y50;have k51:=GT zx zb k1 Y51;have k52:=Ng zx zb Y52;intro _ _ _ _ _ _ _ _;obtain⟨_,_,_,_,_,_,_,_,_⟩:=zb;unfold QF;unfold lP lQ lS lB lU lV;walk_at "db0"
mutual
def szD:D->Nat
| .tup l=>1+szL l
| .str _=>1
| .ref _=>1
| .fn _=>1
| .ty _=>1
| .non=>1
| .bl _=>1
| .int _=>1
def szL:List D->Nat
|[]=>0
|d::r=>szD d+szL r
end
abbrev dQ:Str:= "list"
abbrev DR:Str:= "record"
def Ap(G G':DH):Prop:=∃t,G'=G++t
theorem Ap.refl:Ap G G:=⟨[],by simp⟩
theorem Ap.trans(h:Ap G G1)(k:Ap G1 G2):Ap G G2:=by obtain⟨t,rfl⟩:=h;obtain⟨u,rfl⟩:=k;exact⟨t++u,by simp⟩
theorem Ap.one:Ap G (G++[o]):=⟨_,rfl⟩
theorem Ap.at{p:Nat}(h:Ap G G')(e:G[p]? =some o):G'[p]? =some o:=by obtain⟨t,rfl⟩:=h;exact U0 e
theorem Ap.len(h:Ap G G'):G.length<=G'.length:=by obtain⟨t,rfl⟩:=h;simp
theorem Ap.gr(h:Ap G G'):Gr G G':=by obtain⟨t,rfl⟩:=h;exact Gr.app
section
theorem KR(J:DH->Prop)(S:DSt->Prop)(f:D->D)(sk:∀G,J G->ck G=true):∀items σ G,S σ->J G->
 (∀d∈items,∀ σ G,S σ->J G->Wp (g d σ) G λWX G1=>G1=G/\S WX/\Wp (t WX) G λb G2=>b=true/\G2=G/\Wp (e WX) G λy G3=>J G3/\y=f d)->
 Wp (N5 g t e ck items σ) G λys G'=>J G'/\ys=items.map f
 |[],σ,G,s,j,_=>by rw[gA];exact⟨sk G j,j,rfl⟩
 |d::r,σ,G,s,j,step=>by rw[mF];refine⟨sk G j,Wp.mono (step d (by simp) σ G s j) λWX G1 ⟨e1,s1,w1⟩=>?_⟩;subst e1;refine Wp.mono w1 λb G2 ⟨eb,e2,w2⟩=>?_;subst eb e2;rw[if_pos rfl];refine Wp.mono w2 λy G3 ⟨j3,py⟩=>?_;refine Wp.mono (KR J S f sk r WX G3 s1 j3 λd hd=>step d (by simp[hd])) λys G4 ⟨j4,l4⟩=>⟨j4,by simp[l4,py]⟩
end
theorem Db(e:G[p]? =some (.lst xs))(eq:G[q]? =some (.lst [])):Wp (eqD (.ref p) (.ref q)) G Q↔Q (.bl xs.isEmpty) G:=by
 have h:eqN 40 G (.ref p) (.ref q)=some xs.isEmpty:=by
  have h1:F1 G (.ref p)=some (false,xs):=by simp only[F1,e]
  have h2:F1 G (.ref q)=some (false, []):=by simp only[F1,eq]
  rw[qI,h1,h2]
  cases xs<;>rfl
 rw[sA,h];exact Q0
theorem Hg{lo hi:Option Int}(e:G[p]? =some (.lst l)):Wp (slD (.ref p) lo hi) G Q↔Q (.ref G.length) (G++[.lst (DL.cutD l lo hi)]):=by
 have h:slD (.ref p) lo hi= (do
  let l <-M7 p >>= DL.listOf
  K7 (.lst (DL.cutD l lo hi))):=rfl
 rw[h];simp only[f9,O3,e,Q0,DL.listOf,d8,Q7]
theorem big:1000000<zi:=by decide
section
theorem Z7:Wp (w5 (n+1) t b σ) G P↔Wp (t σ) G λk G1=>if k=true then Wp (b σ) G1 λfl G2=>match fl with
 | .nx X1=>Wp (w5 n t b X1) G2 P
 | .ct X1=>Wp (w5 n t b X1) G2 P
 | .bk X1=>P (.nx X1) G2
 | .rt d=>P (.rt d) G2
 else P (.nx σ) G1:=by
 rw[w5];simp only[f9,l9,d8];constructor
 ·rintro⟨k,G1,e,q⟩;refine⟨k,G1,e,?_⟩;rcases k with _|_
  ·exact q
  ·
    simp only[if_true]at q ⊢;obtain⟨fl,G2,e2,q⟩:=q;refine⟨fl,G2,e2,?_⟩
    cases fl<;>first
     |exact q
     |exact d8.mp q
 ·rintro⟨k,G1,e,q⟩;refine⟨k,G1,e,?_⟩;rcases k with _|_
  ·exact q
  ·
    simp only[if_true]at q ⊢;obtain⟨fl,G2,e2,q⟩:=q;refine⟨fl,G2,e2,?_⟩
    cases fl<;>first
     |exact q
     |exact d8.mpr q
theorem wE(h:Wp (w5 n t b σ) G P):Wp (V3 t b σ) G P:=by obtain⟨a,G',e,q⟩:=h;refine⟨a,G',?_,q⟩;have hx:∃n,(w5 n t b σ G).isSome=true:=⟨n,by rw[e];rfl⟩;unfold V3;rw[dif_pos hx];have hs:=XY hx;obtain⟨r,hr⟩:=yn.mp hs;rw[hr];have e1:=tF (Nat.le_max_left n (xP hx)) e;have e2:=tF (Nat.le_max_right n (xP hx)) hr;rw[e1]at e2;exact e2.symm
end
theorem Gr.set(h:Gr G0 G)(hp:G0.length<=p):Gr G0 (G.set p o):=⟨by rw[List.length_set];exact h.1,λi hi=>by rw[jb (by lia)];exact h.2 i hi⟩
theorem Nx(e:G[p]? =some (.lst xs)):Wp (W5 (.ref p)) G B↔B (!xs.isEmpty) G:=by unfold W5;simp only[f9,O3,e,Q0,d8]
theorem lt_of_get{G:DH}(e:G[p]? =some o):p<G.length:=by
 by_cases hi:p<G.length
 ·exact hi
 ·rw[zO (by lia)]at e;exact w6 e
def VB(b:Nat):Nat->D->Prop
|0,_=>False
|n+1,d=>(∃i,d= .int i)\/(∃k,d= .bl k)\/(∃z,d= .str z/\z.length<=b)\/(∃l,d= .tup [.str dQ,.tup l]/\∀x∈l,VB b n x)\/(∃l,d= .tup [.str DR,.tup l]/\∀x∈l,∃nm v,x= .tup [.str nm,v]/\nm.length<=1000/\VB b n v)
theorem VB.le{b c:Nat}(hb:b<=c):∀ {n m:Nat} {d:D},n<=m->VB b n d->VB c m d
|0,_,_,_,h=>h.elim
|n+1,0,_,h,_=>by lia
|n+1,m+1,d,h,a=>by
  rcases a with a|a|⟨z,e,hz⟩|⟨l,e,hl⟩|⟨l,e,hl⟩
  ·exact .inl a
  ·exact .inr (.inl a)
  ·exact .inr (.inr (.inl ⟨z,e,by lia⟩))
  ·exact .inr (.inr (.inr (.inl ⟨l,e,λx hx=>VB.le hb (by lia) (hl x hx)⟩)))
  ·exact .inr (.inr (.inr (.inr ⟨l,e,λx hx=>let ⟨nm,v,q1,q2,q3⟩:=hl x hx;⟨nm,v,q1,q2,VB.le hb (by lia) q3⟩⟩)))
section
variable{bd n:Nat}
theorem VB.i{i:Int}:VB bd (n+1) (.int i):=.inl ⟨i,rfl⟩
theorem VB.b{i:Bool}:VB bd (n+1) (.bl i):=.inr (.inl ⟨i,rfl⟩)
theorem VB.s{z:Str}(h:z.length<=bd):VB bd (n+1) (.str z):=.inr (.inr (.inl ⟨z,rfl,h⟩))
theorem VB.l{l:List D}(h:∀x∈l,VB bd n x):VB bd (n+1) (.tup [.str dQ,.tup l]):=.inr (.inr (.inr (.inl ⟨l,rfl,h⟩)))
theorem VB.r{l:List D}(h:∀x∈l,∃nm v,x= .tup [.str nm,v]/\nm.length<=1000/\VB bd n v):VB bd (n+1) (.tup [.str DR,.tup l]):=.inr (.inr (.inr (.inr ⟨l,rfl,h⟩)))
end
theorem VB.pos{b n:Nat}{d:D}(h:VB b n d):0<n:=by
 cases n with
 |zero=>exact h.elim
 |succ n=>lia
theorem VB.there{b n:Nat}{d:D}{G:DH}(h:VB b n d):g7 G d:=by
 cases n with
 |zero=>exact h.elim
 |succ n=>rcases h with⟨i,rfl⟩|⟨k,rfl⟩|⟨z,rfl,hz⟩|⟨l,rfl,hl⟩|⟨l,rfl,hl⟩<;>exact⟨_,rfl⟩
theorem wX(l:List D)(n:Nat):DL.cutD l none (some (n:Int))=l.take n:=by
 unfold DL.cutD;rw[HT.sIx_none,HT.sIx_nat,List.drop_zero,Nat.sub_zero];by_cases h:n<=l.length
 ·rw[Nat.min_eq_left h]
 ·rw[Nat.min_eq_right (by lia),xS (zg _),xS (by lia)]
section
variable{G:DH}{Q:DPP}
theorem AU{a c:Bool}:Wp (neD (.bl a) (.bl c)) G Q↔Q (.bl (!(a==c))) G:=by
 have e:eqN 40 G (.bl a) (.bl c)=some (a==c):=by rfl
 rw[QK,e];exact Q0
theorem wk{a c:Bool}:Wp (eqD (.bl a) (.bl c)) G Q↔Q (.bl (a==c)) G:=by
 have e:eqN 40 G (.bl a) (.bl c)=some (a==c):=by rfl
 rw[sA,e];exact Q0
theorem qh{i:Int}:Wp (gF [.int i]) G Q↔Q (.int (if i<0 then -i else i)) G:=d8
end
def P4{α β:Type}(R:α->β->Prop):List α->List β->Prop
|[], []=>True
|a::r,b::s=>R a b/\P4 R r s
|_,_=>False
section
variable{α β:Type}{R S:α->β->Prop}
theorem P4.len:∀ {a:List α} {b:List β},P4 R a b->a.length=b.length
|[], [],_=>rfl
|_::_,_::_,h=>by simp[P4.len h.2]
|[],_::_,h=>h.elim
|_::_, [],h=>h.elim
theorem P4.mono(k:∀a b,R a b->S a b):∀ {a:List α} {b:List β},P4 R a b->P4 S a b
|[], [],_=>trivial
|_::_,_::_,h=>⟨k _ _ h.1,P4.mono k h.2⟩
|[],_::_,h=>h.elim
|_::_, [],h=>h.elim
theorem P4.app:∀ {a c:List α} {b d:List β},P4 R a b->P4 R c d->P4 R (a++c) (b++d)
|[],_, [],_,_,h=>h
|_::_,_,_::_,_,h,k=>⟨h.1,P4.app h.2 k⟩
|[],_,_::_,_,h,_=>h.elim
|_::_,_, [],_,h,_=>h.elim
end
abbrev Rg:=Option Int×Option Int
def inR(p:Rg)(x:Int):Prop:=(∀a,p.1=some a->a<=x)/\∀b,p.2=some b->x<=b
def okR(p:Rg):Prop:=∀a b,p.1=some a->p.2=some b->a<=b
theorem okR.some{p:Rg}(h:okR p):∃x,inR p x:=by
 obtain⟨a,b⟩:=p;rcases a with _|a<;>rcases b with _|b
 ·exact⟨0,λc hc=>(nomatch hc),λc hc=>(nomatch hc)⟩
 ·exact⟨b,λc hc=>(nomatch hc),λc hc=>by cases hc;exact Zg _⟩
 ·exact⟨a,λc hc=>(by cases hc;exact Zg _),λc hc=>nomatch hc⟩
 ·exact⟨a,λc hc=>(by cases hc;exact Zg _),λc hc=>by cases hc;exact h a b rfl rfl⟩
theorem fK{G:DH}{p:Nat}{l:List D}{lo hi:Option Int}{Q:DPP}(e:G[p]? =some (.lst l)):Wp (slT (.ref p) lo hi) G Q↔Q (.ref G.length) (G++[.lst (DL.cutD l lo hi)]):=Hg e
def Dr(G:DH)(r:Nat):Prop:=∃ns:List Nat,G[r]? =some (.lst (ns.map λn:Nat=>D.int (n:Int)))
def cnt(G:DH)(r:Nat):Nat:=match G[r]? with
|some (.lst l)=>l.length
|_=>0
theorem vF{G:DH}{r:Nat}{l:List D}(e:G[r]? =some (.lst l)):cnt G r=l.length:=by unfold cnt;rw[e]
theorem UL{G G':DH}{r:Nat}(e:G'[r]? =G[r]?):cnt G' r=cnt G r:=by unfold cnt;rw[e]
structure Fd(r:Nat)(G G':DH):Prop where
 a:G.length<=G'.length
 b:(∀i,i≠r->i<G.length->G'[i]? =G[i]?)/\Dr G' r
 c:cnt G' r<=cnt G r
theorem Dr.lt{G:DH}{r:Nat}(h:Dr G r):r<G.length:=by obtain⟨ns,hr⟩:=h;exact lt_of_get hr
theorem Dr.app{G t:DH}{r:Nat}(h:Dr G r):Dr (G++t) r:=by obtain⟨ns,hr⟩:=h;exact⟨ns,U0 hr⟩
theorem Fd.refl{r:Nat}{G:DH}(h:Dr G r):Fd r G G:=⟨zg _,⟨λ_ _ _=>rfl,h⟩,zg _⟩
theorem Fd.trans{r:Nat}{G G1 G2:DH}(h:Fd r G G1)(k:Fd r G1 G2):Fd r G G2:=
 ⟨jc h.1 k.1,⟨λi hi hl=>by rw[k.2.1 i hi (by have:=h.1;lia),h.2.1 i hi hl],k.2.2⟩,jc k.c h.c⟩
theorem Fd.app{r:Nat}{G t:DH}(h:Dr G r):Fd r G (G++t):=⟨by simp,⟨λi _ hl=>zA hl,h.app⟩,Xf (UL (zA h.lt))⟩
theorem Fd.at{r p:Nat}{G G':DH}{o:DO}(h:Fd r G G')(hp:p≠r)(e:G[p]? =some o):G'[p]? =some o:=by rw[h.2.1 p hp (lt_of_get e)];exact e
theorem Dr.set{G:DH}{r p:Nat}{o:DO}(h:Dr G r)(hp:p≠r):Dr (G.set p o) r:=by obtain⟨ns,hr⟩:=h;exact⟨ns,by rw[jb hp];exact hr⟩
theorem Gb{r:Nat}{m:Int}{G:DH}{Q:DPP}(h:Dr G r)(hm:0<m)(q:∀k:Int,0<=k->k<m->(cnt G r=0->k=0)->∀G',Fd r G G'->cnt G' r=cnt G r-1->Q (.int k) G'):Wp (o9 [.ref r,.int m]) G Q:=by
 have h':=h;obtain⟨ns,hr⟩:=h';have s0:([D.ref r,D.int m].map some++jE (2 - [D.ref r,D.int m].length) none:DSt)= [sRf r,some (.int m)]:=rfl;unfold o9 II;simp only[bD,s0,d9,pF,kE,lC,dA,OD,c9,W9,v7,A7,D6,j6,jf,exists_eq_left',zK,jt];refine⟨sz,?_⟩;have e1:=U0 (t:= [DO.lst []]) hr;rw[Db e1 o4];refine⟨_,rfl,?_⟩
 cases ns with
 |nil=>
   simp only[ZZ,List.isEmpty_nil,if_true];have c0:cnt G r=0:=vF hr;refine q 0 (by lia) hm (λ_=>rfl) _ (Fd.app h) ?_;rw[UL (zA h.lt),c0]
 |cons n t=>
   simp only[zW,List.isEmpty_cons,jp,if_false];rw[V0 e1,Gw e1,Z1 hm];have c0:cnt G r=t.length+1:=by rw[vF hr,zE,zD]
   have c1:∀o:DO,o= .lst (t.map λn:Nat=>D.int (n:Int))->cnt ((G++[DO.lst []]).set r o) r=t.length:=λo ho=>by subst ho;rw[vF (zX (lt_of_get e1)),zE]
   refine q _ (yf _ (by lia)) (xN _ hm) (λz=>by rw[c0]at z;cases z) _ ⟨by simp,⟨λi hi hl=>?_,t,?_⟩,?_⟩ ?_
   ·rw[jb (Ne.symm hi),zA hl]
   ·rw[zX (lt_of_get e1)]
   ·rw[c0,c1 _ rfl];exact Nat.le_succ _
   ·rw[c0,c1 _ rfl];rfl
theorem D8{r:Nat}{m:Int}{G:DH}{Q:DPP}(h:Dr G r)(hm:0<m)(q:∀k:Int,0<=k->k<m->∀G',Fd r G G'->Q (.int k) G'):Wp (o9 [.ref r,.int m]) G Q:=Gb h hm λk a b _ G' f _=>q k a b G' f
theorem CN{r:Nat}{G:DH}{n:Int}{ds:List D}{Q:DPP}(h:Dr G r)(hn:(ds.length:Int)=n)(h0:0<n)(q:∀d∈ds,∀G',Fd r G G'->Q d G'):
 Wp (o9 [.ref r,.int n]) (G++[.lst ds]) λy G2=>Wp (ixD (.ref G.length) y) G2 Q:=by
 refine D8 h.app h0 λk h3 h4 G2 f2=>?_;have qo:G.length≠r:=by have:=h.lt;lia
 have hg:=f2.at qo sR;rw[OA hg];obtain⟨d,hd,e⟩:=tU (l:=ds) h3 (by lia);exact⟨d,e,q d hd G2 ((Fd.app h).trans f2)⟩
def DL'(G:DH)(q L:Nat):Prop:=∃ns:List Nat,G[q]? =some (.lst (ns.map λn:Nat=>D.int (n:Int)))/\ns.length<=L
theorem fH{G:DH}{q L:Nat}{x:Int}{Q:DPP}(h:DL' G q L)(hL:L<=100000)(hx:0<=x)(k:∀o,DL' (G.set q o) q (L+1)->Q .non (G.set q o)):Wp (W4 (.ref q) [.int x]) G Q:=by have bg:=big;obtain⟨ns,e,hl⟩:=h;rw[vC e (by rw[zE];lia)];refine k _ ⟨ns++[x.toNat],?_,by simp;lia⟩;rw[zX (lt_of_get e),Zh];have ex:((x.toNat:Nat):Int)=x:=Int.toNat_of_nonneg hx;simp only[zW,ZZ,ex]
theorem IG{G:DH}{q L:Nat}{R:Unit->DH->Prop}(h:DL' G q L):Wp (S8 (.ref q)) G R↔R () G:=by obtain⟨ns,e,hl⟩:=h;exact V0 e
theorem MR{i j:Int}{G:DH}{Q:DPP}:Wp (geD (.int i) (.int j)) G Q↔Q (.bl (decide (i>=j))) G:=d8
theorem pT{G:DH}{p:Nat}{l:List D}{i:Int}{Q:DPP}(e:G[p]? =some (.rol l)):Wp (ixD (.ref p) (.int i)) G Q↔∃d,atI l i=some d/\Q d G:=by
 have h:ixD (.ref p) (.int i)= (do
  let l <-M7 p >>= DL.listOf
  Q1 (atI l i)):=rfl
 rw[h];simp only[f9,O3,e,Q0,DL.listOf,d8,g9]
theorem LY:UI=m5 (J4 (E1 z0) U1) (m5 (F8 (KA (F5 (E2 PC (M0 lenF g0) (cIn 80)))) S0 DB) (u9 (J5 l0 (J7) (J3 (cIn 240))))):=rfl
section
variable{s:Option D}{q L:Nat}{k rest:Int}{u v:Option D}
def Fq(q:Nat)(G G':DH):Prop:=G.length<=G'.length/\∀i,i≠q->i<G.length->G'[i]? =G[i]?
theorem Fq.refl{G:DH}:Fq q G G:=⟨zg _,λ_ _ _=>rfl⟩
theorem Fq.trans{G G1 G2:DH}(h:Fq q G G1)(k:Fq q G1 G2):Fq q G G2:=⟨jc h.1 k.1,λi hi hl=>by rw[k.2 i hi (by have:=h.1;lia),h.2 i hi hl]⟩
theorem Fq.set{G:DH}{o:DO}:Fq q G (G.set q o):=⟨by simp,λi hi hl=>by rw[jb (Ne.symm hi)]⟩
theorem Mv{G:DH}(h:DL' G q L)(hL:L<=90000)(hk:0<=k/\k<100)(hr:0<=rest):
 Wp (D1 [s,sRf q,some (.int k),some (.int rest),u,v]) G λfl G'=>Fq q G G'/\DL' G' q (L+3)/\∃u',fl= .nx [s,sRf q,some (.int k),some (.int rest),u',v]:=by
 unfold D1;have m1:C7 7919 k:=Or.inl ⟨by lia,by lia⟩;have m3:C7 40692 (k+7):=Or.inl ⟨by lia,by lia⟩;simp only[d9,N9,R8,sB,c9,dA,W9,v7,A7,D6,yO,xj,zK,jt,jf,exists_eq_left',gC m1,gC m3,pD,Z1 (show (0:Int)<2147483647 by decide)];have b1:0<=(rest+7919*k+3) % 2147483647:=yf _ (by lia);rw[gC (Or.inr ⟨by decide,by decide⟩),Z1 (by decide)];have b2:0<=(rest+7919*k+3) % 2147483647*48271 % 2147483647:=yf _ (by lia);have b3:(rest+7919*k+3) % 2147483647*48271 % 2147483647<2147483647:=xN _ (by lia);generalize (rest+7919*k+3) % 2147483647*48271 % 2147483647=a at *;rw[gC (Or.inl ⟨by lia,by lia⟩),Z1 (by decide)];have c1:0<=a*a % 2147483629:=yf _ (by lia);have c2:a*a % 2147483629<2147483629:=xN _ (by lia);generalize a*a % 2147483629=c at *;rw[IG h,gH ⟨by decide,by decide⟩,Z1 (by decide)];refine fH h (by lia) (yf _ (by decide)) λo1 h1=>?_;rw[IG h1,gH ⟨by decide,by decide⟩,Z1 (by decide)];refine fH h1 (by lia) (yf _ (by decide)) λo2 h2=>?_;rw[pD,Z1 (by decide)];have d1:0<=(c+40692*(k+7)) % 2147483587:=yf _ (by lia);have d2:(c+40692*(k+7)) % 2147483587<2147483587:=xN _ (by lia);generalize (c+40692*(k+7)) % 2147483587=e at *;rw[IG h2,gC (Or.inl ⟨by lia,by lia⟩),Z1 (by decide),gH ⟨by decide,by decide⟩,Z1 (by decide)];refine fH h2 (by lia) (yf _ (by decide)) λo3 h3=>?_;exact⟨(Fq.set.trans Fq.set).trans Fq.set,h3,_,rfl⟩
theorem qM:∀(j m:Nat) (rest:Int) (L:Nat) (G:DH),m+j=60->0<=rest->DL' G q L->L+j<=90000->
 Wp (w5 (j+1) WT1 WB1 [s,sRf q,some (.int k),some (.int rest),u,some (.int m)]) G λfl G'=>Fq q G G'/\DL' G' q (L+j)/\∃r' m',fl= .nx [s,sRf q,some (.int k),some (.int r'),u,some (.int m')]
 |0,m,rest,L,G,hm,hr,h,hL=>by
   rw[Z7];unfold WT1;have c:¬((m:Int)<60):=by lia
   simp only[dI,kE,dA,A7,D6,MR,lt_int,VH,zK,jt,jf,exists_eq_left',c,decide_false];split
   ·simp only[jp,if_false];exact⟨Fq.refl,h,rest,m,rfl⟩
   ·simp only[jp,if_false];exact⟨Fq.refl,h,rest,m,rfl⟩
 |j+1,m,rest,L,G,hm,hr,h,hL=>by
   rw[Z7];have c:((m:Int)<60):=by lia
   have et:Wp (WT1 [s,sRf q,some (.int k),some (.int rest),u,some (.int m)]) G λb G'=>b=decide (rest>=1000)/\G'=G:=by
    unfold WT1;simp only[dI,kE,dA,A7,D6,MR,lt_int,VH,zK,jt,jf,exists_eq_left',c,decide_true];by_cases cr:rest>=1000
    ·simp[cr]
    ·simp[cr]
   refine Wp.mono et λb G1 ⟨eb,eg⟩=>?_;subst eb eg;by_cases cr:rest>=1000
   ·rw[if_pos (decide_eq_true cr)];unfold WB1;simp only[d9,N9,R8,sB,c9,dA,W9,v7,A7,D6,yO,xj,zK,jt,jf,exists_eq_left',IG h,Z1 (show (0:Int)<1000 by decide),pD,gH (show (0:Int)<1000/\(1000:Int)<2 ^ 100 by decide)];refine fH h (by lia) (yf _ (by decide)) λo h1=>?_;refine Wp.mono (qM j (m+1) (rest / 1000) (L+1) (G1.set q o) (by lia) (by lia) h1 (by lia)) λfl G2 ⟨f2,h2,q2⟩=>⟨Fq.set.trans f2,?_,q2⟩;have e:L+(j+1)=L+1+j:=by lia
    rw[e];exact h2
   ·rw[if_neg (by simpa using cr)];obtain⟨ns,e,hl⟩:=h;exact⟨Fq.refl,⟨ns,e,by lia⟩,rest,m,rfl⟩
theorem lh{G:DH}(h:DL' G q L)(hL:L<=80000)(hr:0<=rest):
 Wp (D2 [s,sRf q,some (.int k),some (.int rest),u,v]) G λfl G'=>Fq q G G'/\DL' G' q (L+60)/\∃r' v',fl= .nx [s,sRf q,some (.int k),some (.int r'),u,v']:=by
 unfold D2;simp only[d9,N9,R8,A7,yO,xj];refine wE (Wp.mono (qM 60 0 rest L G rfl hr h (by lia)) λfl G1 ⟨f1,h1,r',m',e⟩=>?_);exact⟨f1,h1,r',_,e⟩
theorem Mw{p:Nat}{ns:List Int}{i:Nat}{G:DH}(e:G[p]? =some (.rol (ns.map D.int)))(hi:i<ns.length)(hi2:i<100)(h:DL' G q L)(hL:L<=80000){t:Option D}:
 Wp (DB [sRf p,sRf q,some (.int i),t,u,v]) G λfl G'=>Fq q G G'/\DL' G' q (L+60)/\∃t' u' v',fl= .nx [sRf p,sRf q,some (.int i),t',u',v']:=by
 have ei:atI (ns.map D.int) (i:Int)=some (.int ns[i]):=atI_nat (by rw[jW,zr hi];rfl);unfold DB;simp only[d9,N9,R8,D9,dA,W9,v7,A7,D6,yO,xj,zK,jt,jf,exists_eq_left',pT e,ei,qh,pF,kE,p18,lt_int,VH];have hr:0<=(if ns[i]<0 then -ns[i]else ns[i]):=by split<;>lia
 generalize (if ns[i]<0 then -ns[i]else ns[i])=rest at *;split
 ·refine Wp.mono (Mv h (by lia) ⟨by lia,by lia⟩ hr) λfl G1 ⟨f1,h1,u',ef⟩=>⟨f1,?_,_,_,_,ef⟩;obtain⟨ns,e,hl⟩:=h1;exact⟨ns,e,by lia⟩
 ·exact Wp.mono (lh h hL hr) λfl G1 ⟨f1,h1,r',v',ef⟩=>⟨f1,h1,_,_,_,ef⟩
theorem sM{p:Nat}{ns:List Int}(hpq:p≠q):∀(is:List Nat) (L:Nat) (a t u v:Option D) (G:DH),G[p]? =some (.rol (ns.map D.int))->DL' G q L->(∀i∈is,i<ns.length/\i<100)->L+60*is.length<=80000->
 Wp (A1 S0 DB (λ_=>true) (is.map λi:Nat=>D.int (i:Int)) [sRf p,sRf q,a,t,u,v]) G λfl G'=>Fq q G G'/\DL' G' q 80000/\∃a t u v,fl= .nx [sRf p,sRf q,a,t,u,v]
 |[],L,a,t,u,v,G,e,h,hi,hL=>by rw[ZZ,aC];obtain⟨ns,e,hl⟩:=h;exact⟨rfl,Fq.refl,⟨ns,e,by simp at hL;lia⟩,a,t,u,v,rfl⟩
 |i::r,L,a,t,u,v,G,e,h,hi,hL=>by
   simp only[zD]at hL;have hi0:=hi i (by simp);rw[zW,GA,R8];refine⟨rfl,?_⟩;simp only[yO,xj];refine Wp.mono (Mw e hi0.1 hi0.2 h (by lia)) λfl G1 ⟨f1,h1,t',u',v',ef⟩=>?_;subst ef;have e1:G1[p]? =some (.rol (ns.map D.int)):=by rw[f1.2 p hpq (lt_of_get e)];exact e
   exact Wp.mono (sM hpq r (L+60) _ _ _ _ G1 e1 h1 (λj hj=>hi j (by simp[hj])) (by lia)) λfl G2 ⟨f2,q2⟩=>⟨f1.trans f2,q2⟩
end
theorem uK(n:Nat):X6 0 n= (zR n).map λi:Nat=>D.int (i:Int):=by unfold X6;apply xI;intro i _;simp
theorem lu{G:DH}{p:Nat}{l:List D}{Q:DPP}(e:G[p]? =some (.rol l)):Wp (lenF [.ref p]) G Q↔Q (.int l.length) G:=by unfold lenF;simp only[f9,O3,e,Q0,d8]
theorem Rh{p:Nat}{ns:List Int}{G:DH}(e:G[p]? =some (.rol (ns.map D.int)))(hn:ns.length<=63):Wp (T5 [.ref p]) G λx G'=>∃r,x= .ref r/\Dr G' r/\cnt G' r<=240:=by
 unfold T5;rw[LY];have hp:=lt_of_get e;have s0:([D.ref p].map some++jE (6 - [D.ref p].length) none:DSt)= [sRf p,none,none,none,none,none]:=rfl;simp only[bD,s0,d9,N9,R8,OD,dD,eK,D9,W9,v7,A7,D6,yO,xj,zK,jt,jf,exists_eq_left'];refine⟨sz,?_⟩;have e1:=U0 (t:= [DO.lst []]) e;rw[lu e1,aV];have hm:(if (80:Int)<((ns.map D.int).length:Int)then (80:Int)else ((ns.map D.int).length:Int))= (ns.length:Int):=by rw[zE,if_neg (by lia)]
 rw[hm,KH ⟨by lia,by lia⟩,xW];show Wp (A1 S0 DB (λ_=>true) (X6 0 ns.length) [sRf p,some (.ref G.length),none,none,none,none]) (G++[DO.lst []]) _;rw[uK];refine Wp.mono (sM (show p≠G.length by lia) (zR ns.length) 0 none none none none _ e1 ⟨[],o4,by simp⟩ (λi hi=>⟨yz.mp hi,by have:=yz.mp hi;lia⟩) (by rw[xT];lia)) λfl G1 ⟨f1,h1,a,t,u,v,ef⟩=>?_;subst ef;obtain⟨ms,em,hl⟩:=h1;simp only[lC,TC,RH,aK,Bd,A7,D6,zK,jt,jf,exists_eq_left'];rw[fK em];have:=wX (ms.map λn:Nat=>D.int (n:Int)) 240;have ee:∀M:DH,(M++[DO.lst (DL.cutD (ms.map λn:Nat=>D.int (n:Int)) none (some 240))])[M.length]? =some (.lst ((ms.take 240).map λn:Nat=>D.int (n:Int))):=λM=>by rw[o4,show (some (240:Int))=some ((240:Nat):Int)from rfl,this,List.map_take]
 exact⟨_,rfl,⟨ms.take 240,ee _⟩,by rw[vF (ee _),zE,jL];lia⟩
abbrev tl(z:Str):List Nat:=z.cps.toList
abbrev ofL(l:List Nat):Str:=⟨l.toArray⟩
theorem bI{a b:Str}(h:tl a=tl b):a=b:=by obtain⟨⟨a⟩⟩:=a;obtain⟨⟨b⟩⟩:=b;have h:a=b:=h;rw[h]
theorem bU(a b:List Nat):ofL a++ofL b=ofL (a++b):=bI (show tl (ofL a++ofL b)=a++b from YB)
def dg(m:Nat):List Nat:=(Xe 10 m).map Char.toNat
theorem bR{m:Nat}(h:¬m<10):dg m=dg (m / 10)++dg (m % 10):=by have hm:m % 10<10:=YS m (by decide);have t:Xe 10 (m / 10)++Xe 10 (m % 10)=Xe 10 (10*(m / 10)+m % 10):=Nat.toDigits_append_toDigits (by decide) (by lia) hm;rw[Nat.div_add_mod]at t;unfold dg;rw[<-t,Zh]
theorem a8{m:Nat}(h:m<10):dg m= [48+m]:=by
 unfold dg;rw[Nat.toDigits_of_lt_base h];have:∀d,d<10->(Nat.digitChar d).toNat=48+d:=by decide
 show [(Nat.digitChar m).toNat]=_;rw[this m h]
def nmL(i:Int):List Nat:=tl (yw (YM i))
theorem qB(m:Nat):nmL (m:Int)=dg m:=PySem.W.KIN.signs_num m
theorem WE(m:Nat)(h:0<m):nmL (-(m:Int))=45::dg m:=by obtain⟨k,rfl⟩:∃k,m=k+1:=⟨m-1,by lia⟩;unfold nmL tl;rw[signs_ofString];show (("-" ++ Nat.repr (k+1):String)).toList.map Char.toNat=_;rw[String.toList_append,Zh,Nat.toList_repr];rfl
def Fm:Nat:=9999999999999999999999999999999999999999
def smI(i:Int):Prop:=i.natAbs<=Fm
theorem rF(i:Int):(∃m:Nat,i=m)\/∃m:Nat,0<m/\i= -(m:Int):=by
 rcases Xh i 0 with h|h
 ·exact .inr ⟨i.natAbs,by lia,by lia⟩
 ·exact .inl ⟨i.natAbs,by lia⟩
def glL(s:List Nat):List (List Nat)->List Nat
|[]=> []
|p::r=>s++p++glL s r
def NG(s:List Nat):List (List Nat)->List Nat
|[]=> []
|a::r=>a++glL s r
def inS(l:List Rg)(x:Int):Prop:=∃p∈l,inR p x
def cZ(p q:Rg):Prop:=∃a b,p.2=some a/\q.1=some b/\a+1<b
def Can(l:List Rg):Prop:=(∀p∈l,okR p)/\l.Pairwise cZ
def kle:Option Int->Option Int->Prop
|none,_=>True
|some _,none=>False
|some a,some b=>a<=b
def rD(p:Rg):D:=.tup [P5 p.1,P5 p.2]
def rsD(l:List Rg):List D:=l.map rD
theorem Sw(l:List Rg):(rsD l).length=l.length:=zE ..
section
variable{T:Str}{G:DH}{Q:DPP}
theorem TF{pre rest:List Nat}{c:Nat}(h:tl T=pre++c::rest)(hz:T.length<=zi)(q:Q (.str ⟨#[c]⟩) G):Wp (ixD (.str T) (.int (pre.length:Int))) G Q:=by
 have e:ixD (.str T) (.int (pre.length:Int))=if T.length<=zi then (do
  let c <-Q1 (atI T.cps.toList (pre.length:Int))
  pure (.str ⟨#[c]⟩):M D)else M.stuck:=rfl
 rw[e,if_pos hz];refine f9.mpr<| g9.mpr ⟨c,?_,d8.mpr q⟩;have hl:(tl T).length=pre.length+(c::rest).length:=by rw[h,zd]
 show atI (tl T) (pre.length:Int)=some c;unfold atI ixN;simp only[zD]at hl;rw[if_pos (by lia),if_pos (by lia)];simp only[xW,Option.bind_some,h];rw[ye (zg _),JR];rfl
end
theorem E8{G:DH}{p:Nat}{o:DO}(e:G[p]? =some o):ckO p o G=true:=by unfold ckO;rw[e];simp
def rH(i:Int):Prop:= -100000000000000000000<=i/\i<=100000000000000000000
abbrev e30:Int:=1000000000000000000000000000000
structure BM(p:Int×Int):Prop where
 le:p.1<=p.2
 lo:rH p.1\/p.1= -e30
 hi:rH p.2\/p.2=e30
def aD(n:Int):Option Int:=if (if n<0 then -n else n)=e30 then none else some n
theorem IR{n:Int}(h:rH n):aD n=some n:=by unfold rH at h;unfold aD;rw[if_neg (by split<;>lia)]
theorem Kq:aD (-e30)=none:=by decide
theorem iy:aD e30=none:=by decide
def rg(p:Int×Int):Rg:=(aD p.1,aD p.2)
section
variable{a p:Int×Int}
theorem BM.ok(h:BM p):okR (rg p):=by
 obtain⟨le,l,hh⟩:=h;intro x y ex ey;rcases l with l|l
 ·rcases hh with hh|hh
  ·rw[show (rg p).1=some p.1 from IR l]at ex;rw[show (rg p).2=some p.2 from IR hh]at ey
   cases ex;cases ey;exact le
  ·rw[show (rg p).2=none by unfold rg;rw[hh];exact iy]at ey
   cases ey
 ·rw[show (rg p).1=none by unfold rg;rw[l];exact Kq]at ex
  cases ex
end
abbrev g23:Fg:=(E4 2 (Q4 S0 (Q4 F2 (F4))))
abbrev g01:Fg:=(E4 2 (Q4 S4 (Q4 U1 (F4))))
def smR(r:Rg):Prop:=(∀a,r.1=some a->smI a)/\∀b,r.2=some b->smI b
def OE:D->D
| .str z=>.tup [.int z.length,.str z]
|_=>.non
def txB(a b:Str):Bool:=if a.length=b.length then decide (a.cps.toList<b.cps.toList)else decide (a.length<b.length)
abbrev wOf:Str:= "of"
abbrev wz:Str:= "but"
def Dk(G:DH)(p:Nat)(l:List (Key×D)):Prop:=G[p]? =some (.dct l)\/G[p]? =some (.rod l)
theorem Dk.lt(h:Dk G p l):p<G.length:=by rcases h with h|h<;>exact lt_of_get h
def Tx(z:Str):Prop:=EQ z=true/\z.length<=40
def Ris(s:List Str):Prop:=s.Pairwise λa b=>txB a b=true
theorem fz(h1:txB a b=true)(h2:txB b c=true):txB a c=true:=by have:= @RA ((a.length:Int),a) ((b.length:Int),b) ((c.length:Int),c);unfold X5 at this;unfold txB at *;simp only[Int.ofNat_inj,Int.ofNat_lt]at this;exact this h1 h2
theorem AO(a:Str):txB a a=false:=by unfold txB;rw[if_pos rfl,decide_eq_false (List.lt_irrefl _)]
theorem HK(a b:Str):txB a b=X5 ((a.length:Int),a) ((b.length:Int),b):=by unfold txB X5;simp only[Int.ofNat_inj,Int.ofNat_lt]
abbrev wrd(b:Bool):Str:=if b then wOf else wz
def U3(b:Bool)(s:List Str):D:=.tup [.str (wrd b),.tup (s.map D.str)]
theorem FQ:∀s t:List Str,eqL (eqN (n+1) G) (s.map D.str) (t.map D.str)=some (decide (s=t))
|[], []=>by simp[eqL]
|[],_::_=>by simp[eqL]
|_::_, []=>by simp[eqL]
|a::s,b::t=>by
  have e:eqN (n+1) G (.str a) (.str b)=some (a==b):=rfl;simp only[zW,eqL,e,FQ s t,jf];by_cases h1:a=b
  ·by_cases h2:s=t<;>simp[h1,h2]
  ·simp[h1]
theorem CS:∀s:List Str,D5 gE (s.map λz=>OE (.str z))=some (s.map λz=>((z.length:Int),z))
|[]=>rfl
|a::r=>by simp only[zW,D5,CS r];rfl
theorem Fz(nd:s.Nodup):∃m,r9 (s.map λz=>((z.length:Int),z)) (s.map D.str)=m.map D.str/\Ris m/\m.Perm s:=by
 have hz:(s.map λz=>(((z.length:Int),z):Int×Str)).zip (s.map D.str)=s.map λz=>(((z.length:Int),z),D.str z):=by rw[List.zip_map']
 have nd2:(s.map λz=>(((z.length:Int),z):Int×Str)).Nodup:=by rw[List.Nodup,yW];exact nd.imp λ{a b} h e=>h (xy e).2
 let m:=s.mergeSort λa b=> !txB b a
 have hp:m.Perm s:=YC _ _;have hs:m.Pairwise λa b=>(!txB b a)=true:=Jz (λa b c h1 h2=>by
  simp only[yD]at *;refine jO.mpr λh=>?_;by_cases e:a=b
  ·subst e;rw[h]at h2;cases h2
  ·rw[HK]at h h1 h2;have:=RA h (QE (λz=>e (xy z).2.symm) h1);rw[this]at h2;cases h2) (λa b=>by
  by_cases e:a=b
  ·subst e;rw[AO];rfl
  ·cases q:txB b a with
   |false=>rfl
   |true=>
     have:txB a b=false:=by refine jO.mpr λh=>?_;have:=fz q h;rw[AO]at this;cases this
     rw[this];rfl) _
 refine⟨m,?_,?_,hp⟩
 ·have e:=qN nd2 (z:=m.map λz=>(((z.length:Int),z),D.str z)) (by rw[hz];exact hp.map _) (by
   rw[yW];refine hs.imp λ{a b} h=>?_;unfold C8;rw[<-HK];exact h)
  rw[<-e,Zm];rfl
 ·have ndm:m.Nodup:=hp.nodup_iff.mpr nd;have:m.Pairwise λa b=>(!txB b a)=true/\a≠b:=List.Pairwise.and hs ndm;refine this.imp λ{a b} h=>?_;have h1:=h.1;simp only[yD]at h1;rw[HK]at h1 ⊢;exact QE (λz=>h.2 (xy z).2.symm) h1
def inT(b:Bool)(s:List Str)(z:Str):Prop:=if b then z∈s else z∉s
structure Rw(s:List Str):Prop where
 ris:Ris s
 tx:∀z∈s,Tx z
 len:s.length<64
structure PS where
 ns:List Rg
 b:Bool
 ts:List Str
 f:Bool
 t:Bool
def trD(f t:Bool):D:=.tup ((if f then [.bl false]else [])++if t then [.bl true]else [])
structure OkP(s:PS):Prop where
 can:Can s.ns
 rw:Rw s.ts
structure QO(L:List PS)(m:PS):Prop where
 ok:OkP m
 ns:∀x,inS m.ns x↔∃s∈L,inS s.ns x
 b:m.b=L.all (·.b)
 ts:∀z,inT m.b m.ts z↔∃s∈L,inT s.b s.ts z
 f:m.f=L.any (·.f)
 t:m.t=L.any (·.t)
theorem VF{L:List α}{P:α->Prop}:(∃s∈a::L,P s)↔P a\/∃s∈L,P s:=by
 constructor
 ·rintro⟨s,hs,h⟩;rcases zk.mp hs with rfl|hs
  ·exact .inl h
  ·exact .inr ⟨s,hs,h⟩
 ·rintro(h|⟨s,hs,h⟩)
  ·exact⟨a,jo ..,h⟩
  ·exact⟨s,zP _ hs,h⟩
theorem QO.one(h:OkP s):QO [s] s:=by have no:∀ {P:PS->Prop},¬∃u∈([]:List PS),P u:=fun⟨_,h,_⟩=>nomatch h;exact⟨h,λx=>⟨λk=>VF.mpr (.inl k),λk=>(VF.mp k).elim id λz=>absurd z no⟩,by simp,λz=>⟨λk=>VF.mpr (.inl k),λk=>(VF.mp k).elim id λz=>absurd z no⟩,by simp,by simp⟩
def TxL(z:Str):Prop:=(∀c∈tl z,97<=c/\c<=122)/\z.length<=40
theorem Vf(h:TxL z):Tx z:=⟨by
 unfold EQ;rw[Xr];intro c hc;have:=h.1 c hc;unfold CQ;simp only[decide_eq_true_eq,zS];exact this,h.2⟩
def PDx:Nat->D->Prop
|0,_=>False
|n+1,d=>d= .non\/(∃k,d= .bl k)\/(∃i,d= .int i)\/(∃z,d= .str z)\/∃l,d= .tup l/\l.length<=1000/\∀x∈l,PDx n x
structure nQ(s:PS):Prop where
 can:Can s.ns
 sm:∀r∈s.ns,smR r
 ln:s.ns.length<=9
 rs:Ris s.ts
 tx:∀z∈s.ts,TxL z
 lt:s.ts.length<=6
section
variable{G:DH}{Q:DPP}
theorem i8(h:a.length+b.length<=16000000)(q:Q (.str (ofL (a++b))) G):Wp (addD (.str (ofL a)) (.str (ofL b))) G Q:=by have bg:=big;refine(VU (jc (show (ofL a).length+(ofL b).length<=16000000 from h) (by rw[yF];decide))).mpr ?_;rw[bU];exact q
end
theorem nQ.ok(h:nQ s):OkP s:=⟨h.can,h.rs,λz hz=>Vf (h.tx z hz),by have:=h.lt;lia⟩
abbrev gB:List Nat:= [97,110,121]
abbrev cOr:List Nat:= [32,111,114,32]
abbrev cCm:List Nat:= [44,32]
abbrev noD:D:=.tup [.tup [],.tup [.str ("of" :Str),.tup []],.tup [],.non,.non]
def inL(ws:List (List Nat)):List Nat:=if ws.length=1 then NG cOr ws else [40]++NG cOr ws++[41]
abbrev SR:=D->List (List Nat)->Prop
def Mo(N:SR)(m:D)(z:List (List Nat)):Prop:=∃w,N m w/\(m=noD/\z= []\/m≠noD/\z= [[46,46,32]++inL w])
def LwS(N:SR)(L:D)(lw:List (List Nat)):Prop:=L= .non/\lw= []\/∃(fs:List (D×List (List Nat))) (m:D) (z:List (List Nat)),L= .tup [.tup (fs.map (·.1)),m]/\fs.length<=20/\(∀f∈fs,N f.1 f.2/\f.1≠noD)/\Mo N m z/\lw= [[91]++NG cCm (fs.map (λf=>inL f.2)++z)++[93]]
structure Fld where
 nm:Str
 must:Bool
 d:D
 ws:List (List Nat)
def fdD(f:Fld):D:=.tup [.str f.nm,.bl f.must,f.d]
abbrev cMu(b:Bool):List Nat:=if b then [58,32]else [63,58,32]
def fdL(f:Fld):List Nat:=tl f.nm++cMu f.must++inL f.ws
abbrev NmL(z:Str):Prop:=TxL z/\z≠ ""
def okF(m:D)(f:Fld):Prop:=if f.must then f.d≠noD else f.d≠m
abbrev ltT(a b:Str):Prop:=a.cps.toList<b.cps.toList
abbrev tS:D:=.tup [.tup [.tup [.non,.non]],.tup [.str ("but" :Str),.tup []],.tup [.bl false,.bl true],.tup [.tup [],.str ("any" :Str)],.tup [.tup [],.str ("any" :Str)]]
def RwS(N:SR)(R:D)(rw:List (List Nat)):Prop:=R= .non/\rw= []\/∃(fs:List Fld) (m:D) (z:List (List Nat)),R= .tup [.tup (fs.map fdD),m]/\fs.length<=20/\(∀f∈fs,NmL f.nm/\N f.d f.ws/\okF m f)/\(fs.map Fld.nm).Pairwise ltT/\Mo N m z/\rw= [[123]++NG cCm (fs.map fdL++z)++[125]]
abbrev Nz(s:PS)(L R:D):D:=.tup [.tup (rsD s.ns),U3 s.b s.ts,trD s.f s.t,L,R]
theorem Mo.mono{N M:SR}(k:∀d w,N d w->M d w)(h:Mo N m z):Mo M m z:=let ⟨w,a,b⟩:=h;⟨w,k _ _ a,b⟩
theorem LwS.mono{N M:SR}(k:∀d w,N d w->M d w)(h:LwS N L l):LwS M L l:=h.imp id fun⟨fs,m,z,a,b,c,d,e⟩=>⟨fs,m,z,a,b,λf hf=>⟨k _ _ (c f hf).1,(c f hf).2⟩,d.mono k,e⟩
theorem RwS.mono{N M:SR}(k:∀d w,N d w->M d w)(h:RwS N L l):RwS M L l:=h.imp id fun⟨fs,m,z,a,b,c,p,d,e⟩=>⟨fs,m,z,a,b,λf hf=>⟨(c f hf).1,k _ _ (c f hf).2.1,(c f hf).2.2⟩,p,d.mono k,e⟩
section
variable{G:DH}
theorem LwS.tup{N:SR}(h:LwS N L l):L= .non\/∃l,L= .tup l:=h.imp (·.1) fun⟨_,_,_,a,_⟩=>⟨_,a⟩
theorem RwS.tup{N:SR}(h:RwS N L l):L= .non\/∃l,L= .tup l:=h.imp (·.1) fun⟨_,_,_,a,_⟩=>⟨_,a⟩
theorem sK{p:Nat}{l:List D}{Q:DPP}(e:G[p]? =some (.lst l)):Wp (lenF [.ref p]) G Q↔Q (.int l.length) G:=by unfold lenF;simp only[f9,O3,e,Q0,d8]
theorem au{i j:Int}{Q:DPP}:Wp (gtD (.int i) (.int j)) G Q↔Q (.bl (decide (j<i))) G:=d8
end
theorem F6(z:Str):(tl z).length=z.length:=rfl
theorem DF(l:List Nat):tl (ofL l)=l:=rfl
theorem TJ{z p:Str}{pre rest:List Nat}(h:tl z=pre++rest):S6 z p (pre.length:Int)=decide (tl p <+:rest):=by
 have hl:z.length=pre.length+rest.length:=by rw[<-F6,h,zd]
 have fi:fromIndex z.length (pre.length:Int)=pre.length:=by unfold fromIndex;rw[if_neg (by lia)];lia
 have e:Yp z p pre.length=decide (tl p=rest.take p.length):=by rw[Bool.eq_iff_iff,decide_eq_true_iff];unfold Yp;rw[beq_iff_eq,<-ZM,Array.toList_extract,Jo];show List.take (pre.length+p.length-pre.length) (List.drop pre.length (tl z))=tl p↔_;rw[h,List.drop_left,ZU];exact eq_comm
 unfold S6;rw[fi,e,Bool.eq_iff_iff,Ze,decide_eq_true_iff,decide_eq_true_iff,decide_eq_true_iff,List.prefix_iff_eq_take];refine⟨λk=>k.2,λk=>⟨?_,k⟩⟩;have:=congrArg List.length k;rw[jL]at this;have q:(tl p).length=p.length:=rfl;lia
theorem G9{z p:Str}{pre rest r:List Nat}(h:tl z=pre++rest)(k:rest=tl p++r):S6 z p (pre.length:Int)=true:=by rw[TJ h,decide_eq_true_iff,k];exact List.prefix_append ..
def hdN(c:Nat)(rest:List Nat):Prop:=∀d r,rest=d::r->d≠c
theorem oE{z p:Str}{pre rest:List Nat}{c:Nat}{ps:List Nat}(h:tl z=pre++rest)(hp:tl p=c::ps)(k:hdN c rest):S6 z p (pre.length:Int)=false:=by rw[TJ h,decide_eq_false_iff_not,hp];rintro⟨t,e⟩;exact k c (ps++t) e.symm rfl
theorem pK{f g:Nat->Option Nat}:∀ {l:List Nat},(∀k∈l,f k=g k)->l.filterMap f=l.filterMap g
|[],_=>rfl
|a::r,h=>by rw[ju,ju,h a (jo ..),pK λk hk=>h k (zP _ hk)]
theorem Pf(l:List Nat):(zR l.length).filterMap (λk=>l[k]?)=l:=by
 have e:(zR l.length).filterMap (λk=>l[k]?)= (zR l.length).map λk=>l.getD k 0:=by rw[<-List.filterMap_eq_map];refine pK λk hk=>?_;have:=yz.mp hk;simp[this]
 rw[e];apply xZ
 ·simp
 ·intro i hi hj;simp[hj]
theorem ke(a b n:Nat)(h:a+b<=n):YK (some (a:Int)) (some ((a:Int)+b)) 1 n= (zR b).map λk=>a+k:=by
 unfold YK JG;have e1:max 0 (min (a:Int) n)=a:=by lia
 have e2:max 0 (min ((a:Int)+b) n)= (a:Int)+b:=by lia
 simp only[show (1:Int)>0 by decide,if_true,show ¬(a:Int)<0 by lia,show ¬(a:Int)+b<0 by lia,if_false,e1,e2];have e3:(if (a:Int)<(a:Int)+b then ((a:Int)+b-a+1-1) / 1 else 0).toNat=b:=by split<;>lia
 rw[e3];refine xI λk _=>?_;lia
theorem BK{z:Str}{a b c:List Nat}(h:tl z=a++b++c):Zt z (some (a.length:Int)) (some ((a.length:Int)+b.length))=ofL b:=by
 have hl:z.length=a.length+b.length+c.length:=by rw[<-F6,h,zd,zd]
 unfold Zt;rw[ke _ _ _ (by lia)];split
 ·rename_i k;rw[Ze,beq_iff_eq,beq_iff_eq,zE,xT]at k;have ha:a= []:=xi (by lia);have hc:c= []:=xi (by lia);subst ha hc;exact bI (by rw[h];simp)
 ·refine bI ?_;show XW (λi=>z.cps[i]?) (List.map (λk=>a.length+k) (zR b.length))=b;rw[xk];refine Eq.trans (pK λk hk=>?_) (Pf b);have hk:=yz.mp hk;show z.cps[a.length+k]? =b[k]?;rw[<-jd];show (tl z)[a.length+k]? =b[k]?;rw[h,zo,ye (by lia),ZU,zA hk]
theorem uF{a c:Nat}{G:DH}{Q:DPP}:Wp (leD (.str ⟨#[a]⟩) (.str ⟨#[c]⟩)) G Q↔Q (.bl (decide (a<=c))) G:=by
 rw[eX];have:(!decide ((⟨#[c]⟩:Str).cps.toList<(⟨#[a]⟩:Str).cps.toList))=decide (a<=c):=by
  show (!decide ([c] < [a]))=_;by_cases h:a<=c
  ·have:¬c<a:=by lia
   simp[h,JU,this]
  ·have:c<a:=by lia
   simp[h,JU,this]
 rw[this]
theorem vB(m:Nat):NumText.AllDigits (dg m):=by intro c hc;obtain⟨ch,hch,e⟩:=ZY.mp hc;rw[<-e];exact digit_range (Nat.isDigit_of_mem_toDigits (by decide) (by decide) hch)
theorem lL(m:Nat)(h:0<m):∃c r,dg m=c::r/\49<=c:=by
 induction m using Nat.strongRecOn with
 |_ m ih=>
   by_cases h':m<10
   ·exact⟨48+m, [],a8 h',by lia⟩
   ·obtain⟨c,r,e,k⟩:=ih (m / 10) (by lia) (by lia);exact⟨c,r++dg (m % 10),by rw[bR h',e];rfl,k⟩
theorem uC(m:Nat):dg m≠ []:=by
 rcases Nat.eq_zero_or_pos m with rfl|h
 ·rw[a8 (by decide)];exact List.cons_ne_nil _ _
 ·obtain⟨c,r,e,_⟩:=lL m h;rw[e];exact List.cons_ne_nil _ _
section
variable{a b:Fe}{t:DSt->M Bool}{f g:Fs}{σ:DSt}{G G1:DH}{Q:DPP}{P:Fl->DH->Prop}{B:Bool->DH->Prop}
theorem PN(w:Wp (t σ) G λk G1=>k=true/\Wp (g σ) G1 P):Wp (ifS (t5 t) f g σ) G P:=O7 (X8.mpr (w.mono λk G1 q=>by obtain⟨rfl,q⟩:=q;exact⟨λz=>(by exact sE z),λ_=>q⟩))
theorem X4(w:Wp (a σ) G λx G1=>x= .bl true/\B true G1):Wp (truthE a σ) G B:=W3.mpr (w.mono λx G1 q=>by obtain⟨rfl,q⟩:=q;exact M6.mpr q)
theorem W7(w:Wp (a σ) G λx G1=>x= .bl false/\B false G1):Wp (truthE a σ) G B:=W3.mpr (w.mono λx G1 q=>by obtain⟨rfl,q⟩:=q;exact M6.mpr q)
end
theorem fV:dG=m5 (J4 l0 i5) (m5 (V3 RT RB) (u9 L0)):=rfl
section
variable{T:Str}{G:DH}{Q:DPP}
def AB(lo hi:Nat)(rest:List Nat):Prop:=∀c r,rest=c::r->¬(lo<=c/\c<=hi)
theorem GP{lo hi:Nat}{a1:Option D}(hz:T.length<=zi):∀(run pre rest:List Nat) (n:Nat),run.length<=n->tl T=pre++run++rest->(∀c∈run,lo<=c/\c<=hi)->AB lo hi rest->
 Wp (w5 (n+1) RT RB [some (.str T),a1,some (.str ⟨#[lo]⟩),some (.str ⟨#[hi]⟩),some (.int (pre.length:Int))]) G λfl G'=>G'=G/\fl= .nx [some (.str T),a1,some (.str ⟨#[lo]⟩),some (.str ⟨#[hi]⟩),some (.int ((pre.length:Int)+run.length))]
 |[],pre,rest,n,hn,h,hr,ho=>by
   rw[ji]at h;have hl:T.length=pre.length+rest.length:=by rw[<-F6,h,zd]
   refine Z7.mpr ?_;refine(show Wp (RT _) G λk G1=>k=false/\G1=G from ?_).mono ?_
   ·refine E7<| J6<| bin_w<| b8 rfl<| D3 rfl<| (VD hz).mpr<| lt_int.mpr ⟨_,rfl,λk=>?_,λk=>⟨rfl,rfl⟩⟩;have k:=of_decide_eq_true k;rcases rest with _|⟨c,r⟩
    ·simp at hl;lia
    ·have nc:=ho c r rfl;refine J6<| qL.mpr<| b8 rfl<| bin_w<| b8 rfl<| b8 rfl<| TF h hz<| uF.mpr ⟨_,rfl,?_⟩;by_cases h1:lo<=c
     ·rw[decide_eq_true h1,if_pos rfl];refine b8 rfl<| uF.mpr ⟨_,rfl,?_,rfl⟩;exact decide_eq_false λh2=>nc ⟨h1,h2⟩
     ·rw[decide_eq_false h1,if_neg zw];exact⟨_,rfl,rfl,rfl⟩
   ·rintro _ _ ⟨rfl,rfl⟩;rw[if_neg zw];exact⟨rfl,by simp⟩
 |c::r,pre,rest,n,hn,h,hr,ho=>by
   obtain⟨m,rfl⟩:∃m,n=m+1:=⟨n-1,by simp at hn;lia⟩;have hc:=hr c (jo ..);have h':tl T=pre++c::(r++rest):=by rw[h,zo];rfl
   have hl:T.length=pre.length+(c::(r++rest)).length:=by rw[<-F6,h',zd]
   refine Z7.mpr ?_;refine(show Wp (RT _) G λk G1=>k=true/\G1=G from ?_).mono ?_
   ·refine E7<| J6<| bin_w<| b8 rfl<| D3 rfl<| (VD hz).mpr<| lt_int.mpr ⟨_,rfl,λ_=>?_,λk=>?_⟩
    ·refine J6<| qL.mpr<| b8 rfl<| bin_w<| b8 rfl<| b8 rfl<| TF h' hz<| uF.mpr ⟨_,rfl,?_⟩;rw[decide_eq_true hc.1,if_pos rfl];exact b8 rfl<| uF.mpr ⟨_,rfl,decide_eq_true hc.2,rfl⟩
    ·have k:=of_decide_eq_false k;simp at hl;lia
   ·rintro _ G1 ⟨rfl,eG⟩;rw[if_pos rfl,eG];clear eG;refine b8 rfl ?_;have ih:=GP (a1:=a1) hz r (pre++[c]) rest m (by simp at hn;lia) (by rw[h];simp) (λc hc=>hr c (zP _ hc)) ho;rw[zd]at ih;refine(show Wp (w5 (m+1) RT RB [some (.str T),a1,some (.str ⟨#[lo]⟩),some (.str ⟨#[hi]⟩),some (.int ((pre.length:Int)+1))]) G _ from ih).mono ?_;rintro _ _ ⟨rfl,rfl⟩;refine⟨rfl,?_⟩;rw[zD];congr 6;simp;lia
theorem UC{lo hi:Nat}{pre run rest:List Nat}{at':Int}(hz:T.length<=zi)(ha:at'=pre.length)(h:tl T=pre++run++rest)(hr:∀c∈run,lo<=c/\c<=hi)(ho:AB lo hi rest)(q:Q (.int ((pre.length:Int)+run.length)) G):
 Wp (V9 [.str T,.int at',.str ⟨#[lo]⟩,.str ⟨#[hi]⟩]) G Q:=by
 subst ha;refine u0 (show Wp (dG [some (.str T),some (.int pre.length),some (.str ⟨#[lo]⟩),some (.str ⟨#[hi]⟩),none]) G _ from ?_);rw[fV];refine M8 rfl<| d9.mpr<| wE<| (GP hz run pre rest _ (zg _) h hr ho).mono ?_;rintro _ _ ⟨rfl,rfl⟩;exact o7<| b8 rfl<| j8 q
theorem v8{p:Str}{i:Int}{a b c:Fe}{σ:DSt}(ha:a σ G=some (.ok (.str T),G))(hb:b σ G=some (.ok (.str p),G))(hc:c σ G=some (.ok (.int i),G))(q:Q (.bl (S6 T p i)) G):Wp (mtE isStrM startsD a (I0 b c) σ) G Q:=
 c9.mpr<| b8 ha<| Nc.mpr<| BI hb<| BI hc<| v7.mpr<| b8 rfl q
end
def A3:Option Int->Int×Int
|none=>(0,0)
|some a=>(1,a)
def kD(a:Option Int):D:=.tup [.int (A3 a).1,.int (A3 a).2]
theorem fw{p:Rg}{G:DH}{Q:DPP}(q:Q (kD p.1) G):Wp (J8 [rD p]) G Q:=GD (by obtain⟨a,_⟩:=p;rcases a with _|a<;>rfl) q
theorem Cv{a b:Option Int}(h:P8 (A3 b) (A3 a)=false):kle a b:=by
 have h:=eD.mp h;rcases a with _|a
 ·trivial
 ·rcases b with _|b
  ·simp only[A3]at h;lia
  ·simp only[A3]at h;show a<=b;lia
theorem BL{G:DH}:∀l:List Rg,V5 J8 (rsD l) G=some (.ok (l.map λp=>kD p.1),G)
|[]=>rfl
|p::r=>by have h1:noX (J8 [rD p]) G=some (.ok (kD p.1),G):=C3 (FC.mpr (fw ⟨rfl,rfl⟩));show (do let k <-noX (J8 [rD p]);let ks <-V5 J8 (rsD r);pure (k::ks):M (List D)) G=_;rw[M.bind_ok h1,M.bind_ok (BL r)];rfl
theorem fO:∀l:List Rg,o8 (l.map λp=>kD p.1)=some (l.map λp=>A3 p.1)
|[]=>rfl
|p::r=>by show (match tG (kD p.1),o8 (r.map λp=>kD p.1) with|some a,some b=>some (a::b)|_,_=>none)=_;rw[fO r];rfl
theorem Px(l:List Rg):∃l':List Rg,rB (l.map λp=>A3 p.1) (rsD l)=rsD l'/\l'.Perm l/\l'.Pairwise λp q=>kle p.1 q.1:=by
 obtain⟨pm,pw⟩:=aP (l.map λp=>A3 p.1) l.length;have lt:∀i∈D7 (l.map λp=>A3 p.1) l.length,i<l.length:=λi hi=>yz.mp (pm.mem_iff.mp hi);refine⟨(D7 (l.map λp=>A3 p.1) l.length).map λi=>l.getD i (none,none),?_,?_,?_⟩
 ·unfold rB rsD;rw[zE,Zm];refine xI λi hi=>?_;have:=lt i hi;simp[zv,this]
 ·have e:(zR l.length).map (λi=>l.getD i (none,none))=l:=by
   apply xZ
   ·simp
   ·intro i hi hj;simp[hj]
  have:=pm.map λi=>l.getD i ((none,none):Rg);rw[e]at this;exact this
 ·refine yW.mpr (pw.imp_of_mem λ{i j} hi hj h=>Cv ?_);have li:=lt i hi;have lj:=lt j hj;have ei:(l.map λp=>A3 p.1).getD i (0,0)=A3 (l.getD i (none,none)).1:=by simp[zv,li]
  have ej:(l.map λp=>A3 p.1).getD j (0,0)=A3 (l.getD j (none,none)).1:=by simp[zv,lj]
  unfold ltP at h;rw[ei,ej]at h;exact h
theorem Wz{a:Nat}{l:List Rg}{G:DH}{σ:DSt}{f:Fe}{Q:DPP}(hf:f σ G=some (.ok (.ref a),G))(e:G[a]? =some (.lst (rsD l)))(hl:l.length<64)
 (q:∀l':List Rg,l'.Perm l->(l'.Pairwise λp q=>kle p.1 q.1)->Q (.ref G.length) (G++[.lst (rsD l')])):Wp (CH J8 f σ) G Q:=by
 obtain⟨l',e1,pm,pw⟩:=Px l;refine b8 ?_ (q l' pm pw);show (do let x <-f σ;kJ J8 x:M D) G=_;rw[M.bind_ok hf];show (do match <-M7 a with
  | .lst l=>if l.length<64 then UD J8 l else M.stuck
  |_=>M.stuck:M D) G=_
 rw[M.bind_ok (show M7 a G=some (.ok (.lst (rsD l)),G) by unfold M7;rw[e])];show (if (rsD l).length<64 then UD J8 (rsD l)else M.stuck:M D) G=_;rw[if_pos (by rw[Sw];exact hl)];unfold UD;rw[M.bind_ok (BL l),M.bind_ok (show Q1 (o8 (l.map λp=>kD p.1)) G=some (.ok (l.map λp=>A3 p.1),G) by rw[fO];rfl),e1];rfl
theorem nu(h:z.length<=zi):Wp (K4 [.str z]) G Q↔Q (OE (.str z)) G:=by unfold K4 oJ;have s0:([D.str z].map some++jE (1 - [D.str z].length) none:DSt)= [some (.str z)]:=rfl;simp only[bD,s0,lC,R3,D9,W9,v7,D6,jf,exists_eq_left',zK,VD h];exact⟨λq=>q.2,λq=>⟨sz,q⟩⟩
theorem aQ(z:Str)(d:D):∀l:List (Key×D),J1 (l.map λkv=>if kv.1= .inr z then (kv.1,d)else kv)=J1 l
|[]=>rfl
|(k,v)::r=>by
 have ih:=aQ z d r;rw[zW];have e:(if ((k,v):Key×D).1= .inr z then (((k,v):Key×D).1,d)else (k,v)).1=k:=by split<;>rfl
 generalize (if ((k,v):Key×D).1= .inr z then (((k,v):Key×D).1,d)else (k,v))=p at e;obtain⟨k',v'⟩:=p
 cases e
 cases k' with
 |inl i=>rfl
 |inr y=>simp only[J1,ih]
theorem GQ(z:Str)(d:D):∀l ss,J1 l=some ss->J1 (l++[(.inr z,d)])=some (ss++[z])
|[],ss,h=>by cases h;rfl
|(.inl i,v)::r,ss,h=>by cases h
|(.inr y,v)::r,ss,h=>by
 unfold J1 at h
 cases hr:J1 r with
 |none=>rw[hr]at h;cases h
 |some t=>
   rw[hr]at h
   cases h
   rw[List.cons_append];unfold J1;rw[GQ z d r t hr];rfl
def Mk(l:List (Key×D))(ks:List Str):Prop:=J1 l=some ks/\ks.Nodup
theorem pQ:∀ {l} {ks} {z},J1 l=some ks->(c6 l (.inr z)).isSome=decide (z∈ks)
|[],ks,z,h=>by cases h;rfl
|(.inl i,v)::r,ks,z,h=>by cases h
|(.inr x,v)::r,ks,z,h=>by
 unfold J1 at h
 cases hr:J1 r with
 |none=>rw[hr]at h;cases h
 |some t=>
   rw[hr]at h
   cases h
   have ih:=pQ (z:=z) hr;unfold c6 at ih ⊢;rw[yU];by_cases hx:x=z
   ·subst hx;simp
   ·have h1:decide ((Sum.inr x:Key)= .inr z)=false:=by simpa using hx
    have h2:¬z=x:=λe=>hx e.symm;simp only[h1];rw[ih];simp[h2]
theorem vZ(h:J1 l=some ks):l.any (λkv=>decide (kv.1= .inr z))=decide (z∈ks):=by
 rw[<-pQ h];unfold c6;rw[Zx]
 induction l generalizing ks with
 |nil=>rfl
 |cons kv r ih=>
   rw[yt,yU]
   cases hk:decide (kv.1= .inr z) with
   |true=>rfl
   |false=>
     obtain⟨k,v⟩:=kv
     cases k with
     |inl i=>cases h
     |inr x=>
       unfold J1 at h
       cases hr:J1 r with
       |none=>rw[hr]at h;cases h
       |some t=>rw[ih hr];rfl
theorem Qj(h:Mk l ks):Mk (BE l (.inr z) d) (if z∈ks then ks else ks++[z]):=by
 unfold BE;rw[vZ h.1];by_cases hz:z∈ks
 ·simp only[hz,decide_true,if_true];exact⟨by rw[aQ];exact h.1,h.2⟩
 ·simp only[hz,decide_false,jp,if_false];refine⟨GQ z d l ks h.1,?_⟩;rw[List.nodup_append];exact⟨h.2,by simp,λa ha b hb=>by rw[zt]at hb;subst hb;exact λe=>hz (by rw[<-e];exact ha)⟩
theorem kQ:∀s:List Str,vA (s.map λz=>.tup [.str z,.bl true])=some (s.map λz=>(.inr z,.bl true))
|[]=>rfl
|a::r=>by simp only[zW,vA,gD,WB,kQ r]
theorem HN:∀(s:List Str) l ks,Mk l ks->∃ks',Mk (wD l (s.map λz=>(.inr z,.bl true))) ks'/\(∀z,z∈ks'↔z∈ks\/z∈s)/\ks'.length<=ks.length+s.length
|[],l,ks,h=>⟨ks,h,by simp,by simp⟩
|a::r,l,ks,h=>by
  obtain⟨ks',h1,h2,h3⟩:=HN r _ _ (Qj h);refine⟨ks',h1,λz=>?_,?_⟩
  ·rw[h2 z];by_cases ha:a∈ks
   ·simp only[ha,if_true,zk];constructor
    ·rintro(h|h)
     ·exact .inl h
     ·exact .inr (.inr h)
    ·rintro(h|rfl|h)
     ·exact .inl h
     ·exact .inl ha
     ·exact .inr h
   ·simp only[ha,if_false,jr,zk,or_assoc,jm,false_or]
  ·by_cases ha:a∈ks
   ·simp only[ha,if_true]at h3;simp only[zD];omega
   ·simp only[ha,if_false,zd,yQ]at h3;simp only[zD];omega
theorem BU(e:G[r]? =some (.lst l))(h:vA l=some ps):Wp (CB [.ref r]) G Q↔Q (.ref G.length) (G++[.dct (wD [] ps)]):=by unfold CB;simp only[f9,O3,e,Q0,DL.listOf,d8,g9,h,Q7]
theorem VW{s:List Str}{G:DH}(hl:s.length<=1000):Wp (qE [.tup (s.map D.str)]) G λx G'=>∃q l ks,x= .ref q/\G'[q]? =some (.dct l)/\Mk l ks/\(∀z,z∈ks↔z∈s)/\ks.length<=s.length/\Ap G G'/\G.length<=q:=by
 have bg:=big;unfold qE sH;have s0:([D.tup (s.map D.str)].map some++jE (1 - [D.tup (s.map D.str)].length) none:DSt)= [some (.tup (s.map D.str))]:=rfl;simp only[bD,s0,lC,D9,W9,v7];rw[mz (λσ=>σ.length=1) rfl (by show (s.map D.str).length<=_;rw[zE];omega) rfl rfl (λx hx σ hσ=>?_)]
 ·have e:(s.map D.str).map (λx=>D.tup [x,.bl true])=s.map λz=>.tup [.str z,.bl true]:=by rw[Zm];rfl
  show Wp (CB [.ref G.length]) (G++[.lst ((s.map D.str).map λx=>D.tup [x,.bl true])]) _;rw[e,BU o4 (kQ s)];obtain⟨ks',h1,h2,h3⟩:=HN s [] [] ⟨rfl,by simp⟩;exact⟨_,_,ks',rfl,o4,h1,by simpa using h2,by simpa using h3,Ap.one.trans Ap.one,by simp⟩
 ·match σ,hσ with
  |[u],_=>
    refine⟨[some x],rfl,rfl,rfl,C3 ?_⟩;simp only[R3,W9,v7,A7,D6,zK,jf,exists_eq_left'];exact⟨sz,by first|rfl|trivial,trivial⟩
theorem rM:∀(s:List Str) G,(∀z∈s,z.length<=zi)->V5 K4 (s.map D.str) G=some (.ok (s.map λz=>OE (.str z)),G)
|[],G,_=>rfl
|a::r,G,h=>by have h1:noX (K4 [.str a]) G=some (.ok (OE (.str a)),G):=C3 (FC.mpr ((nu (h a (by simp))).mpr ⟨rfl,rfl⟩));have h2:=rM r G λz hz=>h z (by simp[hz]);show (noX (K4 [.str a]) >>= λk=>V5 K4 (r.map D.str) >>= λks=>pure (k::ks)) G=_;rw[M.bind_ok h1,M.bind_ok h2];rfl
theorem cY(s:List Str):A9 (s.map λz=>OE (.str z))=some (s.map λz=>((z.length:Int),z)):=by unfold A9;rw[CS]
theorem qW{l:List (Key×D)}(e:G[q]? =some (.dct l))(h:Mk l ks)(sf:ks.length<64)(hz:∀z∈ks,z.length<=zi)(hq:∀m,Ris m->m.Perm ks->Q (.ref G.length) (G++[.lst (m.map D.str)])):Wp (eB K4 (.ref q)) G Q:=by
 obtain⟨m,e1,e2,e3⟩:=Fz h.2;have nd2:(ks.map λz=>(((z.length:Int),z):Int×Str)).Nodup:=by rw[List.Nodup,yW];exact h.2.imp λ{a b} h e=>h (xy e).2
 unfold eB;simp only[f9,O3,e,Q0,g9,h.1,if_pos sf,iE];refine(oD (rM ks G hz)).mpr ?_;rw[cY];refine⟨_,rfl,?_⟩;rw[if_pos nd2,Q7,e1];exact hq m e2 e3
theorem OM:Wp (eE F fe σ) G Q↔Wp (fe σ) G λx G1=>Wp (eB F x) G1 Q:=by unfold eE;simp only[f9]
theorem Nq{s:List Str}(hs:s.length<64)(hz:∀z∈s,Tx z):Wp (S7 [.tup (s.map D.str)]) G λx G'=>∃m,x= .tup (m.map D.str)/\Ris m/\(∀z,z∈m↔z∈s)/\m.length<=s.length/\Ap G G':=by have bg:=big;unfold S7 GK;have s0:([D.tup (s.map D.str)].map some++jE (1 - [D.tup (s.map D.str)].length) none:DSt)= [some (.tup (s.map D.str))]:=rfl;simp only[bD,s0,lC,D9,W9,v7,D6,W8,OM,zK,jf,exists_eq_left'];refine⟨rfl,Wp.mono (VW (by omega)) λx G1 ⟨q,l,ks,ex,e1,mk,mm,hl,a1,_⟩=>?_⟩;subst ex;refine qW e1 mk (by omega) (λz hz'=>jc (hz z ((mm z).mp hz')).2 (by omega)) λm r p=>?_;rw[Z5 o4];exact⟨m,rfl,r,λz=>by rw[p.mem_iff,mm],by rw[p.length_eq];exact hl,a1.trans Ap.one⟩
theorem OI{b:Bool}{ss:List Str}{G:DH}:OC [U3 b ss] G=some (.ok (U3 (!b) ss),G):=by cases b<;>rfl
def sP(s:PS):D:=.tup [.tup (rsD s.ns),U3 s.b s.ts,trD s.f s.t,.non,.non]
section
variable{G:DH}{Q:DPP}
theorem OS:eqN 39 G (.tup (rsD l)) (.tup [.tup [.non,.non]])=some (decide (l= [(none,none)])):=by
 rcases l with _|⟨⟨a,b⟩,_|⟨q,r⟩⟩
 ·rfl
 ·rcases a with _|a<;>rcases b with _|b<;>rfl
 ·rcases a with _|a<;>rcases b with _|b<;>rfl
theorem RR:∃k,eqN 39 G (U3 b s) (U3 c t)=some k:=by have e1:eqN 38 G (.tup (s.map D.str)) (.tup (t.map D.str))=some (decide (s=t)):=FQ s t;have e2:eqN 38 G (.str (wrd b)) (.str (wrd c))=some (wrd b==wrd c):=rfl;have e3:eqN 39 G (U3 b s) (U3 c t)=eqL (eqN 38 G) [.str (wrd b),.tup (s.map D.str)] [.str (wrd c),.tup (t.map D.str)]:=rfl;rw[e3];simp only[eqL,e1,e2];exact⟨_,rfl⟩
theorem Lp:eqN 40 G (sP s) tS=some false:=by
 obtain⟨ns,b,ts,f,t⟩:=s;obtain⟨k,ek⟩:=RR;have e3:∃k,eqN 39 G (trD f t) (.tup [.bl false,.bl true])=some k:=by cases f<;>cases t<;>exact⟨_,rfl⟩
 obtain⟨k3,e3⟩:=e3;show eqL (eqN 39 G) [.tup (rsD ns),U3 b ts,trD f t,.non,.non] [.tup [.tup [.non,.non]],U3 false [],.tup [.bl false,.bl true],.tup [.tup [],.str ("any" :Str)],.tup [.tup [],.str ("any" :Str)]]=_;rw[A4,A4,A4,OS,ek,e3,show eqL (eqN 39 G) [.non,.non] [.tup [.tup [],.str ("any" :Str)],.tup [.tup [],.str ("any" :Str)]]=some false from rfl];simp
theorem OR(q:Q (sP s) G):Wp (C6 [.tup (rsD s.ns),U3 s.b s.ts,trD s.f s.t,.non,.non]) G Q:=by refine u0<| M8 (X1:= [some (.tup (rsD s.ns)),some (U3 s.b s.ts),some (trD s.f s.t),some .non,some .non,some (sP s)]) rfl<| o7<| E9.mpr<| J6<| bin_w<| b8 rfl<| b8 rfl<| sA.mpr ⟨_,Lp,_,rfl,?_⟩;rw[if_neg zw];exact b8 rfl<| j8 q
end
def evL:List D->List D
|a::_::r=>a::evL r
|l=>l
def odL:List D->List D
|_::b::r=>b::odL r
|_=> []
theorem fv(n:Nat):y8 n (some 0) none (some 2)= (zR ((n+1) / 2)).map λk=>2*k:=by
 unfold y8 yR JG;have hc:(if (2:Int)>0 then (if max 0 (min (0:Int) n)<(n:Int)then ((n:Int)-max 0 (min (0:Int) n)+2-1) / 2 else 0)else (if max 0 (min (0:Int) n)>(n:Int)then (max 0 (min (0:Int) n)-(n:Int)-2-1) / (-2)else 0)).toNat= (n+1) / 2:=by rw[if_pos (by decide)];split<;>lia
 show (zR (if (2:Int)>0 then (if max 0 (min (0:Int) n)<(n:Int)then ((n:Int)-max 0 (min (0:Int) n)+2-1) / 2 else 0)else (if max 0 (min (0:Int) n)>(n:Int)then (max 0 (min (0:Int) n)-(n:Int)-2-1) / (-2)else 0)).toNat).map (λk:Nat=>(max 0 (min (0:Int) n)+2*(k:Int)).toNat)=_;rw[hc];refine xI λk _=>?_;lia
theorem bh(n:Nat):y8 n (some 1) none (some 2)= (zR (n / 2)).map λk=>2*k+1:=by
 unfold y8 yR JG;have hc:(if (2:Int)>0 then (if max 0 (min (1:Int) n)<(n:Int)then ((n:Int)-max 0 (min (1:Int) n)+2-1) / 2 else 0)else (if max 0 (min (1:Int) n)>(n:Int)then (max 0 (min (1:Int) n)-(n:Int)-2-1) / (-2)else 0)).toNat=n / 2:=by rw[if_pos (by decide)];split<;>lia
 show (zR (if (2:Int)>0 then (if max 0 (min (1:Int) n)<(n:Int)then ((n:Int)-max 0 (min (1:Int) n)+2-1) / 2 else 0)else (if max 0 (min (1:Int) n)>(n:Int)then (max 0 (min (1:Int) n)-(n:Int)-2-1) / (-2)else 0)).toNat).map (λk:Nat=>(max 0 (min (1:Int) n)+2*(k:Int)).toNat)=_;rw[hc];refine xI λk hk=>?_;have:=yz.mp hk;lia
theorem wP:∀l:List D,((zR ((l.length+1) / 2)).map λk=>2*k).filterMap (l[·]?)=evL l
|[]=>rfl
|[a]=>by rw[show ([a].length+1) / 2=1 by simp];rfl
|a::b::r=>by
  have e:((a::b::r).length+1) / 2= (r.length+1) / 2+1:=by simp only[zD];lia
  rw[e,yK,zW,ju];show a::_=a::evL r;congr 1;rw[<-wP r,Zm,xk,xk];rfl
theorem eO:∀l:List D,((zR (l.length / 2)).map λk=>2*k+1).filterMap (l[·]?)=odL l
|[]=>rfl
|[a]=>by rw[show [a].length / 2=0 by simp];rfl
|a::b::r=>by
  have e:(a::b::r).length / 2=r.length / 2+1:=by simp only[zD];lia
  rw[e,yK,zW,ju];show b::_=b::odL r;congr 1;rw[<-eO r,Zm,xk,xk];rfl
theorem rT(l:List D):SA l (some 0) none (some 2)=evL l:=by unfold SA;rw[fv,wP]
theorem AZ(l:List D):SA l (some 1) none (some 2)=odL l:=by unfold SA;rw[bh,eO]
theorem wM(e:G[a]? =some (.lst l))(q:Q (.ref G.length) (G++[.lst l])):Wp (NA [.ref a]) G Q:=by show Wp (do let l <-M7 a >>= DL.listOf;K7 (.lst l)) G Q;exact f9.mpr<| f9.mpr<| O3.mpr ⟨_,e,d8.mpr<| Q7.mpr q⟩
theorem Wf(e:fs σ G=some (.ok [.ref a,.ref b],G1))(ea:G1[a]? =some (.lst k))(eb:G1[b]? =some (.lst l))(q:R ⟨(k.zip l).map λp=>.tup [p.1,p.2],λG=>ckO a (.lst k) G&&ckO b (.lst l) G⟩ G1):Wp (l5 fs σ) G R:=by unfold l5;refine f9.mpr (b8 e ?_);show Wp (do let s1 <-(do let o <-M7 a;let l <-DL.listOf o;pure ⟨l,ckO a o⟩:M Src);let s2 <-(do let o <-M7 b;let l <-DL.listOf o;pure ⟨l,ckO b o⟩:M Src);pure ⟨(s1.items.zip s2.items).map λp=>.tup [p.1,p.2],λG=>s1.ck G&&s2.ck G⟩:M Src) G1 R;exact f9.mpr<| f9.mpr<| O3.mpr ⟨_,ea,f9.mpr<| d8.mpr<| d8.mpr<| f9.mpr<| f9.mpr<| O3.mpr ⟨_,eb,f9.mpr<| d8.mpr<| d8.mpr<| d8.mpr q⟩⟩
def sN(l:List Rg):D:=.tup [.tup (rsD l),.tup [.str ("of" :Str),.tup []],.tup [],.non,.non]
section
variable{G:DH}{Q:DPP}
theorem cu:eqN 40 G (sN l) (.tup [.tup [.tup [.non,.non]],.tup [.str ("but" :Str),.tup []],.tup [.bl false,.bl true],.tup [.tup [],.str ("any" :Str)],.tup [.tup [],.str ("any" :Str)]])=some false:=by
 rcases l with _|⟨⟨a,b⟩,_|⟨q,r⟩⟩
 ·rfl
 ·rcases a with _|a<;>rcases b with _|b<;>rfl
 ·rcases a with _|a<;>rcases b with _|b<;>rfl
theorem OZ(q:Q (sN l) G):Wp (C6 [.tup (rsD l),.tup [.str ("of" :Str),.tup []],.tup [],.non,.non]) G Q:=by refine u0<| M8 (X1:= [some (.tup (rsD l)),some (.tup [.str ("of" :Str),.tup []]),some (.tup []),some .non,some .non,some (sN l)]) rfl<| o7<| E9.mpr<| J6<| bin_w<| b8 rfl<| b8 rfl<| sA.mpr ⟨_,cu,_,rfl,?_⟩;rw[if_neg zw];exact b8 rfl<| j8 q
theorem aU(h:okR r):mH [P5 r.1,P5 r.2] G=some (.ok (.bl false),G):=by
 obtain⟨a,b⟩:=r;rcases a with _|a
 ·rfl
 ·rcases b with _|b
  ·rfl
  ·have:=h a b rfl rfl;show some (Except.ok (D.bl (decide (a>b))),G)=_;rw[decide_eq_false (by lia)]
theorem nJ(h:okR r)(q:Q (sN [r]) G):Wp (V8 [P5 r.1,P5 r.2]) G Q:=by refine u0<| o7<| TX ?_<| j7 (as:= [.tup (rsD [r]),.tup [.str ("of" :Str),.tup []],.tup [],.non,.non]) rfl rfl<| OZ<| j8 q;exact C3<| W3.mpr<| j7 rfl rfl<| b8 (aU h)<| M6.mpr ⟨rfl,rfl⟩
theorem iq(q:Q (sN [(some i,some i)]) G):Wp (fB [.int i]) G Q:=
 u0<| M8 (X1:= [some (.int i)]) rfl<| d9.mpr<| O7<| b8 rfl ⟨λ_=>o7<| j7 rfl rfl<| nJ (r:=(some i,some i)) (λa b e1 e2=>by cases e1;cases e2;exact Zg _)<| j8 q,λz=>nomatch z⟩
end
section
variable{T:Str}{G:DH}{Q:DPP}{P:Fl->DH->Prop}{i:Int}{ρ:DSt}
theorem E3(k:S6 T p i=false)(w:Wp (Y (some (.str T)::some (.int i)::ρ)) G P):
 Wp (m5 (ifS (truthE (mtE isStrM startsD g0 (I0 (cE (.str p)) l0))) X v4) Y (some (.str T)::some (.int i)::ρ)) G P:=by
 refine d9.mpr<| O7<| W7<| v8 rfl rfl rfl ?_;rw[k];exact⟨rfl,λz=>(nomatch z),λ_=>j6.mpr w⟩
theorem mG(k:S6 T p i=true)(w:Wp (e (some (.str T)::some (.int i)::ρ)) G λd G1=>P (.rt d) G1):
 Wp (m5 (ifS (truthE (mtE isStrM startsD g0 (I0 (cE (.str p)) l0))) (u9 e) v4) Y (some (.str T)::some (.int i)::ρ)) G P:=by
 refine d9.mpr<| O7<| X4<| v8 rfl rfl rfl ?_;rw[k];exact⟨rfl,λ_=>o7 w,λz=>nomatch z⟩
theorem noF{pre rest ps:List Nat}(h:tl T=pre++rest)(e:rest=d::r)(hp:tl p=c::ps)(k:d≠c):S6 T p (pre.length:Int)=false:=
 oE h hp λx y z=>by rw[e]at z;rw[<-(jw z).1];exact k
theorem vc{st:Int}(hz:T.length<=zi)(hs:st=pre.length)(h:tl T=pre++post)(hp:∀c r,post=c::r->c=32\/c=44\/c=93\/c=41\/c=125)(q:Q (.bl false) G):Wp (R5 [.str T,.int st]) G Q:=by subst hs;refine u0<| o7<| GH.mpr<| v8 rfl rfl rfl ?_;rw[oE h rfl λc r e=>by have:=hp c r e;lia];refine M6.mpr ?_;rw[if_neg zw];refine bin_w<| j7 rfl rfl<| UC (run:= []) (rest:=post) hz rfl (by rw[h,ji]) (λ_ z=>nomatch z) (λc r e=>by have:=hp c r e;lia)<| b8 rfl<| UA.mpr<| j8 ?_;rw[decide_eq_false (by simp)];exact q
theorem iz{st:Int}(hz:T.length<=zi)(hs:st=pre.length)(h:tl T=pre++nmL j++post)(ho:AB 48 57 post)(q:Q (.bl true) G):Wp (R5 [.str T,.int st]) G Q:=by
 subst hs;have hs:tl T=pre++(nmL j++post):=by rw[h,zo]
 refine u0<| o7<| GH.mpr<| v8 rfl rfl rfl ?_;rcases rF j with⟨m,rfl⟩|⟨m,hm,rfl⟩
 ·have en:=qB m;rw[oE hs rfl λc r e=>by
   rw[en]at e;rcases k:dg m with _|⟨x,y⟩
   ·exact absurd k (uC m)
   ·rw[k]at e;have e:=(jw e).1;have:=vB m x (by rw[k];exact jo ..);lia]
  refine M6.mpr ?_;rw[if_neg zw];refine bin_w<| j7 rfl rfl<| UC hz rfl (by rw[h,en]) (vB m) ho<| b8 rfl<| UA.mpr<| j8 ?_;have:=List.length_pos_iff.mpr (uC m);rw[decide_eq_true (by lia)];exact q
 ·rw[G9 hs (by rw[WE m hm];rfl)];refine M6.mpr ?_;rw[if_pos rfl];exact j8 q
end
section
variable{T:Str}{G:DH}{Q:DPP}
abbrev wS(dp:Int)(T:Str)(p:Nat)(u:Option D):DSt:= [some (.str T),sIi p,some (.int dp),u,none]
theorem LJ{p:Nat}(h:S6 T k (p:Int)=false):WK (wS dp T p (some (.str k))) G=some (.ok (.nx (wS dp T p (some (.str k)))),G):=by refine C3<| O7<| W7<| v8 rfl rfl rfl ?_;rw[h];exact⟨rfl,λz=>(nomatch z),λ_=>j6.mpr ⟨rfl,rfl⟩⟩
theorem SJ{p:Nat}(h1:S6 T ("number" :Str) (p:Int)=false)(h2:S6 T ("text" :Str) (p:Int)=false)(h3:S6 T ("truth" :Str) (p:Int)=false):∃u,WL (wS dp T p none) G=some (.ok (.nx (wS dp T p u)),G):=by refine⟨some (.str ("truth" :Str)),C3<| dD.mpr<| wp_itW.mpr<| b8 rfl<| srcW_tup.mpr ?_⟩;refine GA.mpr ⟨rfl,R8.mpr<| b8 (LJ h1)<| GA.mpr ⟨rfl,R8.mpr<| b8 (LJ h2)<| GA.mpr ⟨rfl,R8.mpr<| b8 (LJ h3)<| aC.mpr ⟨rfl,rfl,rfl⟩⟩⟩⟩
theorem fD{at':Int}{pre rest:List Nat}(ha:at'=pre.length)(hp:p.length<=zi)(h:tl T=pre++(tl p++rest))(q:Q (.int ((pre.length:Int)+p.length)) G):Wp (W2 [.str T,.int at',.str p]) G Q:=by subst ha;refine u0<| d9.mpr<| PN<| X4<| v8 rfl rfl rfl ?_;rw[G9 h rfl];exact⟨rfl,rfl,j6.mpr<| o7<| bin_w<| b8 rfl<| D3 rfl<| (VD hp).mpr<| pD.mpr<| j8 q⟩
theorem Vb{pre post:List Nat}(hz:T.length<=zi)(ht:TxL z)(h:tl T=pre++(34::(tl z++[34]))++post)(q:Q (.tup [.str z,.int ((pre.length:Int)+(z.length+2:Nat))]) G):Wp (F_text_at [.str T,.int pre.length]) G Q:=by
 have h1:tl T= (pre++[34])++tl z++([34]++post):=by rw[h];simp
 have e1:((pre++[34]).length:Int)= (pre.length:Int)+1:=by simp
 refine u0<| d9.mpr<| K5<| j7 rfl rfl<| UC hz e1.symm h1 ht.1 (λc r e=>by cases e;decide) ?_;rw[e1];have h2:=BK h1;rw[e1]at h2;refine o7<| R3.mpr<| j5<| TC.mpr<| b8 rfl<| b8 rfl<| b8 rfl<| (RK hz).mpr ?_;rw[h2];have h3:tl T= (pre++[34]++tl z)++(tl ("\"" :Str)++post):=by rw[h1];simp;rfl
 refine j5<| j7 rfl rfl<| fD (by simp;lia) (by decide) h3<| v7.mpr ⟨sz,j8 ?_⟩;have e4:(((pre++[34]++tl z).length:Int)+(("\"" :Str).length:Nat))= (pre.length:Int)+(z.length+2:Nat):=by rw[zd,zd,F6];show (((pre.length+1+z.length:Nat):Int)+(1:Nat))=_;lia
 rw[e4];exact q
end
abbrev nM(z:Str):PS:=⟨[],true, [z],false,false⟩
abbrev EH(b:Bool):PS:=⟨[],true, [], !b,b⟩
section
variable{T:Str}{G:DH}{Q:DPP}{pre post:List Nat}
theorem eU(q:Q (sP (nM z)) G):Wp (fB [.str z]) G Q:=
 u0<| M8 (X1:= [some (.str z)]) rfl<| M8 (X1:= [some (.str z)]) rfl<| d9.mpr<| O7<| b8 rfl ⟨λ_=>o7<| j7 rfl rfl<| OR<| j8 q,λz=>nomatch z⟩
theorem cS(q:Q (sP (EH b)) G):Wp (fB [.bl b]) G Q:=
 u0<| d9.mpr<| O7<| b8 rfl ⟨λ_=>o7<| j7 (by cases b<;>rfl) rfl<| OR<| j8 q,λz=>nomatch z⟩
theorem pfx{rest:List Nat}(h:tl T=pre++rest)(k:¬tl p <+:rest):S6 T p (pre.length:Int)=false:=(TJ h).trans (decide_eq_false k)
end
def LtS(a b:Str):Prop:=a.cps.toList<b.cps.toList
theorem vp{G:DH}{σ:DSt}{fs:DSt->M (List D)}{R:Src->DH->Prop}:Wp (l5 fs σ) G R↔Wp (fs σ) G λxs G1=>Wp (match xs with
 |[a,b]=>do
   let s1 <-Q2 a
   let s2 <-Q2 b
   pure ⟨(s1.items.zip s2.items).map λp=>.tup [p.1,p.2],λG=>s1.ck G&&s2.ck G⟩
 |_=>M.stuck:M Src) G1 R:=by
 unfold l5;simp only[f9]<;>rfl
theorem iu{G:DH}{p q:Nat}{k l:List D}{R:Src->DH->Prop}(ep:G[p]? =some (.lst k))(eq:G[q]? =some (.lst l)):Wp (match [D.ref p,D.ref q] with
 |[a,b]=>do
   let s1 <-Q2 a
   let s2 <-Q2 b
   pure ⟨(s1.items.zip s2.items).map λp=>.tup [p.1,p.2],λG=>s1.ck G&&s2.ck G⟩
 |_=>M.stuck:M Src) G R↔R ⟨(k.zip l).map λp=>.tup [p.1,p.2],λG=>ckO p (.lst k) G&&ckO q (.lst l) G⟩ G:=by
 show Wp (do
  let s1 <-Q2 (.ref p)
  let s2 <-Q2 (.ref q)
  pure ⟨(s1.items.zip s2.items).map λp=>.tup [p.1,p.2],λG=>s1.ck G&&s2.ck G⟩:M Src) G R↔_
 simp only[f9];rw[FI (σ:= []) ep,FI (σ:= []) eq];exact d8
theorem uL{α:Type}{R:α->α->Prop}:∀ {l:List α},l.Pairwise R->∀p∈l.zip (l.drop 1),R p.1 p.2
|[],_,p,hp=>by cases hp
|[x],_,p,hp=>by cases hp
|x::y::r,h,p,hp=>by
  have h':=Zv.mp h;rcases zk.mp (show p∈(x,y)::(y::r).zip r from hp)with rfl|hp
  ·exact h'.1 _ (by simp)
  ·exact uL h'.2 p hp
def SqD(G:DH)(d:D)(l:List D):Prop:=d= .tup l\/∃p,d= .ref p/\G[p]? =some (.lst l)
theorem mw{d:D}{l:List D}{e:Fe}{G:DH}{Q:DPP}(hd:SqD G d l)(hl:l.length<=10000)
 (h:∀p∈l.zip (l.drop 1),∀G1,Ap G G1->Wp (e [some p.1,some p.2]) G1 λy G2=>y= .bl true/\Ap G1 G2) (q:∀G',Ap G G'->Q (.bl true) G'):
 Wp (D0 KB (F5 (U4 (l5 (I0 g0 (J5 g0 (J3 x0) (J7)))) [none,none] (E4 2 (Q4 S4 (Q4 U1 (F4)))) (y6) e)) [some d]) G Q:=by
 have bg:=big;have hz:(l.zip (l.drop 1)).length<=zi:=by rw[List.length_zip];lia
 have main:∀(ck:DH->Bool) (G0:DH),Ap G G0->(∀G',Ap G0 G'->ck G'=true)->Wp (N5 (E4 2 (Q4 S4 (Q4 U1 (F4)))) y6 e ck ((l.zip (l.drop 1)).map λp=>.tup [p.1,p.2]) [none,none]) G0 λys G2=>Wp (z0 [some d]) (G2++[.lst ys]) λxs G3=>Wp (KB (.ref G2.length::xs)) G3 Q:=by
  intro ck G0 j0 sk;refine(KR (Ap G0) (λσ=>∃u v,σ= [u,v]) (λ_=>.bl true) sk _ _ G0 ⟨_,_,rfl⟩ Ap.refl ?_).mono ?_
  ·rintro d hd _ G1 ⟨u,v,rfl⟩ j;obtain⟨p,hp,rfl⟩:=ZY.mp hd;exact b8 rfl ⟨rfl,⟨_,_,rfl⟩,b8 rfl ⟨rfl,rfl,(h p hp G1 (j0.trans j)).mono λy G2 q=>⟨j.trans q.2,q.1⟩⟩⟩
  ·rintro _ G2 ⟨j,rfl⟩;refine v7.mpr ((Rf o4).mpr ?_);rw[Xr.mpr λ_ _=>rfl];exact q _ ((j0.trans j).trans Ap.one)
 refine R6<| j5<| wp_comp.mpr ?_;rcases hd with rfl|⟨p,rfl,ep⟩
 ·refine b8 rfl ?_;rw[gM];exact⟨by rw[zE];exact hz,main _ G Ap.refl λ_ _=>rfl⟩
 ·refine vp.mpr<| BI rfl<| j5<| TC.mpr<| b8 rfl<| aK.mpr<| b8 rfl ⟨1,rfl,RH.mpr<| (fK ep).mpr<| v7.mpr<| (iu (U0 ep) o4).mpr ?_⟩;rw[gM];refine⟨by rw[zE];exact hz,main _ _ Ap.one λG' j=>?_⟩;have h1:=j.at (U0 ep);have h2:=j.at (o4);simp only[ckO,h1,h2];simp
theorem qU{d:D}{l:List D}{G:DH}{Q:DPP}(hd:SqD G d l)(hl:l.length<=10000)(h:l.Pairwise λa b=>∀G,ltN 40 G a b=some true)(q:∀G',Ap G G'->Q (.bl true) G'):Wp (HF [d]) G Q:=
 u0<| o7<| mw hd hl (λp hp G1 j=>bin_w<| b8 rfl<| b8 rfl<| dM.mpr ⟨true,uL h p hp G1,rfl,Ap.refl⟩) λG' a=>j8 (q G' a)
theorem wW{ss:List Str}(h:ss.Pairwise LtS):(ss.map D.str).Pairwise λa b=>∀G,ltN 40 G a b=some true:=
 yW.mpr (h.imp λ{a b} q G=>(show ltN 40 G (.str a) (.str b)=some (decide (a.cps.toList<b.cps.toList))from rfl).trans (by rw[decide_eq_true (show a.cps.toList<b.cps.toList from q)]))
section
variable{G:DH}{Q:DPP}
theorem HL:∀fs:List Fld,V5 V7 (fs.map fdD) G=some (.ok (fs.map λf=>D.str f.nm),G)
|[]=>rfl
|f::r=>by show (V7 [fdD f] >>= λk=>V5 V7 (r.map fdD) >>= λks=>pure (k::ks)) G=_;have e:V7 [fdD f] G=some (.ok (.str f.nm),G):=rfl;exact C3<| f9.mpr<| b8 e<| f9.mpr<| b8 (HL r)<| d8.mpr ⟨rfl,rfl⟩
theorem LQ:∀fs:List Fld,D5 PR (fs.map λf=>D.str f.nm)=some (fs.map λf=>((0:Int),f.nm))
|[]=>rfl
|f::r=>by rw[zW,zW];unfold D5;rw[LQ r];rfl
theorem kU{qs:List (Int×Str)}{l:List D}(hl:qs.length=l.length)(h:qs.Pairwise λa b=>X5 a b=true):r9 qs l=l:=by
 unfold r9;rw[List.mergeSort_of_pairwise,List.map_snd_zip (by lia)];have:∀(qs:List (Int×Str)) (l:List D),(qs.Pairwise λa b=>X5 a b=true)->(qs.zip l).Pairwise λa b=>C8 a b=true:=λqs=>by
  induction qs with
  |nil=>exact λ_ _=>.nil
  |cons q qs ih=>
    intro l h;rcases l with _|⟨x,l⟩
    ·exact .nil
    ·obtain⟨h1,h2⟩:=Zv.mp h;refine Zv.mpr ⟨λp hp=>?_,ih l h2⟩;have k:=h1 p.1 (Yh hp).1;show (!X5 p.1 q)=true;rw[yD,jO];intro z;have:=RA k z;rw[DC]at this
     cases this
 exact this qs l h
theorem gu{c:Nat}{fs:List Fld}(e:G[c]? =some (.lst (fs.map fdD)))(hl:fs.length<64)(h:(fs.map Fld.nm).Pairwise ltT)(q:Q (.ref G.length) (G++[.lst (fs.map fdD)])):Wp (eB V7 (.ref c)) G Q:=by
 have pw:(fs.map λf=>((0:Int),f.nm)).Pairwise λa b=>X5 a b=true:=by rw[yW]at h ⊢;exact h.imp λ{a b} k=>by unfold X5;rw[if_pos rfl];exact decide_eq_true k
 have nd:(fs.map λf=>((0:Int),f.nm)).Nodup:=pw.imp λ{a b} k z=>by rw[z,DC]at k;cases k
 have ks:A9 (fs.map λf=>D.str f.nm)=some (fs.map λf=>((0:Int),f.nm)):=by
  unfold A9;rw[LQ];rcases fs with _|⟨f,r⟩
  ·rfl
  ·rw[zW,show D5 gE (D.str f.nm::r.map λf=>D.str f.nm)=none from rfl]
 unfold eB;simp only[f9,O3,e,Q0,zE,if_pos hl,iE];refine(oD (HL fs)).mpr ?_;simp only[g9,ks,Q0,if_pos nd,Q7];rw[kU (by rw[zE,zE]) pw];exact q
end
section
variable{a b:Fe}{t:DSt->M Bool}{f g:Fs}{σ:DSt}{G G1:DH}{Q:DPP}{P:Fl->DH->Prop}{B:Bool->DH->Prop}
theorem rK(e:a σ G=some (.ok (.bl true),G1))(w:Wp (b σ) G1 Q):Wp (W6 a b σ) G Q:=nH.mpr (b8 e (M6.mpr (by rw[if_pos rfl];exact w)))
end
theorem Sc(e:fs σ G=some (.ok [.tup k,.tup l],G))(q:R ⟨(k.zip l).map λp=>.tup [p.1,p.2],λ_=>true&&true⟩ G):Wp (l5 fs σ) G R:=by unfold l5;exact f9.mpr<| b8 e<| ⟨_,_,rfl,q⟩
section
variable{G:DH}
theorem ML:∀(l:List D) u v,(∀x∈l,R [x,x] G=some (.ok (.bl true),G))->
 Wp (A1 g23 (SF R) (λ_=>true&&true) ((l.zip l).map λp=>.tup [p.1,p.2]) [a,b,u,v]) G λfl G'=>G'=G/\∃u v,fl= .nx [a,b,u,v]
 |[],u,v,_=>aC.mpr ⟨rfl,rfl,u,v,rfl⟩
 |x::r,u,v,h=>by refine GA.mpr ⟨rfl,b8 rfl<| O7<| X8.mpr<| X4<| j7 rfl rfl<| b8 (h x (jo ..)) ⟨rfl,λz=>(nomatch z),λ_=>j6.mpr<| ML r _ _ λy hy=>h y (zP _ hy)⟩⟩
theorem wK:∀ {n N} {d},PDx n d->n<=N->V6 N [d,d] G=some (.ok (.bl true),G)
|0,_,_,h,_=>h.elim
|n+1,0,_,_,hn=>by lia
|n+1,N+1,d,h,hn=>by
  refine C3 (show Wp (m9 4 (oF (V6 N)) [d,d]) G _ from ?_);rcases h with rfl|⟨k,rfl⟩|⟨i,rfl⟩|⟨z,rfl⟩|⟨l,rfl,hl,hx⟩
  ·exact GD rfl ⟨rfl,rfl⟩
  ·exact GD (by cases k<;>rfl) ⟨rfl,rfl⟩
  ·refine u0<| M8 (X1:= [some (.int i),some (.int i),none,none]) rfl<| M8 (X1:= [some (.int i),some (.int i),none,none]) rfl<| d9.mpr<| O7<| b8 rfl ⟨λ_=>o7<| rK rfl<| rK rfl<| bin_w<| b8 rfl<| b8 rfl<| TB.mpr<| j8 ⟨?_,rfl⟩,λz=>(nomatch z)⟩;rw[decide_eq_true rfl]
  ·refine u0<| M8 (X1:= [some (.str z),some (.str z),none,none]) rfl<| M8 (X1:= [some (.str z),some (.str z),none,none]) rfl<| M8 (X1:= [some (.str z),some (.str z),none,none]) rfl<| d9.mpr<| O7<| b8 rfl ⟨λ_=>o7<| rK rfl<| bin_w<| b8 rfl<| b8 rfl<| eS.mpr<| j8 ⟨?_,rfl⟩,λz=>(nomatch z)⟩;rw[beq_self_eq_true]
  ·have bg:=big;refine u0 (show Wp (oF (V6 N) [some (.tup l),some (.tup l),none,none]) G _ from M8 rfl<| M8 rfl<| M8 rfl<| M8 rfl<| d9.mpr<| O7<| FA<| X8.mpr<| b8 rfl ⟨λz=>(nomatch z),λ_=>J6<| bin_w<| D3 rfl<| TR.mpr<| D3 rfl<| TR.mpr<| QK.mpr ⟨true,show some (decide ((l.length:Int)=l.length))=_ by rw[decide_eq_true rfl],_,rfl,λz=>(nomatch z),λ_=>j6.mpr ?_⟩⟩);refine d9.mpr<| dD.mpr<| Sc rfl<| (ML l none none λx hm=>wK (hx x hm) (by lia)).mono ?_;rintro _ _ ⟨rfl,u,v,rfl⟩;exact o7<| b8 rfl<| j8 ⟨rfl,rfl⟩
end
def We{α:Type}(x:Str)(E:DH->Prop)(m:M α)(G:DH)(Q:α->DH->Prop):Prop:=Wp m G Q\/∃G',m G=some (.error x,G')/\E G'
section
variable{α β:Type}{x:Str}{E:DH->Prop}{m:M α}{G:DH}{Q Q':α->DH->Prop}{f:α->M β}{R:β->DH->Prop}{σ:DSt}{S T g:Fs}{P:Fl->DH->Prop}{a:Fe}{t:DSt->M Bool}{fs:DSt->M (List D)}{F:List D->M D}{n i:Nat}{K:DPP}
theorem We.w(w:Wp m G Q):We x E m G Q:=.inl w
theorem We.mono(w:We x E m G Q)(k:∀a G',Q a G'->Q' a G'):We x E m G Q':=w.elim (λw=>.inl (w.mono k)) .inr
theorem We.emono{E':DH->Prop}(w:We x E m G Q)(k:∀G',E G'->E' G'):We x E' m G Q:=w.elim .inl fun⟨G',e,h⟩=>.inr ⟨G',e,k G' h⟩
theorem y7(w:We x E m G λa G1=>We x E (f a) G1 R):We x E (m >>= f) G R:=by
 rcases w with⟨a,G1,e,w|⟨G2,e2,h⟩⟩|⟨G1,e,h⟩
 ·exact .inl (f9.mpr ⟨a,G1,e,w⟩)
 ·exact .inr ⟨G2,by rw[M.bind_eq,e];exact e2,h⟩
 ·exact .inr ⟨G1,by rw[M.bind_eq,e],h⟩
theorem BR{m':M α}{G':DH}(e:m G=m' G')(w:We x E m' G' Q):We x E m G Q:=by unfold We at w ⊢;unfold Wp at w ⊢;rw[e];exact w
theorem t6 (w:We x E (S σ) G λfl G1=>match fl with
 | .nx X1=>We x E (g X1) G1 P
 |r=>P r G1):We x E (m5 S g σ) G P:=by
 delta m5;refine y7 (w.mono λfl G1 q=>?_)
 cases fl<;>first
  |exact q
  |exact .inl (d8.mpr q)
theorem RD(w:Wp (t σ) G λk G1=>(k=true->We x E (S σ) G1 P)/\(k=false->We x E (T σ) G1 P)):We x E (ifS t S T σ) G P:=by
 unfold ifS;refine y7 (.inl (w.mono λk G1 h=>?_))
 cases k with
 |true=>exact h.1 rfl
 |false=>exact h.2 rfl
theorem ED(w:We x E (a σ) G λd G1=>P (.rt d) G1):We x E (u9 a σ) G P:=by unfold u9;exact y7 (w.mono λd G1 q=>.inl (d8.mpr q))
theorem M9(w:We x E (a σ) G λd G1=>P (.nx (σ.set i (some d))) G1):We x E (J4 a (O0 i) σ) G P:=by unfold J4;exact y7 (w.mono λd G1 q=>y7 (.inl (R8.mpr (.inl (d8.mpr q)))))
theorem PP(w:Wp (fs σ) G λ_ G1=>E G1):We x E (aB x fs σ) G P:=by obtain⟨ds,G1,e,h⟩:=w;refine .inr ⟨G1,?_,h⟩;have r:aB x fs σ= (fs σ >>= λ_=>(show M Fl from λG=>some (.error x,G))):=rfl;rw[r,M.bind_eq,e]
theorem O2{m:Nat}{ds:List D}{f:Fs}(w:We x E (f (ds.map some++jE (m-ds.length) none)) G (PB K)):We x E (m9 m f ds) G K:=by
 delta m9;refine y7 (w.mono λfl G1 q=>?_)
 cases fl with
 |nx _=>exact .inl (d8.mpr q)
 |rt _=>exact .inl (d8.mpr q)
 |bk _=>exact q.elim
 |ct _=>exact q.elim
theorem VN{ds:List D}(h:ds.length=n)(w:We x E (F ds) G K):We x E (fnZ n F ds) G K:=by unfold fnZ;rw[if_pos h];exact w
theorem M3(w:Wp (fs σ) G λds G1=>ds.length=n/\We x E (F ds) G1 K):We x E (D0 (fnZ n F) fs σ) G K:=by unfold D0;exact y7 (.inl (w.mono λds G1 q=>VN q.1 q.2))
theorem NO{tab:Str->Option (List D->M D)}{y:Str}(h:σ[i]? =some (some (.fn y)))(ht:tab y=some F)(w:Wp (fs σ) G λds G1=>ds.length=n/\We x E (F ds) G1 K):We x E (MA i n tab fs σ) G K:=by
 have e:MA i n tab fs σ= (fs σ >>= fnZ n F):=by delta MA;rw[h];show (match tab y with|some F=>fs σ >>= fnZ n F|none=>M.stuck:M D)=_;rw[ht]
 rw[e];exact y7 (.inl (w.mono λds G1 q=>VN q.1 q.2))
theorem GE{b:Fs} (w:Wp (t σ) G λk G1=>if k=true then We x E (b σ) G1 λfl G2=>(match fl with
 | .nx X1=>We x E (w5 n t b X1) G2 P
 | .ct X1=>We x E (w5 n t b X1) G2 P
 | .bk X1=>P (.nx X1) G2
 | .rt d=>P (.rt d) G2)
 else P (.nx σ) G1):We x E (w5 (n+1) t b σ) G P:=by
 rw[w5];refine y7 (.inl (w.mono λk G1 q=>?_));rcases k with _|_
 ·exact .inl (d8.mpr q)
 ·rw[if_pos rfl]at q ⊢;refine y7 (q.mono λfl G2 q=>?_)
  cases fl<;>first
   |exact q
   |exact .inl (d8.mpr q)
theorem pJ{b:Fs}(h:We x E (w5 n t b σ) G P):We x E (V3 t b σ) G P:=by
 rcases h with h|⟨G',e,q⟩
 ·exact .inl (wE h)
 ·refine .inr ⟨G',?_,q⟩;have hx:∃n,(w5 n t b σ G).isSome=true:=⟨n,by rw[e];rfl⟩;unfold V3;rw[dif_pos hx];have hs:=XY hx;obtain⟨r,hr⟩:=yn.mp hs;rw[hr];have e1:=tF (Nat.le_max_left n (xP hx)) e;have e2:=tF (Nat.le_max_right n (xP hx)) hr;rw[e1]at e2;exact e2.symm
theorem IU{y:Str}{b h:Fs}(w:We y E (b σ) G P)(k:∀G',E G'->Wp (h σ) G' P):Wp (NB y b h σ) G P:=by
 rcases w with⟨fl,G1,e,q⟩|⟨G1,e,q⟩
 ·refine⟨fl,G1,?_,q⟩;unfold NB;rw[e]
 ·obtain⟨fl,G2,e2,q2⟩:=k G1 q;refine⟨fl,G2,?_,q2⟩;unfold NB;rw[e];dsimp only;rw[if_pos rfl];exact e2
end
section
variable{T:Str}{G:DH}{Q:DPP}
theorem dZ{st:Int}{n:Nat}{a b:Option D}:Wp (orT (tBn eqD F0 o0) (tBn gtD (binE wB F0 o0) (cIn 40)) [a,b,some (.int st),some (.int (st+n))]) G λk G1=>G1=G/\k=decide (n=0\/40<n):=by
 refine FA<| J6<| bin_w<| b8 (a:=.int (st+n)) (G':=G) rfl<| b8 (a:=.int st) (G':=G) rfl<| TB.mpr ⟨_,rfl,λk=>⟨rfl,?_⟩,λk=>J6<| bin_w<| bin_w<| b8 (a:=.int (st+n)) (G':=G) rfl<| b8 (a:=.int st) (G':=G) rfl<| Lm.mpr<| b8 (a:=.int 40) (G':=G) rfl<| UA.mpr ⟨_,rfl,rfl,?_⟩⟩
 ·have:=of_decide_eq_true k;exact(decide_eq_true (Or.inl (by lia))).symm
 ·have:=of_decide_eq_false k;by_cases h:40<n
  ·rw[decide_eq_true (show st+(n:Int)-st>40 by lia),decide_eq_true (Or.inr h)]
  ·rw[decide_eq_false (show ¬st+(n:Int)-st>40 by lia),decide_eq_false (by lia)]
theorem Bg:bG=m5 (J4 (ifE (truthE (mtE isStrM startsD g0 (I0 (cSt "-") l0))) (binE addD l0 x0) l0) S0) (asQ (uE V9 g0 o0 (cSt "0") (cSt "9")) F2 NE):=rfl
abbrev sh(i:Int):Prop:=(dg i.natAbs).length<=40
structure Nb(i:Int):Prop where
 nz:i≠0
 le:(dg i.natAbs).length<=60
theorem Nb.txt{i:Int}(h:Nb i):∃sg,(sg= []\/sg= [45])/\nmL i=sg++dg i.natAbs/\0<i.natAbs:=by
 have:=h.nz;rcases rF i with⟨m,rfl⟩|⟨m,hm,rfl⟩
 ·exact⟨[],.inl rfl,by rw[qB];rfl,by lia⟩
 ·exact⟨[45],.inr rfl,by rw[WE m hm,YA];rfl,by lia⟩
theorem Nb.back{i:Int}(h:Nb i):JJ (ofL (nmL i))=some i:=by
 have:=h.le;rcases rF i with⟨m,rfl⟩|⟨m,hm,rfl⟩
 ·have hl:(dg m).length<=60:=this;rw[qB];rw[PySem.intText_digits (vB m) (uC m) (show (ofL (dg m)).length<=4300 by rw[<-F6,DF];lia)];show some ((YF (dg m):Nat):Int)=_;rw[show YF (dg m)=m from XD m]
 ·have hl:(dg m).length<=60:=by rw[YA]at this;exact this
  rw[WE m hm];rw[PySem.intText_neg rfl (vB m) (uC m) (show (ofL (45::dg m)).length<=4300 by rw[<-F6,DF,zD];lia),show YF (dg m)=m from XD m]
theorem tQ{i:Int}(h:Nb i)(q:Q (.int i) G):Wp (E6 [.str (ofL (nmL i))]) G Q:=by
 have e:E6 [.str (ofL (nmL i))]= (match JJ (ofL (nmL i)) with|some n=>if (ofL (nmL i)).length<=640 then pure (.int n)else M.stuck|none=>M.stuck:M D):=rfl;have hl:(nmL i).length<=61:=by obtain⟨sg,hs,en,_⟩:=h.txt;have:=h.le;rw[en,zd];rcases hs with rfl|rfl<;>simp<;>lia
 rw[e,h.back];show Wp (if (ofL (nmL i)).length<=640 then pure (.int i)else M.stuck:M D) G Q;rw[if_pos (show (ofL (nmL i)).length<=640 from jc hl (by decide))];exact d8.mpr q
theorem Lq{i:Int}{pre sg post:List Nat}(hz:T.length<=zi)(hi:Nb i)(en:nmL i=sg++dg i.natAbs)(h:tl T=pre++nmL i++post):
 We "NoValue" (λ_=>¬sh i) (NE [some (.str T),some (.int pre.length),some (.int ((pre.length:Int)+sg.length)),some (.int ((pre.length:Int)+sg.length+(dg i.natAbs).length))]) G (PB λd G'=>sh i/\G'=G/\d= .tup [.int i,.int ((pre.length:Int)+(nmL i).length)]):=by
 have n0:0<i.natAbs:=by have:=hi.nz;lia
 have d0:(dg i.natAbs).length≠0:=λz=>uC _ (xi z);refine t6<| RD<| dZ.mono λb G1 q=>?_;obtain⟨rfl,e⟩:=q;by_cases A:40<(dg i.natAbs).length
 ·rw[decide_eq_true (Or.inr A)]at e;exact⟨λ_=>PP (b8 rfl (show ¬(dg i.natAbs).length<=40 by lia)),λz=>by rw[e]at z;cases z⟩
 ·rw[decide_eq_false (by lia)]at e;refine⟨λz=>(by rw[e]at z;cases z),λ_=>.inl (j6.mpr ?_)⟩;have hst:tl T= (pre++sg)++(dg i.natAbs++post):=by rw[h,en];simp
  have hb:S6 T ("0" :Str) ((pre.length:Int)+sg.length)=false:=by rw[show (pre.length:Int)+sg.length= ((pre++sg).length:Int) by simp];obtain⟨x,y,k,h49⟩:=lL _ n0;exact noF hst (by rw[k];rfl) rfl (by lia)
  have el:(pre.length:Int)+sg.length+(dg i.natAbs).length= (pre.length:Int)+(nmL i).length:=by rw[en,zd];lia
  refine .inl<| d9.mpr<| O7<| E7<| W7 ?_;refine v8 (T:=T) (i:=(pre.length:Int)+sg.length) rfl rfl rfl ?_;rw[hb];refine⟨rfl,λz=>(nomatch z),λ_=>⟨λz=>(nomatch z),λ_=>j6.mpr ?_⟩⟩;refine o7<| R3.mpr<| j5<| R6<| j5<| TC.mpr<| b8 rfl<| b8 rfl<| b8 rfl<| (RK hz).mpr<| v7.mpr ?_;rw[el,BK h];exact tQ hi<| b8 rfl ⟨sz,j8 ⟨show (dg i.natAbs).length<=40 by lia,rfl,rfl⟩⟩
theorem OO{i:Int}{pre post:List Nat}{at':Int}(ha:at'=pre.length)(hz:T.length<=zi)(hi:Nb i)(h:tl T=pre++nmL i++post)(ho:AB 48 57 post):
 We "NoValue" (λ_=>¬sh i) (V4 [.str T,.int at']) G λd G'=>sh i/\G'=G/\d= .tup [.int i,.int ((pre.length:Int)+(nmL i).length)]:=by
 subst ha;refine O2 (show We _ _ (bG [some (.str T),some (.int pre.length),none,none]) G _ from ?_);rw[Bg];obtain⟨sg,hs,en,n0⟩:=hi.txt;have hs0:tl T=pre++(nmL i++post):=by rw[h,zo]
 have w:=Lq (G:=G) (sg:=sg) hz hi en h;rcases hs with rfl|rfl
 ·have hb:S6 T ("-" :Str) (pre.length:Int)=false:=by
   obtain⟨x,y,k,h49⟩:=lL _ n0;exact noF hs0 (by rw[en,k];rfl) rfl (by lia)
  refine t6<| M9<|.inl<| E9.mpr<| W7<| v8 (G:=G) rfl rfl rfl ?_;rw[hb];refine⟨rfl,?_⟩;rw[if_neg zw];refine b8 (a:=.int pre.length) (G':=G) rfl<| t6<| M9<|.inl<| j7 (as:= [.str T,.int pre.length,.str ⟨#[48]⟩,.str ⟨#[57]⟩]) rfl rfl<| UC hz rfl (by rw[h,en];rfl) (vB _) ho ?_;rw[show ((pre.length:Int)+(([]:List Nat).length:Nat))= (pre.length:Int)from by simp]at w;exact w
 ·have h1:tl T= (pre++[45])++dg i.natAbs++post:=by rw[h,en];simp
  have e1:((pre++[45]).length:Int)= (pre.length:Int)+1:=by simp
  refine t6<| M9<|.inl<| E9.mpr<| X4<| v8 (G:=G) rfl rfl rfl ?_;rw[G9 hs0 (r:=dg i.natAbs++post) (by rw[en];rfl)];refine⟨rfl,?_⟩;rw[if_pos rfl];refine b8 (a:=.int ((pre.length:Int)+1)) (G':=G) rfl<| t6<| M9<|.inl<| j7 (as:= [.str T,.int ((pre.length:Int)+1),.str ⟨#[48]⟩,.str ⟨#[57]⟩]) rfl rfl<| UC hz e1.symm h1 (vB _) ho ?_;rw[e1];exact w
end
section
variable{T:Str}{G:DH}{Q:DPP}{P:Fl->DH->Prop}{x:Str}{E:DH->Prop}{X Y:Fs}{e:Fe}{ρ:DSt}{p:Str}{i:Int}
theorem zN(k:S6 T p i=false)(w:We x E (Y (some (.str T)::some (.int i)::ρ)) G P):
 We x E (m5 (ifS (truthE (mtE isStrM startsD g0 (I0 (cE (.str p)) l0))) X v4) Y (some (.str T)::some (.int i)::ρ)) G P:=by
 refine t6<|.inl<| O7<| W7<| v8 rfl rfl rfl ?_;rw[k];exact⟨rfl,λz=>(nomatch z),λ_=>j6.mpr w⟩
theorem zY(k:S6 T p i=true)(w:We x E (e (some (.str T)::some (.int i)::ρ)) G λd G1=>P (.rt d) G1):
 We x E (m5 (ifS (truthE (mtE isStrM startsD g0 (I0 (cE (.str p)) l0))) (u9 e) v4) Y (some (.str T)::some (.int i)::ρ)) G P:=by
 refine t6<| RD<| X4<| v8 rfl rfl rfl ?_;rw[k];exact⟨rfl,λ_=>ED w,λz=>nomatch z⟩
theorem cH(i:Int):∃c r,nmL i=c::r/\(c=45\/48<=c/\c<=57):=by
 rcases rF i with⟨m,rfl⟩|⟨m,hm,rfl⟩
 ·rw[qB];rcases k:dg m with _|⟨x,y⟩
  ·exact absurd k (uC m)
  ·exact⟨x,y,rfl,.inr (vB m x (by rw[k];exact jo ..))⟩
 ·exact⟨45,_,WE m hm,.inl rfl⟩
theorem LZ{pre post:List Nat}(hz:T.length<=zi)(hi:Nb i)(h:tl T=pre++nmL i++post)(ho:AB 48 57 post):We "NoValue" (λ_=>¬sh i) (pE [.str T,.int pre.length,.int 1]) G λd G'=>sh i/\G'=G/\d= .tup [.int i,.int ((pre.length:Int)+(nmL i).length)]:=by
 obtain⟨c,r,e,hc⟩:=cH i;have h':tl T=pre++(c::(r++post)):=by rw[h,e,zo];rfl
 refine O2 (show We _ _ (nC [some (.str T),some (.int pre.length),some (.int 1)]) G _ from BR (show _= (_:M Fl) G from rfl) ?_);refine t6<|.inl<| O7<| b8 (a:=false) rfl ⟨λz=>(nomatch z),λ_=>j6.mpr ?_⟩;refine zN (noF h' rfl rfl (by lia))<| zN (noF h' rfl rfl (by lia))<| zN (noF h' rfl rfl (by lia))<| zN (noF h' rfl rfl (by lia))<| zN (noF h' rfl rfl (by lia)) ?_;exact ED<| M3<| b8 rfl ⟨rfl,OO rfl hz hi h ho⟩
def stW(post:List Nat):Prop:=∀c r,post=c::r->c=32\/c=44\/c=93\/c=41\/c=125
theorem stW.off(h:stW post):AB 48 57 post:=λc r e=>by have:=h c r e;lia
theorem QL{at':Int}{pre:List Nat}{a:Option Int}(hz:T.length<=zi)(ha:at'=pre.length)(hi:Nb i)(ha2:a=none\/a=some i)(h:tl T=pre++[46,46]++nmL i++post)(hp:stW post):
 We "NoValue" (λ_=>¬sh i) (T7 [.str T,.int at',P5 a]) G λd G'=>sh i/\G'=G/\d= .tup [sN [(a,some i)],.int ((pre.length:Int)+2+(nmL i).length)]:=by
 subst ha;have e2:((pre++[46,46]).length:Int)= (pre.length:Int)+2:=by rw[zd];rfl
 refine O2 (show We _ _ (GG [some (.str T),some (.int pre.length),some (P5 a),none,none]) G _ from ?_);refine t6<|.inl<| b8 (a:=.nx [some (.str T),some (.int pre.length),some (P5 a),some (.int ((pre.length:Int)+2)),none]) (G':=G) rfl ?_;have rest:We "NoValue" (λ_=>¬sh i) (m5 (J4 (E2 (fnZ 2 V4) g0 F0) i5) (m5 (ifS (w4 (tBn n9 o0 A0) (tBn gtD o0 (ixE L0 B0))) (J2) v4) (u9 (y0 (K0 V8 o0 (ixE L0 B0)) (ixE L0 x0)))) [some (.str T),some (.int pre.length),some (P5 a),some (.int ((pre.length:Int)+2)),none]) G (PB λd G'=>sh i/\G'=G/\d= .tup [sN [(a,some i)],.int ((pre.length:Int)+2+(nmL i).length)]):=by
  refine t6<| M9<| M3<| b8 rfl ⟨rfl,(OO e2.symm hz hi h hp.off).mono ?_⟩;rintro _ G1 ⟨s,eG,rfl⟩;subst eG;rw[e2];refine .inl ?_;have ok:okR (a,some i):=λb c eb ec=>by
   cases ec
   rcases ha2 with rfl|rfl
   ·cases eb
   ·cases eb;exact Zg _
  have fin:Wp ((u9 (y0 (K0 V8 o0 (ixE L0 B0)) (ixE L0 x0))) [some (.str T),some (.int pre.length),some (P5 a),some (.int ((pre.length:Int)+2)),some (.tup [.int i,.int ((pre.length:Int)+2+(nmL i).length)])]) G1 (PB λd G'=>sh i/\G'=G1/\d= .tup [sN [(a,some i)],.int ((pre.length:Int)+2+(nmL i).length)]):=
   o7<| R3.mpr<| j5<| j7 rfl rfl<| nJ (r:=(a,some i)) ok<| b8 rfl ⟨sz,j8 ⟨s,rfl,rfl⟩⟩
  rcases ha2 with rfl|rfl
  ·exact M8 rfl fin
  ·refine d9.mpr<| O7<| E7<| b8 (a:=true) rfl ⟨λ_=>J6<| bin_w<| b8 rfl<| b8 (a:=.int i) rfl<| UA.mpr ⟨_,rfl,λz=>absurd (of_decide_eq_true z) (by lia),λ_=>j6.mpr fin⟩,λz=>(nomatch z)⟩
 rcases ha2 with rfl|rfl
 ·exact t6<|.inl<| O7<| E7<| b8 (a:=false) rfl ⟨λz=>(nomatch z),λ_=>⟨λz=>(nomatch z),λ_=>j6.mpr rest⟩⟩
 ·exact t6<|.inl<| O7<| E7<| b8 (a:=true) rfl ⟨λ_=>X8.mpr<| X4<| j7 rfl rfl<| iz hz e2.symm h hp.off ⟨rfl,λz=>(nomatch z),λ_=>j6.mpr rest⟩,λz=>(nomatch z)⟩
theorem gf{at':Int}{pre:List Nat}{a:Int}(hz:T.length<=zi)(ha:at'=pre.length)(h:tl T=pre++[46,46]++post)(hp:stW post)(q:Q (.tup [sN [(some a,none)],.int ((pre.length:Int)+2)]) G):
 Wp (T7 [.str T,.int at',.int a]) G Q:=by
 subst ha;have e2:((pre++[46,46]).length:Int)= (pre.length:Int)+2:=by rw[zd];rfl
 refine u0 (show Wp (GG [some (.str T),some (.int pre.length),some (.int a),none,none]) G _ from ?_);refine M8 (X1:= [some (.str T),some (.int pre.length),some (.int a),some (.int ((pre.length:Int)+2)),none]) rfl<| d9.mpr<| O7<| E7<| b8 rfl ⟨λ_=>X8.mpr<| W7<| j7 rfl rfl<| vc hz e2.symm h hp ⟨rfl,λ_=>?_,λz=>(nomatch z)⟩,λz=>(nomatch z)⟩;exact o7<| R3.mpr<| j5<| j7 rfl rfl<| nJ (r:=(some a,none)) (λ_ _ _ e=>nomatch e)<| b8 rfl ⟨sz,j8 q⟩
end
def RdZ(x:Str)(ok:Prop)(F:List D->M D)(T:Str)(dp:Int)(t:List Nat)(d:D):Prop:=
 ∀(pre post:List Nat) (G:DH),tl T=pre++t++post->stW post->We x (λ_=>¬ok) (F [.str T,.int pre.length,.int dp]) G λy G'=>ok/\Ap G G'/\y= .tup [d,.int ((pre.length:Int)+t.length)]
theorem BG(R:List D->M D):MB R=m5 (ifS (truthE (mtE isStrM startsD g0 (I0 (cSt "[") l0))) (u9 (D0 (fnZ 3 (N6 R)) (y3 g0 l0 o0))) v4) (gdQ (truthE (mtE isStrM startsD g0 (I0 (cSt "{") l0))) (D0 (fnZ 3 (K3 R)) (y3 g0 l0 o0)) (m5 (ifS (truthE (mtE isStrM startsD g0 (I0 (cSt "text but") l0))) (J2) v4) (m5 WL WZ))):=rfl
inductive Wy
|one
|up
|dn
|two
def nwL(w:Wy)(i:Int):List Nat:=match w with
| .one=>nmL i
| .up=>nmL i++[46,46]
| .dn=> [46,46]++nmL i
| .two=>nmL i++[46,46]++nmL i
def nwR(w:Wy)(i:Int):Rg:=match w with
| .one=>(some i,some i)
| .up=>(some i,none)
| .dn=>(none,some i)
| .two=>(some i,some i)
theorem cM{T:Str}{dp:Int}{R:List D->M D}{w:Wy}{i:Int}(hz:T.length<=zi)(hi:Nb i):RdZ "NoValue" (sh i) (u6 R) T dp (nwL w i) (sN [nwR w i]):=by
 intro pre post G h hp;refine O2 (show We _ _ (MB R (wS dp T pre.length none)) G _ from ?_);rw[BG];have hs:tl T=pre++(nwL w i++post):=by rw[h,zo]
 by_cases hw:w= .dn
 ·subst hw;have h':tl T=pre++(46::(46::nmL i++post)):=hs;refine zN (noF h' rfl rfl (by decide))<| zN (noF h' rfl rfl (by decide))<| zN (noF h' rfl rfl (by decide)) ?_;obtain⟨u,eu⟩:=SJ (dp:=dp) (G:=G) (noF h' rfl rfl (by decide)) (noF h' rfl rfl (by decide)) (noF h' rfl rfl (by decide));refine t6<|.inl<| b8 eu<| zY (G9 h' rfl)<| M3<| b8 (a:= [.str T,.int pre.length,.non]) rfl ⟨rfl,(QL (a:=none) hz rfl hi (.inl rfl) (by rw[h];simp[nwL]) hp).mono ?_⟩;rintro _ _ ⟨s,rfl,rfl⟩;refine⟨s,Ap.refl,?_⟩;show D.tup [_,.int ((pre.length:Int)+2+(nmL i).length)]= .tup [_,.int ((pre.length:Int)+([46,46]++nmL i).length)];rw[zd];show D.tup [_,.int ((pre.length:Int)+2+(nmL i).length)]= .tup [_,.int ((pre.length:Int)+((2+(nmL i).length:Nat):Int))];rw[show ((pre.length:Int)+((2+(nmL i).length:Nat):Int))= (pre.length:Int)+2+(nmL i).length by lia];rfl
 obtain⟨c,r,e,hc⟩:=cH i;obtain⟨t,et,ht⟩:∃t,nwL w i=nmL i++t/\(w= .one/\t= []\/w= .up/\t= [46,46]\/w= .two/\t= [46,46]++nmL i):=by
  cases w with
  |one=>exact⟨[],(ji _).symm,.inl ⟨rfl,rfl⟩⟩
  |up=>exact⟨_,rfl,.inr (.inl ⟨rfl,rfl⟩)⟩
  |dn=>exact absurd rfl hw
  |two=>exact⟨[46,46]++nmL i,by rw[<-zo];rfl,.inr (.inr ⟨rfl,rfl⟩)⟩
 have h':tl T=pre++(c::(r++t++post)):=by rw[hs,et,e];simp
 refine zN (noF h' rfl rfl (by lia))<| zN (noF h' rfl rfl (by lia))<| zN (noF h' rfl rfl (by lia)) ?_;obtain⟨u,eu⟩:=SJ (dp:=dp) (G:=G) (noF h' rfl rfl (by lia)) (noF h' rfl rfl (by lia)) (noF h' rfl rfl (by lia));have h2:tl T=pre++nmL i++(t++post):=by rw[hs,et];simp
 have ho:AB 48 57 (t++post):=by
  rcases ht with⟨_,rfl⟩|⟨_,rfl⟩|⟨_,rfl⟩
  ·exact hp.off
  ·intro x y z;rw[<-(jw z).1];decide
  ·intro x y z;rw[<-(jw z).1];decide
 refine t6<|.inl<| b8 eu<| zN (noF h' rfl rfl (by lia))<| t6<| M9<| M3<| b8 (a:= [.str T,.int pre.length,.int 1]) rfl ⟨rfl,(LZ hz hi h2 ho).mono ?_⟩;rintro _ G1 ⟨s,eG,rfl⟩;subst eG;have el:((pre++nmL i).length:Int)= (pre.length:Int)+(nmL i).length:=by rw[zd];lia
 have ask:∀ {X Y:Fs} {P:Fl->DH->Prop} {bb:Bool},S6 T (".." :Str) ((pre.length:Int)+(nmL i).length)=bb->We "NoValue" (λ_=>¬sh i) ((if bb=true then X else Y) [some (.str T),some (.int pre.length),some (.int dp),u,some (.tup [.int i,.int ((pre.length:Int)+(nmL i).length)])]) G1 P->We "NoValue" (λ_=>¬sh i) (ifS (w4 (truthE (K2 tE (ixE L0 B0))) (truthE (mtE isStrM startsD g0 (I0 (cSt "..") (ixE L0 x0))))) X Y [some (.str T),some (.int pre.length),some (.int dp),u,some (.tup [.int i,.int ((pre.length:Int)+(nmL i).length)])]) G1 P:=λ{X Y P bb} eb w=>by
  refine RD<| E7<| b8 (a:=true) rfl ⟨λ_=>W3.mpr<| v8 (T:=T) (i:=(pre.length:Int)+(nmL i).length) rfl rfl rfl<| M6.mpr ?_,λz=>(nomatch z)⟩;rw[eb]
  cases bb
  ·exact⟨λz=>(nomatch z),λ_=>w⟩
  ·exact⟨λ_=>w,λz=>(nomatch z)⟩
 rcases ht with⟨rfl,rfl⟩|⟨rfl,rfl⟩|⟨rfl,rfl⟩
 ·have hb:S6 T (".." :Str) ((pre.length:Int)+(nmL i).length)=false:=by
   rw[<-el];exact oE h2 rfl λx y z=>by have:=hp x y z;lia
  refine t6<| ask hb<|.inl<| j6.mpr<|.inl<| o7<| R3.mpr<| j5<| j7 rfl rfl<| iq<| b8 rfl ⟨sz,j8 ⟨s,Ap.refl,rfl⟩⟩
 ·have hb:S6 T (".." :Str) ((pre.length:Int)+(nmL i).length)=true:=by
   rw[<-el];exact G9 h2 rfl
  refine t6<| ask hb<| ED<| M3<| b8 (a:= [.str T,.int ((pre.length:Int)+(nmL i).length),.int i]) rfl ⟨rfl,.inl<| gf (a:=i) hz el.symm (by rw[h2];simp) hp ?_⟩
  ·rw[el];refine j8 ⟨s,Ap.refl,?_⟩;show D.tup [_,.int ((pre.length:Int)+(nmL i).length+2)]= .tup [_,.int ((pre.length:Int)+(nmL i++[46,46]).length)];rw[zd];show _=D.tup [_,.int ((pre.length:Int)+(((nmL i).length+2:Nat):Int))];rw[show ((pre.length:Int)+(((nmL i).length+2:Nat):Int))= (pre.length:Int)+(nmL i).length+2 by lia];rfl
 ·have hb:S6 T (".." :Str) ((pre.length:Int)+(nmL i).length)=true:=by
   rw[<-el];exact G9 h2 rfl
  refine t6<| ask hb<| ED<| M3<| b8 (a:= [.str T,.int ((pre.length:Int)+(nmL i).length),.int i]) rfl ⟨rfl,(QL (a:=some i) hz el.symm hi (.inr rfl) (by rw[h2];simp) hp).mono ?_⟩;rintro _ _ ⟨s,rfl,rfl⟩;refine j8 ⟨s,Ap.refl,?_⟩;rw[show (((pre++nmL i).length:Int)+2+(nmL i).length)= (pre.length:Int)+(nmL i++[46,46]++nmL i).length by simp only[zd,zD,jK];lia];rfl
structure PX where
 s:PS
 l:D
 k:D
def sX(x:PX):D:=Nz x.s x.l x.k
def NN(d:D):Prop:=∀G,eqN 40 G d noD=some false/\eqN 60 G d noD=some false
abbrev ShD(d:D):Prop:=d= .str ("any" :Str)\/∃l,d= .tup l
def LsO(L:D):Prop:=L= .non\/∃fs m,L= .tup [.tup fs,m]/\ShD m/\fs.length<=9/\∀f∈fs,NN f
inductive RsO:D->Prop
|no:RsO .non
|mo {m:D}:ShD m->RsO (.tup [.tup [],m])
|fd {z:Str} {b:Bool} {d:D}:NN d->RsO (.tup [.tup [.tup [.str z,.bl b,d]],noD])
structure OkX(x:PX):Prop where
 n:x.s.ns= []\/∃r,x.s.ns= [r]/\okR r/\r≠(none,none)
 b:x.s.b=true
 t:x.s.ts= []\/x.s.ts= [("a" :Str)]
 l:LsO x.l
 k:RsO x.k
def NeX(x:PX):Prop:=x.s.ns≠ []\/x.l≠ .non\/x.k≠ .non
theorem LsO.sh(h:LsO L):L= .non\/∃l,L= .tup l:=h.imp id fun⟨_,_,e,_⟩=>⟨_,e⟩
theorem RsO.sh(h:RsO L):L= .non\/∃l,L= .tup l:=by
 cases h with
 |no=>exact .inl rfl
 |mo h=>exact .inr ⟨_,rfl⟩
 |fd h=>exact .inr ⟨_,rfl⟩
theorem OkX.nn(h:OkX x)(ne:NeX x):NN (sX x):=by
 obtain⟨⟨ns,b,ts,f,t⟩,L,K'⟩:=x;obtain⟨hn,hb,ht,hl,hk⟩:=h;have hb:b=true:=hb;subst hb;have hn:ns= []\/∃r,ns= [r]:=hn.imp id fun⟨r,e,_⟩=>⟨r,e⟩;intro G;rcases hn with rfl|⟨r,rfl⟩<;>rcases ht with e|e<;>(have e:ts=_:=e;subst e)<;>rcases hl.sh with e|⟨l,e⟩<;>(have e:L=_:=e;subst e)<;>rcases hk.sh with e|⟨k,e⟩<;>(have e:K'=_:=e;subst e)<;>cases f<;>cases t<;>first
  |exact⟨rfl,rfl⟩
  |exact absurd ne λz=>z.elim (λz=>z rfl) λz=>z.elim (λz=>z rfl) λz=>z rfl
abbrev eA:D:=.tup [.tup [],.str ("any" :Str)]
section
variable{G:DH}{Q:DPP}
theorem AH(hm:ShD m){fs:List D}:∃k,eqN 39 G (.tup [.tup fs,m]) eA=some k:=by
 have e1:eqN 38 G (.tup fs) (.tup [])=some (decide (fs= [])):=by cases fs<;>rfl
 have e2:∃k,eqN 38 G m (.str ("any" :Str))=some k:=by
  rcases hm with rfl|⟨l,rfl⟩
  ·exact⟨true,rfl⟩
  ·exact⟨false,rfl⟩
 obtain⟨k,e2⟩:=e2;refine⟨decide (fs= [])&&(k&&true),?_⟩;show eqL (eqN 38 G) [.tup fs,m] [.tup [],.str ("any" :Str)]=_;rw[A4,A4,e1,e2];rfl
theorem LsO.eA(h:LsO L):∃k,eqN 39 G L eA=some k:=by
 rcases h with rfl|⟨fs,m,rfl,hm,_⟩
 ·exact⟨false,rfl⟩
 ·exact AH hm
theorem RsO.eA(h:RsO L):∃k,eqN 39 G L eA=some k:=by
 cases h with
 |no=>exact⟨false,rfl⟩
 |mo h=>exact AH h
 |fd h=>exact AH (.inr ⟨_,rfl⟩)
theorem OkX.all(h:OkX x):eqN 40 G (sX x) tS=some false:=by
 obtain⟨⟨ns,b,ts,f,t⟩,L,K'⟩:=x;obtain⟨k4,e4⟩:=h.l.eA (G:=G);obtain⟨k5,e5⟩:=h.k.eA (G:=G);obtain⟨k2,e2⟩:∃k,eqN 39 G (U3 b ts) (U3 false [])=some k:=RR;have e3:eqN 39 G (trD f t) (.tup [.bl false,.bl true])=some (f&&t):=by cases f<;>cases t<;>rfl
 have hn:ns≠ [(none,none)]:=λz=>by
  rcases h.n with e|⟨r,e,_,k⟩
  ·have e:ns= []:=e;rw[z]at e;cases e
  ·have e:ns= [r]:=e;rw[z]at e;exact k (jw e).1.symm
 show eqL (eqN 39 G) [.tup (rsD ns),U3 b ts,trD f t,L,K'] [.tup [.tup [.non,.non]],U3 false [],.tup [.bl false,.bl true],W.eA,W.eA]=_;rw[A4,A4,A4,A4,A4,OS,e2,e3,e4,e5,decide_eq_false hn];rfl
theorem gP:∀(fs:List D),(∀f∈fs,NN f)->A6 G noD fs=some false
|[],_=>rfl
|f::r,h=>by rw[kM,(h f (jo ..) G).1,gP r λg hg=>h g (zP _ hg)];rfl
theorem Pm(h:LsO L)(q:Q L G):Wp (U7 [L]) G Q:=by
 rcases h with rfl|⟨l,m,rfl,_,_,hf⟩
 ·exact GD rfl q
 have ei:inX noD (.tup l) G=some (.ok (.bl false),G):=by unfold inX pA;simp only[gP l hf]
 refine u0 (show Wp (CI [some (.tup [.tup l,m])]) G _ from ?_);refine o7<| E9.mpr<| FA<| b8 rfl ⟨λz=>(nomatch z),λ_=>?_⟩;refine J6<| pH rfl rfl<| b8 ei ⟨_,rfl,?_⟩;exact b8 rfl (j8 q)
abbrev riE:Fe:=(W6 l0 (binE eqD o0 (cE (.tup [.tup [],.tup [.str ("of" :Str),.tup []],.tup [],.non,.non]))))
abbrev rfT:DSt->M Bool:=(orT (truthE (ixE g0 x0)) (tBn neW (ixE g0 C1) (ixE l0 x0)))
abbrev ww:Fg:=(E4 3 (Q4 S4 (Q4 U1 (Q4 S0 (F4)))))
theorem dY{r:Nat}{l:List D}(h:G[r]? =some (.lst l))(hl:l= []\/l= [.bl false]):RE [.ref r] G=some (.ok (.bl false),G):=by
 have h0:RE [.ref r]= (do
  let l <-M7 r >>= DL.listOf
  let bs <-Q1 (c8 l)
  pure (.bl (bs.any id))):=rfl
 refine C3 ?_;rw[h0];have hb:∃bs,c8 l=some bs/\bs.any id=false:=by
  rcases hl with rfl|rfl
  ·exact⟨[],rfl,rfl⟩
  ·exact⟨[false],rfl,rfl⟩
 obtain⟨bs,e1,e2⟩:=hb;simp only[f9,O3,h,Q0,DL.listOf,d8,g9,e1,e2];exact⟨trivial,trivial⟩
theorem Wj(h:RsO K')(q:∀G',Ap G G'->Q K' G'):Wp (O5 [K']) G Q:=by
 have go:∀(fs ys:List D) (m:D),N5 ww y6 riE (λ_=>true) fs [none,none,none] G=some (.ok ys,G)->(ys= []\/ys= [.bl false])->N5 S4 rfT g0 (λ_=>true) fs [none,some (.tup [.tup fs,m])] (G++[.lst ys])=some (.ok fs,G++[.lst ys])->fs.length<=10000->(∀G',Ap G G'->Q (.tup [.tup fs,m]) G')->Wp (O5 [.tup [.tup fs,m]]) G Q:=λfs ys m r1 hy r2 lz q=>by refine u0 (show Wp (Z3 [some (.tup [.tup fs,m])]) G _ from ?_);refine d9.mpr<| O7<| FA<| b8 rfl ⟨λz=>(nomatch z),λ_=>?_⟩;refine W3.mpr<| R6<| j5<| IK rfl lz<| b8 r1<| v7.mpr<| b8 (dY o4 hy)<| M6.mpr ⟨λz=>(nomatch z),λ_=>j6.mpr ?_⟩;refine o7<| R3.mpr<| j5<| R6<| j5<| IK rfl lz<| b8 r2<| v7.mpr<| (Z5 o4).mpr<| b8 rfl ⟨sz,j8<| q _ (Ap.one.trans Ap.one)⟩
 cases h with
 |no=>exact GD rfl (q G Ap.refl)
 |@mo m hm=>exact go [] [] m (C3 (gA.mpr ⟨rfl,rfl,rfl⟩)) (.inl rfl) (C3 (gA.mpr ⟨rfl,rfl,rfl⟩)) (jl _) q
 |@fd z b d hd=>
   refine go [.tup [.str z,.bl b,d]] [.bl false] noD ?_ (.inr rfl) ?_ (show 1<=10000 by decide) q
   ·have e0:riE [some (.str z),some (.bl b),some d] G=some (.ok (.bl false),G):=by
     refine C3<| nH.mpr<| b8 rfl<| M6.mpr ?_
     cases b
     ·exact⟨rfl,rfl⟩
     ·exact pH rfl rfl<| sA.mpr ⟨false,(hd G).1,rfl,rfl⟩
    refine C3<| mF.mpr ⟨rfl,b8 rfl<| b8 rfl ?_⟩;rw[if_pos rfl];exact b8 e0<| gA.mpr ⟨rfl,rfl,rfl⟩
   ·have t:∀G,rfT [some (.tup [.str z,.bl b,d]),some (.tup [.tup [.tup [.str z,.bl b,d]],noD])] G=some (.ok true,G):=λG=>by
     refine C3<| FA<| W3.mpr<| b8 rfl<| M6.mpr ⟨λ_=>⟨rfl,rfl⟩,λk=>?_⟩;exact J6<| bin_w<| b8 rfl<| b8 rfl<| QU.mpr ⟨false,(hd G).2,_,rfl,rfl,rfl⟩
    refine C3<| mF.mpr ⟨rfl,b8 rfl<| b8 (t _) ?_⟩;rw[if_pos rfl];exact b8 rfl<| gA.mpr ⟨rfl,rfl,rfl⟩
theorem qK(h:OkX x)(q:∀G',Ap G G'->Q (sX x) G'):Wp (C6 [.tup (rsD x.s.ns),U3 x.s.b x.s.ts,trD x.s.f x.s.t,x.l,x.k]) G Q:=by refine u0 (show Wp (dJ [some (.tup (rsD x.s.ns)),some (U3 x.s.b x.s.ts),some (trD x.s.f x.s.t),some x.l,some x.k,none]) G _ from ?_);refine d9.mpr<| K5<| R3.mpr<| j5<| b8 rfl<| j5<| b8 rfl<| j5<| b8 rfl<| j5<| j7 rfl rfl<| Pm h.l<| j5<| j7 rfl rfl<| Wj h.k λG1 a1=>v7.mpr ⟨sz,?_⟩;refine o7<| E9.mpr<| J6<| bin_w<| b8 rfl<| b8 rfl<| sA.mpr ⟨false,h.all,_,rfl,?_⟩;rw[if_neg zw];exact b8 rfl<| j8 (q G1 a1)
end
def JAA:DSt->M (List D):=(I0 (tB l0 (J3 B0) (J7) (J3 C1)) (tB l0 (J3 x0) (J7) (J3 C1)))
def JAB:Fs:=(asQ (U4 (l5 JAA) [none,none] g01 (y6) JAE) S0 (J4 (binE addD o0 (J5 l0 (J3 (binE A5 C1 (M0 lenF o0))) (J7))) U1))
theorem mM:vE=m5 (J4 (M0 NA g0) U1) (m5 (V3 JAT JAB) (u9 (ixE l0 B0))):=rfl
section
variable{G:DH}{x:Option D}{q:Nat}
theorem bK(e:G[q]? =some (.lst l)):JAT [x,sRf q,u] G=some (.ok (decide ((l.length:Int)>1)),G):=C3<| J6<| bin_w<| D3 rfl<| (sK e).mpr<| b8 rfl<| au.mpr ⟨_,rfl,rfl,rfl⟩
theorem Dj(e:G[q]? =some (.lst l)):JAA [x,sRf q,u] G=some (.ok [.ref G.length,.ref (G++[DO.lst (evL l)]).length],G++[.lst (evL l)]++[.lst (odL l)]):=by
 have:=(show Wp (JAA [x,sRf q,u]) G λds G'=>ds= [.ref G.length,.ref (G++[DO.lst (evL l)]).length]/\G'=G++[.lst (evL l)]++[.lst (odL l)] from
  j5<| ON.mpr<| b8 rfl<| b8 rfl<| b8 rfl<| b8 rfl<| (tO e (by decide)).mpr<| by
   rw[rT];exact j5<| ON.mpr<| b8 rfl<| b8 rfl<| b8 rfl<| b8 rfl<| (tO (U0 e) (by decide)).mpr<| by
    rw[AZ];exact v7.mpr ⟨rfl,rfl⟩)
 obtain⟨a,G',e1,rfl,rfl⟩:=this;exact e1
end
section
variable{G:DH}{Q:DPP}
def pk(a b:D):D:=match a with
| .non=>b
|_=>a
def jn(a b:PX):PX:=⟨⟨a.s.ns++b.s.ns,true,a.s.ts++b.s.ts,a.s.f||b.s.f,a.s.t||b.s.t⟩,pk a.l b.l,pk a.k b.k⟩
structure Jn(a b:PX):Prop where
 ba:a.s.b=true
 bb:b.s.b=true
 l:a.l= .non\/b.l= .non
 k:a.k= .non\/b.k= .non
 ok:OkX (jn a b)
theorem bi(h:a= .non\/b= .non)(q:Q (pk a b) G):Wp (iH [a,b]) G Q:=by
 refine u0 (show Wp (SH [some a,some b,none,none,none]) G _ from ?_);by_cases ha:a= .non
 ·subst ha;exact d9.mpr<| IB rfl<| o7<| b8 rfl<| j8 q
 ·obtain rfl:=h.resolve_left ha;have e:P2 a .non G=some (.ok (.bl false),G):=by cases a<;>first|rfl|exact absurd rfl ha
  have ep:pk a .non=a:=by cases a<;>rfl
  rw[ep]at q;refine d9.mpr<| O7<| FA<| J6<| bin_w<| b8 rfl<| b8 rfl<| b8 e ⟨_,rfl,λz=>(nomatch z),λ_=>b8 rfl ⟨λ_=>?_,λz=>nomatch z⟩⟩;refine o7<| E9.mpr<| J6<| bin_w<| b8 rfl<| b8 rfl<| b8 e ⟨_,rfl,?_⟩;rw[if_neg zw];exact b8 rfl<| j8 q
theorem qj(h:a= .non\/b= .non)(q:Q (pk a b) G):Wp (X7 [a,b]) G Q:=by
 refine u0 (show Wp (gI [some a,some b,none]) G _ from ?_);by_cases ha:a= .non
 ·subst ha;exact d9.mpr<| IB rfl<| o7<| b8 rfl<| j8 q
 ·obtain rfl:=h.resolve_left ha;have e:P2 a .non G=some (.ok (.bl false),G):=by cases a<;>first|rfl|exact absurd rfl ha
  have ep:pk a .non=a:=by cases a<;>rfl
  rw[ep]at q;refine d9.mpr<| O7<| FA<| J6<| bin_w<| b8 rfl<| b8 rfl<| b8 e ⟨_,rfl,λz=>(nomatch z),λ_=>b8 rfl ⟨λ_=>?_,λz=>nomatch z⟩⟩;refine o7<| E9.mpr<| J6<| bin_w<| b8 rfl<| b8 rfl<| b8 e ⟨_,rfl,?_⟩;rw[if_neg zw];exact b8 rfl<| j8 q
theorem mf{l:List Rg}{a:Nat}(hl:l= []\/∃r,l= [r])(e:G[a]? =some (.lst (rsD l)))(q:∀G',Ap G G'->Q (.tup (rsD l)) G'):Wp (gG [.ref a]) G Q:=by
 refine u0 (show Wp (AI [sRf a,none,none]) G _ from ?_);have sf:l.length<64:=by rcases hl with rfl|⟨r,rfl⟩<;>simp
 refine M8 (X1:= [sRf a,some (.ref G.length),none]) rfl<| d9.mpr<| dD.mpr<| wp_itW.mpr<| Wz rfl (U0 e) sf λl' pm _=>?_;have el:l'=l:=by
  rcases hl with rfl|⟨r,rfl⟩
  ·exact pm.eq_nil
  ·exact pm.eq_singleton
 subst el;refine(IM o4).mpr ?_;rcases hl with rfl|⟨r,rfl⟩
 ·refine aC.mpr ⟨E8 o4,?_⟩;exact o7<| D3 (as:= [.ref G.length]) rfl<| (Z5 (U0 o4)).mpr<| j8<| q _ (Ap.one.trans Ap.one)
 ·have e1:((G++[DO.lst []])++[DO.lst (rsD [r])])[G.length]? =some (.lst []):=U0 o4;have qo:(G++[DO.lst []]).length≠G.length:=by simp
  refine GA.mpr ⟨E8 o4,R8.mpr<| O7<| E7<| W3.mpr<| b8 rfl<| (Nx e1).mpr ⟨λz=>(nomatch z),λ_=>⟨λz=>(nomatch z),λ_=>?_⟩⟩⟩;refine sB.mpr<| c9.mpr<| b8 rfl<| (V0 e1).mpr<| b8 (a:= [rD r]) rfl<| (vC e1 (by decide)).mpr ?_;refine aC.mpr ⟨?_,?_⟩
  ·refine E8 ?_;rw[jb (Ne.symm qo)];exact o4
  refine o7<| D3 (as:= [.ref G.length]) rfl<| (Z5 (zX (lt_of_get e1))).mpr<| j8 ?_;refine q _ ⟨[DO.lst [rD r],DO.lst (rsD [r])],?_⟩;rw[zo,JS _ _ (zg _),JR];rfl
theorem Fp{s t:List Str}(h:s++t= []\/s++t= [("a" :Str)]):Wp (PF [U3 true s,U3 true t]) G λx G'=>x=U3 true (s++t)/\Ap G G':=by
 have bg:=big;have hl:s.length+t.length<=1:=by rw[<-zd];rcases h with h|h<;>rw[h]<;>decide
 have e1:(I0 (ixE g0 x0) (ixE l0 x0)) [some (U3 false s),some (U3 false t)] G=some (.ok [.tup (s.map D.str),.tup (t.map D.str)],G):=rfl;refine u0 (show Wp (cK [some (U3 true s),some (U3 true t)]) G _ from ?_);refine o7<| R6<| j5<| R6<| j5<| j7 rfl rfl<| b8 OI<| j5<| j7 rfl rfl<| b8 OI<| v7.mpr<| W8.mpr ⟨rfl,?_⟩;refine u0 (show Wp (OJ [some (U3 false s),some (U3 false t)]) G _ from ?_);refine d9.mpr<| O7<| b8 (a:=false) rfl ⟨λz=>(nomatch z),λ_=>j6.mpr ?_⟩;refine d9.mpr<| O7<| b8 (a:=false) rfl ⟨λz=>(nomatch z),λ_=>j6.mpr ?_⟩;refine d9.mpr<| O7<| b8 (a:=false) rfl ⟨λz=>(nomatch z),λ_=>j6.mpr ?_⟩;refine o7<| R3.mpr<| j5<| b8 rfl<| j5<| j7 e1 rfl ?_;refine u0 (show Wp (wI [some (.tup (s.map D.str)),some (.tup (t.map D.str))]) G _ from ?_);refine o7<| R6<| j5<| bin_w<| b8 rfl<| b8 rfl<| (aO (by rw[zE,zE];lia)).mpr<| v7.mpr<| W8.mpr ⟨rfl,?_⟩;rw[<-Zh];have tx:Tx ("a" :Str):=⟨by decide,by decide⟩;refine(Nq (s:=s++t) (by rw[zd];lia) λz hz=>?_).mono ?_
 ·rcases h with h|h<;>rw[h]at hz
  ·cases hz
  ·rw[zt.mp hz];exact tx
 rintro _ G1 ⟨m,rfl,_,mm,ml,a1⟩;have em:m=s++t:=by
  rcases h with h|h
  ·rw[h]at ml ⊢;exact xi (by simpa using ml)
  ·rw[h]at ml mm ⊢;rcases m with _|⟨x,_|⟨y,m⟩⟩
   ·exact absurd ((mm ("a" :Str)).mpr (zt.mpr rfl)) (by simp)
   ·rw[zt.mp ((mm x).mp (jo ..))]
   ·simp at ml
 subst em;refine j8<| v7.mpr ⟨sz,j8<| v7.mpr<| W8.mpr ⟨rfl,b8 (OI (b:=false))<| j8 ⟨rfl,a1⟩⟩⟩
theorem bt{a b:PX}{G:DH}:N5 S4 (orT (tBn inD g0 (ixE l0 C1)) (tBn inD g0 (ixE o0 C1))) g0 (λ_=>true) [.bl false,.bl true] [none,some (sX a),some (sX b)] G=some (.ok ((if a.s.f||b.s.f then [.bl false]else [])++if a.s.t||b.s.t then [.bl true]else []),G):=by
 obtain⟨⟨ns,b',ts,f,t⟩,la,ka⟩:=a;obtain⟨⟨ms,c,us,f',t'⟩,lb,kb⟩:=b
 cases f<;>cases t<;>cases f'<;>cases t'<;>rfl
theorem cf{a b:PX}(J:Jn a b)(q:∀G',Ap G G'->Q (sX (jn a b)) G'):Wp (IF [sX a,sX b]) G Q:=by
 have bg:=big;have hn:a.s.ns++b.s.ns= []\/∃r,a.s.ns++b.s.ns= [r]:=J.ok.n.imp id fun⟨r,e,_⟩=>⟨r,e⟩;have e0:rsD a.s.ns++rsD b.s.ns=rsD (a.s.ns++b.s.ns):=(Zh ..).symm;have hz:(rsD a.s.ns).length+(rsD b.s.ns).length<=zi:=by rw[<-zd,e0];rcases hn with e|⟨r,e⟩<;>rw[e]<;>show _<=zi<;>simp[rsD]<;>lia
 refine u0 (show Wp (MK [some (sX a),some (sX b)]) G _ from ?_);have t0:(orT (tBn eqD g0 (cSt "any")) (tBn eqD l0 (cSt "any"))) [some (sX a),some (sX b)] G=some (.ok false,G):=rfl;refine d9.mpr<| O7<| b8 t0 ⟨λz=>(nomatch z),λ_=>j6.mpr ?_⟩;have va:(ixE g0 B0) [some (sX a),some (sX b)] G=some (.ok (.tup (rsD a.s.ns)),G):=rfl;have vb:(ixE l0 B0) [some (sX a),some (sX b)] G=some (.ok (.tup (rsD b.s.ns)),G):=rfl;refine o7<| R6<| j5<| R6<| j5<| R6<| j5<| bin_w<| b8 va ?_;refine b8 vb ?_;refine(aO hz).mpr ?_;refine v7.mpr ?_;refine Cq.mpr ?_;refine v7.mpr ?_;refine W8.mpr ⟨rfl,?_⟩;rw[e0];refine mf hn o4 λG1 a1=>?_;have et:(I0 (ixE g0 x0) (ixE l0 x0)) [some (sX a),some (sX b)] G1=some (.ok [U3 true a.s.ts,U3 true b.s.ts],G1):=by
  have h1:U3 a.s.b a.s.ts=U3 true a.s.ts:=by rw[J.ba]
  have h2:U3 b.s.b b.s.ts=U3 true b.s.ts:=by rw[J.bb]
  rw[<-h1,<-h2];rfl
 refine j5<| j7 et rfl<| (Fp J.ok.t).mono ?_;rintro _ G2 ⟨rfl,a2⟩;refine j5<| R6<| j5<| IK rfl (by decide)<| b8 bt<| v7.mpr<| (Z5 o4).mpr ?_;refine j5<| j7 rfl rfl<| bi J.l<| j5<| j7 rfl rfl<| qj J.k<| v7.mpr<| W8.mpr ⟨rfl,?_⟩;exact qK (x:=jn a b) J.ok λG3 a3=>j8<| q G3 ((((Ap.one.trans a1).trans a2).trans Ap.one).trans a3)
theorem VS{a b:PX}{c:Nat}(J:Jn a b)(e:G[c]? =some (.lst [sX a,sX b]))(q:∀G',Ap G G'->Q (sX (jn a b)) G'):Wp (QC [.ref c]) G Q:=by have bg:=big;refine u0 (show Wp (vE [sRf c,none,none]) G _ from ?_);rw[mM];refine d9.mpr<| K5<| D3 rfl<| wM e ?_;have e0:(G++[DO.lst [sX a,sX b]])[G.length]? =some (.lst [sX a,sX b]):=o4;have a0:Ap G (G++[DO.lst [sX a,sX b]]):=Ap.one;generalize G.length=q0,G++[DO.lst [sX a,sX b]]=G0 at e0 a0 ⊢;have ea:(G0++[DO.lst (evL [sX a,sX b])]++[DO.lst (odL [sX a,sX b])])[G0.length]? =some (.lst [sX a]):=U0 o4;have eb:(G0++[DO.lst (evL [sX a,sX b])]++[DO.lst (odL [sX a,sX b])])[(G0++[DO.lst (evL [sX a,sX b])]).length]? =some (.lst [sX b]):=o4;refine d9.mpr<| wE (n:=2)<| Z7.mpr<| b8 (bK e0) ?_;rw[decide_eq_true (show (([sX a,sX b]:List D).length:Int)>1 by show (2:Int)>1;decide),if_pos rfl];refine d9.mpr<| K5<| wp_comp.mpr<| Wf (Dj e0) ea eb ⟨by show 1<=zi;lia,?_⟩;show Wp (N5 g01 y6 JAE _ [.tup [sX a,sX b]] [none,none]) _ _;refine mF.mpr ⟨by show (ckO _ _ _&&ckO _ _ _)=true;rw[E8 ea,E8 eb];rfl,b8 rfl<| b8 rfl ?_⟩;rw[if_pos rfl];refine j7 rfl rfl<| cf J λG1 a1=>gA.mpr ⟨by show (ckO _ _ _&&ckO _ _ _)=true;rw[E8 (a1.at ea),E8 (a1.at eb)];rfl,?_⟩;have e2:(G1++[DO.lst [sX (jn a b)]])[q0]? =some (.lst [sX a,sX b]):=U0 (a1.at (U0 (U0 e0)));refine K5<| bin_w<| b8 rfl<| TC.mpr<| b8 rfl<| aK.mpr<| bin_w<| b8 rfl<| D3 rfl<| (sK o4).mpr<| (gC (Or.inl ⟨by decide,by decide⟩)).mpr ⟨_,rfl,RH.mpr<| (fK e2).mpr ?_⟩;refine(sT (U0 o4) o4 (by show 1+0<=zi;lia)).mpr ?_;have e3:∀ {H:DH},(H++[DO.lst ([sX (jn a b)]++DL.cutD [sX a,sX b] (some (2*(([sX (jn a b)]:List D).length:Int))) none)])[H.length]? =some (.lst [sX (jn a b)]):=o4;refine Z7.mpr<| b8 (bK e3) ?_;rw[decide_eq_false (show ¬(([sX (jn a b)]:List D).length:Int)>1 by show ¬(1:Int)>1;decide),if_neg zw];exact o7<| pH rfl rfl<| (OA e3).mpr ⟨sX (jn a b),rfl,j8<| q _ (((((a0.trans (Ap.one.trans Ap.one)).trans a1).trans Ap.one).trans Ap.one).trans Ap.one)⟩
theorem Kw{d:D}{c:Nat}(e:G[c]? =some (.lst [d]))(q:∀G',Ap G G'->Q d G'):Wp (QC [.ref c]) G Q:=by refine u0 (show Wp (vE [sRf c,none,none]) G _ from ?_);rw[mM];refine d9.mpr<| K5<| D3 rfl<| wM e ?_;have e0:(G++[DO.lst [d]])[G.length]? =some (.lst [d]):=o4;have a0:Ap G (G++[DO.lst [d]]):=Ap.one;generalize G.length=q0,G++[DO.lst [d]]=G0 at e0 a0 ⊢;refine d9.mpr<| wE (n:=1)<| Z7.mpr<| b8 (bK e0) ?_;rw[decide_eq_false (show ¬(([d]:List D).length:Int)>1 by show ¬(1:Int)>1;decide),if_neg zw];exact o7<| pH rfl rfl<| (OA e0).mpr ⟨d,rfl,j8<| q _ a0⟩
end
abbrev cT:List Nat:= [116,114,117,101]
abbrev cF:List Nat:= [102,97,108,115,101]
abbrev wT:PX:=⟨EH true,.non,.non⟩
abbrev wA:PX:=⟨nM "a",.non,.non⟩
abbrev wF:PX:=⟨EH false,.non,.non⟩
abbrev pX(ns:List Rg)(l k:D):PX:=⟨⟨ns,true, [],false,false⟩,l,k⟩
abbrev qA:List Nat:= [34,97,34]
abbrev brL(t u:List Nat):List Nat:= [40]++t++cOr++u++[41]
abbrev lsX(fs:List D)(m:D):D:=sX (pX [] (.tup [.tup fs,m]) .non)
abbrev rsX(fs:List D)(m:D):D:=sX (pX [] .non (.tup [.tup fs,m]))
def Inn(N:List Nat->D->Prop)(u:List Nat)(e:D):Prop:=N u e\/∃t ns l k,N t (sX (pX ns l k))/\OkX (pX ns l k)/\NeX (pX ns l k)/\
 ((u=brL t cT/\e=sX (jn (pX ns l k) wT))\/(u=brL t qA/\e=sX (jn (pX ns l k) wA))\/(u=brL cF t/\e=sX (jn wF (pX ns l k))))
abbrev cDd:List Nat:= [46,46,32]
abbrev s7:D:=sN [(some 7,some 7)]
inductive Out(u:List Nat)(e:D):List Nat->D->Prop
|fr:Out u e ([91]++u++[93]) (lsX [e] noD)
|sv:Out u e ([91]++([55]++cCm++u)++[93]) (lsX [s7,e] noD)
|lm:Out u e ([91]++(cDd++u)++[93]) (lsX [] e)
|fd {c:Nat} (must:Bool):97<=c/\c<=98->Out u e ([123]++([c]++cMu must++u)++[125]) (rsX [.tup [.str ⟨#[c]⟩,.bl must,e]] noD)
|rm:Out u e ([123]++(cDd++u)++[125]) (rsX [] e)
def Nst(b:Prop):Nat->List Nat->D->Prop
|0,t,d=>(b/\(t=gB/\d= .str ("any" :Str)\/t= [91,93]/\d=lsX [] noD\/t= [123,125]/\d=rsX [] noD))\/∃w i,Nb i/\(b↔sh i)/\t=nwL w i/\d=sX (pX [nwR w i] .non .non)
|n+1,t,d=>∃u e,Inn (Nst b n) u e/\Out u e t d
structure HdT(t:List Nat):Prop where
 hd:∃c r,t=c::r/\c≠93/\c≠125/\c≠110/\(c=46->∃d s,r=46::d::s/\d≠32)
theorem v3{c:Nat}{r:List Nat}(h1:c≠93)(h2:c≠125)(h3:c≠110)(h4:c≠46):HdT (c::r):=⟨⟨c,r,rfl,h1,h2,h3,λz=>absurd z h4⟩⟩
theorem iA{fs:List D}{m:D}(hm:ShD m)(hl:fs.length<=9)(h:∀f∈fs,NN f):OkX (pX [] (.tup [.tup fs,m]) .non)/\NeX (pX [] (.tup [.tup fs,m]) .non):=
 ⟨⟨.inl rfl,rfl,.inl rfl,.inr ⟨fs,m,rfl,hm,hl,h⟩,.no⟩,.inr (.inl λz=>nomatch z)⟩
theorem iC{k:D}(h:RsO k)(hk:k≠ .non):OkX (pX [] .non k)/\NeX (pX [] .non k):=
 ⟨⟨.inl rfl,rfl,.inl rfl,.inl rfl,h⟩,.inr (.inr hk)⟩
theorem wj{w:Wy}{i:Int}:okR (nwR w i)/\nwR w i≠(none,none):=by
 refine⟨λa b ea eb=>?_,?_⟩
 ·cases w
  ·cases ea;cases eb;exact Zg _
  ·cases eb
  ·cases ea
  ·cases ea;cases eb;exact Zg _
 ·cases w<;>exact λz=>nomatch z
theorem rW(a:D):pk a .non=a:=by cases a<;>rfl
theorem mB{ns:List Rg}{l k:D}{f t:Bool}{ts:List Str}:jn (pX ns l k) ⟨⟨[],true,ts,f,t⟩,.non,.non⟩= ⟨⟨ns,true,ts,f,t⟩,l,k⟩:=by unfold jn;simp only[ji,Xy,Bool.false_or,rW]
theorem KG{ns:List Rg}{l k:D}{f t:Bool}{ts:List Str}:jn ⟨⟨[],true,ts,f,t⟩,.non,.non⟩ (pX ns l k)= ⟨⟨ns,true,ts,f,t⟩,l,k⟩:=by unfold jn;simp only[ji,Xy,Bool.or_false];rfl
theorem OkX.with{ns:List Rg}{l k:D}{f t:Bool}{ts:List Str}(h:OkX (pX ns l k))(ht:ts= []\/ts= [("a" :Str)]):OkX ⟨⟨ns,true,ts,f,t⟩,l,k⟩:=⟨h.n,rfl,ht,h.l,h.k⟩
theorem Jn.r{ns:List Rg}{l k:D}{f t:Bool}{ts:List Str}(h:OkX (pX ns l k))(ht:ts= []\/ts= [("a" :Str)]):Jn (pX ns l k) ⟨⟨[],true,ts,f,t⟩,.non,.non⟩:=⟨rfl,rfl,.inr rfl,.inr rfl,by rw[mB];exact h.with ht⟩
theorem Jn.l'{ns:List Rg}{l k:D}{f t:Bool}{ts:List Str}(h:OkX (pX ns l k))(ht:ts= []\/ts= [("a" :Str)]):Jn ⟨⟨[],true,ts,f,t⟩,.non,.non⟩ (pX ns l k):=⟨rfl,rfl,.inl rfl,.inl rfl,by rw[KG];exact h.with ht⟩
structure Se(d:D):Prop where
 sh:ShD d
 nn:NN d
theorem iU:Se (.str ("any" :Str)):=⟨.inl rfl,λ_=>⟨rfl,rfl⟩⟩
theorem cC(h:OkX x)(ne:NeX x):Se (sX x):=⟨.inr ⟨_,rfl⟩,h.nn ne⟩
def Wrd(t:List Nat)(d:D):Prop:=∃ns l k,d=sX (pX ns l k)/\OkX (pX ns l k)/\NeX (pX ns l k)/\∃c r,t=c::r/\c≠97/\c≠40
theorem rS:NN s7:=λ_=>⟨rfl,rfl⟩
theorem VR{N:List Nat->D->Prop}(hN:∀t d,N t d->HdT t/\Se d)(h:Inn N u e):HdT u/\Se e:=by
 rcases h with h|⟨t,ns,l,k,ht,ok,ne,⟨rfl,rfl⟩|⟨rfl,rfl⟩|⟨rfl,rfl⟩⟩
 ·exact hN _ _ h
 ·exact⟨v3 (by decide) (by decide) (by decide) (by decide),by rw[mB];exact cC (ok.with (.inl rfl)) ne⟩
 ·exact⟨v3 (by decide) (by decide) (by decide) (by decide),by rw[mB];exact cC (ok.with (.inr rfl)) ne⟩
 ·exact⟨v3 (by decide) (by decide) (by decide) (by decide),by rw[KG];exact cC (ok.with (.inl rfl)) ne⟩
theorem PY(s:Se e)(h:Out u e t d):HdT t/\Wrd t d:=by
 cases h with
 |fr=>
   obtain⟨a,b⟩:=iA (fs:= [e]) (m:=noD) (.inr ⟨_,rfl⟩) (show 1<=9 by decide) λf hf=>by rw[zt.mp hf];exact s.nn
   exact⟨v3 (by decide) (by decide) (by decide) (by decide),_,_,_,rfl,a,b,_,_,rfl,by decide,by decide⟩
 |sv=>
   obtain⟨a,b⟩:=iA (fs:= [s7,e]) (m:=noD) (.inr ⟨_,rfl⟩) (show 2<=9 by decide) λf hf=>by
    rcases zk.mp hf with rfl|hf
    ·exact rS
    ·rw[zt.mp hf];exact s.nn
   exact⟨v3 (by decide) (by decide) (by decide) (by decide),_,_,_,rfl,a,b,_,_,rfl,by decide,by decide⟩
 |lm=>
   obtain⟨a,b⟩:=iA (fs:= []) (m:=e) s.sh (by decide) λf hf=>nomatch hf;exact⟨v3 (by decide) (by decide) (by decide) (by decide),_,_,_,rfl,a,b,_,_,rfl,by decide,by decide⟩
 |fd must hc=>
   obtain⟨a,b⟩:=iC (.fd s.nn) λz=>nomatch z;exact⟨v3 (by decide) (by decide) (by decide) (by decide),_,_,_,rfl,a,b,_,_,rfl,by decide,by decide⟩
 |rm=>
   obtain⟨a,b⟩:=iC (.mo s.sh) λz=>nomatch z;exact⟨v3 (by decide) (by decide) (by decide) (by decide),_,_,_,rfl,a,b,_,_,rfl,by decide,by decide⟩
theorem SN(w:Wy)(i:Int):HdT (nwL w i)/\∃c r,nwL w i=c::r/\c≠97/\c≠40:=by
 obtain⟨c,r,e,hc⟩:=cH i
 cases w with
 |dn=>exact⟨⟨46,46::nmL i,rfl,by decide,by decide,by decide,λ_=>⟨c,r,by rw[e],by lia⟩⟩,46,_,rfl,by decide,by decide⟩
 |one=>
   show HdT (nmL i)/\∃c r,nmL i=c::r/\_;rw[e];exact⟨v3 (by lia) (by lia) (by lia) (by lia),_,_,rfl,by lia,by lia⟩
 |up=>
   show HdT (nmL i++_)/\∃c r,nmL i++_=c::r/\_;rw[e];exact⟨v3 (by lia) (by lia) (by lia) (by lia),_,_,rfl,by lia,by lia⟩
 |two=>
   show HdT (nmL i++_++_)/\∃c r,nmL i++_++_=c::r/\_;rw[e];exact⟨v3 (by lia) (by lia) (by lia) (by lia),_,_,rfl,by lia,by lia⟩
theorem LA{b:Prop}:∀ {n t d},Nst b n t d->HdT t/\Se d/\(n=0/\b/\t=gB/\d= .str ("any" :Str)\/Wrd t d)
|0,t,d,h=>by
  rcases h with⟨hb,⟨rfl,rfl⟩|⟨rfl,rfl⟩|⟨rfl,rfl⟩⟩|⟨w,i,hi,_,rfl,rfl⟩
  ·exact⟨v3 (by decide) (by decide) (by decide) (by decide),iU,.inl ⟨rfl,hb,rfl,rfl⟩⟩
  ·obtain⟨a,b⟩:=iA (fs:= []) (m:=noD) (.inr ⟨_,rfl⟩) (by decide) λf hf=>nomatch hf;exact⟨v3 (by decide) (by decide) (by decide) (by decide),cC a b,.inr ⟨_,_,_,rfl,a,b,_,_,rfl,by decide,by decide⟩⟩
  ·obtain⟨a,b⟩:=iC (.mo (m:=noD) (.inr ⟨_,rfl⟩)) λz=>nomatch z;exact⟨v3 (by decide) (by decide) (by decide) (by decide),cC a b,.inr ⟨_,_,_,rfl,a,b,_,_,rfl,by decide,by decide⟩⟩
  ·have a:OkX (pX [nwR w i] .non .non):=⟨.inr ⟨_,rfl,wj⟩,rfl,.inl rfl,.inl rfl,.no⟩;have b:NeX (pX [nwR w i] .non .non):=.inl λz=>nomatch z;exact⟨(SN w i).1,cC a b,.inr ⟨_,_,_,rfl,a,b,(SN w i).2⟩⟩
|n+1,t,d,⟨u,e,hi,ho⟩=>by obtain⟨_,s⟩:=VR (λt d h=>⟨(LA h).1,(LA h).2.1⟩) hi;obtain⟨h,w⟩:=PY s ho;have w':=w;obtain⟨ns,l,k,rfl,a,b,_⟩:=w';exact⟨h,cC a b,.inr w⟩
theorem Gr.ap{G G':DH}(h:Gr G G'):Ap G G':=by
 refine⟨G'.drop G.length,?_⟩;refine List.ext_getElem? λi=>?_;rcases Yg i G.length with c|c
 ·rw[zA c];exact h.2 i c
 ·rw[ye c,YL];congr 1;lia
theorem Dc{n:Nat}{F:List D->M D}{ds:List D}{G:DH}{Q:DPP}:Wp (fnZ n F ds) G Q↔ds.length=n/\Wp (F ds) G Q:=by
 unfold fnZ;split
 ·rename_i h;exact⟨λw=>⟨h,w⟩,λw=>w.2⟩
 ·rename_i h;exact⟨λw=>(EA.mp w).elim,λw=>absurd w.1 h⟩
theorem fm{n:Nat}{F:List D->M D}{fs:DSt->M (List D)}{as:List D}{σ:DSt}{G G1:DH}{Q:DPP}(e:fs σ G=some (.ok as,G1))(h:as.length=n)(w:Wp (F as) G1 Q):Wp (D0 (fnZ n F) fs σ) G Q:=D9.mpr (b8 e (Dc.mpr ⟨h,w⟩))
section
variable{T:Str}{G:DH}{Q:DPP}{x:Str}{dp:Int}{R:List D->M D}
theorem nk{p:Str}{pre rest:List Nat}(h:tl T=pre++rest)(k:Nat){a b:Nat}(hp:(tl p)[k]? =some a)(hr:rest[k]? =some b)(ne:a≠b):S6 T p (pre.length:Int)=false:=pfx h fun⟨t,e⟩=>by
 have hk:k<(tl p).length:=by
  rcases Yg k (tl p).length with z|z
  ·exact z
  ·rw[zO z]at hp;cases hp
 rw[<-e,zA hk,hp]at hr;exact ne (jH hr)
theorem lK{t r:List Nat}{v d:D}{pre post:List Nat}{c:Nat}(h:tl T=pre++t++post)(e:t=c::r)(hc:c≠91/\c≠123/\c≠110/\c≠46)(n3:S6 T ("text but" :Str) (pre.length:Int)=false)(n5:S6 T ("text" :Str) (pre.length:Int)=false)(n6:S6 T ("truth" :Str) (pre.length:Int)=false)
 (rd:Wp (pE [.str T,.int pre.length,.int 1]) G λy G'=>G'=G/\y= .tup [v,.int ((pre.length:Int)+t.length)]) (iw:tE [v] G=some (.ok (.bl false),G)) (st:Wp (fB [v]) G λy G'=>y=d/\Ap G G'):
 Wp (u6 R [.str T,.int pre.length,.int dp]) G λy G'=>Ap G G'/\y= .tup [d,.int ((pre.length:Int)+t.length)]:=by
 refine u0 (show Wp (MB R (wS dp T pre.length none)) G _ from ?_);rw[BG];have hs:tl T=pre++(c::(r++post)):=by rw[h,e,zo];rfl
 refine E3 (noF hs rfl rfl hc.1)<| E3 (noF hs rfl rfl hc.2.1)<| E3 n3 ?_;obtain⟨u,eu⟩:=SJ (dp:=dp) (G:=G) (noF hs rfl rfl hc.2.2.1) n5 n6;refine M8 eu<| E3 (noF hs rfl rfl hc.2.2.2)<| d9.mpr<| K5<| fm (as:= [.str T,.int pre.length,.int 1]) rfl rfl<| rd.mono ?_;rintro _ G1 ⟨eG,rfl⟩;subst eG;refine d9.mpr<| O7<| E7<| W3.mpr<| j7 (as:= [v]) rfl rfl<| b8 iw<| M6.mpr ⟨λz=>(nomatch z),λ_=>⟨λz=>(nomatch z),λ_=>j6.mpr ?_⟩⟩;refine o7<| R3.mpr<| j5<| j7 (as:= [v]) rfl rfl<| st.mono ?_;rintro _ G2 ⟨rfl,a⟩;exact b8 rfl ⟨sz,j8 ⟨a,rfl⟩⟩
theorem aT:RdZ x True (u6 R) T dp cT (sX wT):=λpre post G h hp=>.inl<| (lK (v:=.bl true) (d:=sX wT) h rfl (by decide) (nk (by rw[h,zo]) 1 rfl rfl (by decide)) (nk (by rw[h,zo]) 1 rfl rfl (by decide)) (nk (by rw[h,zo]) 3 rfl rfl (by decide)) (by
 have hs:tl T=pre++(116::114::117::101::post):=by rw[h,zo];rfl
 refine u0 (show Wp (nC [some (.str T),some (.int pre.length),some (.int 1)]) G _ from M8 rfl ?_);exact E3 (noF hs rfl rfl (by decide))<| E3 (noF hs rfl rfl (by decide))<| E3 (noF hs rfl rfl (by decide))<| mG (G9 hs rfl)<| b8 rfl<| j8 ⟨rfl,rfl⟩) rfl (cS ⟨rfl,Ap.refl⟩)).mono λy G' q=>⟨trivial,q⟩
theorem al:RdZ x True (u6 R) T dp cF (sX wF):=λpre post G h hp=>.inl<| (lK (v:=.bl false) (d:=sX wF) h rfl (by decide) (nk (by rw[h,zo]) 0 rfl rfl (by decide)) (nk (by rw[h,zo]) 0 rfl rfl (by decide)) (nk (by rw[h,zo]) 0 rfl rfl (by decide)) (by
 have hs:tl T=pre++(102::97::108::115::101::post):=by rw[h,zo];rfl
 refine u0 (show Wp (nC [some (.str T),some (.int pre.length),some (.int 1)]) G _ from M8 rfl ?_);exact E3 (noF hs rfl rfl (by decide))<| E3 (noF hs rfl rfl (by decide))<| E3 (noF hs rfl rfl (by decide))<| E3 (noF hs rfl rfl (by decide))<| mG (G9 hs rfl)<| b8 rfl<| j8 ⟨rfl,rfl⟩) rfl (cS ⟨rfl,Ap.refl⟩)).mono λy G' q=>⟨trivial,q⟩
theorem MW(hz:T.length<=zi):RdZ x True (u6 R) T dp qA (sX wA):=λpre post G h hp=>.inl<| (lK (v:=.str ("a" :Str)) (d:=sX wA) h rfl (by decide) (nk (by rw[h,zo]) 0 rfl rfl (by decide)) (nk (by rw[h,zo]) 0 rfl rfl (by decide)) (nk (by rw[h,zo]) 0 rfl rfl (by decide)) (by
 have hs:tl T=pre++(34::97::34::post):=by rw[h,zo];rfl
 refine u0 (show Wp (nC [some (.str T),some (.int pre.length),some (.int 1)]) G _ from M8 rfl ?_);refine E3 (noF hs rfl rfl (by decide))<| E3 (noF hs rfl rfl (by decide))<| mG (G9 hs rfl)<| j7 (as:= [.str T,.int pre.length]) rfl rfl<| Vb (z:=("a" :Str)) hz ⟨by decide,by decide⟩ h<| j8 ⟨rfl,rfl⟩) rfl (eU ⟨rfl,Ap.refl⟩)).mono λy G' q=>⟨trivial,q⟩
def QT:DSt->M Bool:=(truthE cBt)
theorem cO(R:List D->M D):mE R=m5 (J4 (E1 z0) F2) (V3 QT (QB R)):=rfl
abbrev qS(T:Str)(at' dp:Int)(c:Nat)(u:Option D):DSt:= [some (.str T),some (.int at'),some (.int dp),sRf c,u]
theorem iR{ok:Prop}{t:List Nat}{d:D}{n c:Nat}{G0:DH}{dn:List D}{u:Option D}{pre post:List Nat}(w:RdZ x ok (u6 R) T dp t d)(h:tl T=pre++t++post)(hp:stW post)(h32:∀r,post≠32::r)(e:G[c]? =some (.lst dn))(hl:dn.length<100)(a0:Ap G0 G)(hc:G0.length<=c):
 We x (λ_=>¬ok) (w5 (n+1) QT (QB R) (qS T pre.length dp c u)) G λfl G'=>ok/\Ap G0 G'/\G'[c]? =some (.lst (dn++[d]))/\fl= .rt (.tup [.ref c,.int ((pre.length:Int)+t.length)]):=by
 have bg:=big;refine GE<| b8 (a:=true) (G':=G) rfl ?_;rw[if_pos rfl];refine t6<| M9<| M3<| b8 (a:= [.str T,.int pre.length,.int dp]) (G':=G) rfl ⟨rfl,(w pre post G h hp).mono ?_⟩;rintro _ G1 ⟨o,a1,rfl⟩;have e1:=a1.at e;refine .inl<| d9.mpr<| sB.mpr<| c9.mpr<| b8 rfl<| (V0 e1).mpr<| b8 (a:= [d]) rfl<| (vC e1 (by lia)).mpr ?_;have e2:(G1.set c (.lst (dn++[d])))[c]? =some (.lst (dn++[d])):=zX (lt_of_get e1);have a2:=Gr.ap ((a0.trans a1).gr.set (o:=.lst (dn++[d])) hc);generalize G1.set c (.lst (dn++[d]))=G2 at e2 a2 ⊢;have el:((pre++t).length:Int)= (pre.length:Int)+t.length:=by rw[zd];lia
 have hb:S6 T (" or " :Str) ((pre.length:Int)+t.length)=false:=by rw[<-el];exact oE (c:=32) (ps:= [111,114,32]) h rfl λc r z=>by rintro rfl;exact h32 r z
 refine d9.mpr<| O7<| X8.mpr<| W7<| v8 (T:=T) (i:=(pre.length:Int)+t.length) rfl rfl rfl ?_;rw[hb];exact⟨rfl,λ_=>o7<| b8 rfl ⟨o,a2,e2,rfl⟩,λz=>nomatch z⟩
theorem Hb{ok o2:Prop}{t r:List Nat}{d:D}{n c:Nat}{G0:DH}{dn:List D}{u:Option D}{pre:List Nat}{P:Fl->DH->Prop}(w:RdZ x ok (u6 R) T dp t d)(h:tl T=pre++t++(cOr++r))(e:G[c]? =some (.lst dn))(hl:dn.length<100)(a0:Ap G0 G)(hc:G0.length<=c)(no:¬ok->¬o2)
 (k:ok->∀u' G',Ap G0 G'->G'[c]? =some (.lst (dn++[d]))->We x (λ_=>¬o2) (w5 n QT (QB R) (qS T (pre++t++cOr).length dp c u')) G' P):
 We x (λ_=>¬o2) (w5 (n+1) QT (QB R) (qS T pre.length dp c u)) G P:=by
 have bg:=big;refine GE<| b8 (a:=true) (G':=G) rfl ?_;rw[if_pos rfl];refine t6<| M9<| M3<| b8 (a:= [.str T,.int pre.length,.int dp]) (G':=G) rfl ⟨rfl,((w pre (cOr++r) G h λc r e=>by cases e;decide).emono λ_=>no).mono ?_⟩;rintro _ G1 ⟨o,a1,rfl⟩;have e1:=a1.at e;refine t6<|.inl<| sB.mpr<| c9.mpr<| b8 rfl<| (V0 e1).mpr<| b8 (a:= [d]) rfl<| (vC e1 (by lia)).mpr ?_;have e2:(G1.set c (.lst (dn++[d])))[c]? =some (.lst (dn++[d])):=zX (lt_of_get e1);have a2:=Gr.ap ((a0.trans a1).gr.set (o:=.lst (dn++[d])) hc);generalize G1.set c (.lst (dn++[d]))=G2 at e2 a2 ⊢;have el:((pre++t).length:Int)= (pre.length:Int)+t.length:=by rw[zd];lia
 have hb:S6 T (" or " :Str) ((pre.length:Int)+t.length)=true:=by rw[<-el];exact G9 h rfl
 refine t6<|.inl<| O7<| X8.mpr<| X4<| v8 (T:=T) (i:=(pre.length:Int)+t.length) rfl rfl rfl ?_;rw[hb];refine⟨rfl,λz=>(nomatch z),λ_=>j6.mpr ?_⟩;have l4:(pre.length:Int)+t.length+4= ((pre++t++cOr).length:Int):=by simp only[zd,zD,jK];lia
 refine M9<|.inl<| b8 (a:=.int ((pre.length:Int)+t.length+4)) (G':=G2) rfl ?_;rw[l4];exact k o _ G2 a2 e2
end
section
variable{T:Str}{x:Str}{dp:Int}{R:List D->M D}{ok:Prop}
theorem uI{o1 o2:Prop}{a b:PX}{t1 t2:List Nat}(w1:RdZ x o1 (u6 R) T dp t1 (sX a))(w2:RdZ x o2 (u6 R) T dp t2 (sX b))(J:Jn a b):RdZ x (o1/\o2) (T6 R) T dp (brL t1 t2) (sX (jn a b)):=by
 intro pre post G h hp;have bg:=big;have h1:tl T= (pre++[40])++t1++(cOr++(t2++(41::post))):=by rw[h];simp
 have h2:tl T= (pre++[40]++t1++cOr)++t2++(41::post):=by rw[h1];simp
 have l1:(pre.length:Int)+1= ((pre++[40]).length:Int):=by rw[zd];rfl
 refine O2 (show We _ _ (LK R [some (.str T),some (.int pre.length),some (.int dp),none]) G _ from ?_);refine t6<| M9<| M3<| b8 (a:= [.str T,.int ((pre.length:Int)+1),.int dp]) (G':=G) rfl ⟨rfl,?_⟩;rw[l1];refine O2 (show We _ _ (mE R [some (.str T),some (.int ((pre++[40]).length:Int)),some (.int dp),none,none]) G _ from ?_);rw[cO];refine t6<|.inl<| b8 (a:=.nx (qS T ((pre++[40]).length:Int) dp G.length none)) (G':=G++[.lst []]) rfl ?_;refine pJ (n:=3) ?_;refine Hb (G0:=G) w1 h1 o4 (show 0<100 by decide) Ap.one (zg _) (λn z=>n z.1) ?_;intro o u' G1 a1 e1;refine((iR (n:=1) w2 h2 (λc r e=>by cases e;decide) (λr e=>by cases e) e1 (show 1<100 by decide) a1 (zg _)).emono λ_ n z=>n z.2).mono ?_;rintro _ G2 ⟨o2,a2,e2,rfl⟩;refine .inl ?_;have n2:¬((([]++[sX a]++[sX b]:List D).length:Int)=1):=by show ¬((2:Int)=1);decide
 refine d9.mpr<| O7<| J6<| bin_w<| D3 (as:= [.ref G.length]) rfl<| (sK e2).mpr<| b8 rfl<| TB.mpr ⟨_,rfl,λz=>absurd (of_decide_eq_true z) n2,λ_=>j6.mpr ?_⟩;refine o7<| R3.mpr<| j5<| j7 (as:= [.ref G.length]) rfl rfl<| VS J e2 λG3 a3=>?_;have h6:tl T= (pre++[40]++t1++cOr++t2)++(tl (")" :Str)++post):=by rw[h2];rfl
 have l6:((pre++[40]++t1++cOr).length:Int)+t2.length= ((pre++[40]++t1++cOr++t2).length:Int):=by rw[zd (bs:=t2)];lia
 refine j5<| j7 (as:= [.str T,.int (((pre++[40]++t1++cOr).length:Int)+t2.length),.str (")" :Str)]) rfl rfl<| fD l6 (by decide) h6<| v7.mpr ⟨sz,j8 ⟨⟨o,o2⟩,a2.trans a3,?_⟩⟩;have l7:((pre++[40]++t1++cOr++t2).length:Int)+((")" :Str).length:Nat)= (pre.length:Int)+(brL t1 t2).length:=by simp only[zd,zD,jK];show _+(1:Int)=_;lia
 rw[l7]
theorem HJ{P:Fl->DH->Prop}{ρ:DSt}{G:DH}(hd:20<dp)(hx:¬ok/\x= "NoSet"){Y:Fs}:We x (λ_=>¬ok) (m5 (ifS (tBn gtD o0 (cIn 20)) (aB "NoSet" (F5 (cSt "too many lists and records within one another"))) v4) Y (some (.str T)::some (.int i)::some (.int dp)::ρ)) G P:=by obtain⟨n,rfl⟩:=hx;refine t6<| RD<| J6<| bin_w<| b8 rfl<| b8 rfl<| UA.mpr ⟨_,rfl,?_⟩;rw[decide_eq_true hd];exact⟨λ_=>PP (b8 rfl n),λz=>nomatch z⟩
theorem fL{P:Fl->DH->Prop}{ρ:DSt}{G:DH}(hd:dp<=20){Y:Fs}{X:Fs}(w:We x (λ_=>¬ok) (Y (some (.str T)::some (.int i)::some (.int dp)::ρ)) G P):We x (λ_=>¬ok) (m5 (ifS (tBn gtD o0 (cIn 20)) X v4) Y (some (.str T)::some (.int i)::some (.int dp)::ρ)) G P:=by refine t6<| RD<| J6<| bin_w<| b8 rfl<| b8 rfl<| UA.mpr ⟨_,rfl,?_⟩;rw[decide_eq_false (by lia)];exact⟨λz=>(nomatch z),λ_=>.inl<| j6.mpr w⟩
theorem tI{s:List Nat}{d:D}{N:Nat}(hb:dp<=20->RdZ x ok (T6 (v6 N)) T dp ([40]++s) d)(hx:20<dp->¬ok/\x= "NoSet"):RdZ x ok (v6 (N+1)) T dp ([40]++s) d:=by
 intro pre post G h hp;refine O2 (show We _ _ (iD (v6 N) [some (.str T),some (.int pre.length),some (.int dp),none]) G _ from ?_);rcases Xh 20 dp with hd|hd
 ·exact HJ hd (hx hd)
 ·have hs:tl T=pre++(40::(s++post)):=by rw[h,zo];rfl
  exact fL hd<| zY (G9 hs rfl)<| M3<| b8 (a:= [.str T,.int pre.length,.int dp]) (G':=G) rfl ⟨rfl,(hb hd pre post G h hp).mono λy G' q=>j8 q⟩
theorem Vm{N:Nat}(o:dp<=20->ok)(hx:20<dp->¬ok/\x= "NoSet"):RdZ x ok (v6 (N+1)) T dp gB (.str ("any" :Str)):=by
 intro pre post G h hp;refine O2 (show We _ _ (iD (v6 N) [some (.str T),some (.int pre.length),some (.int dp),none]) G _ from ?_);rcases Xh 20 dp with hd|hd
 ·exact HJ hd (hx hd)
 ·have hs:tl T=pre++(97::(110::121::post)):=by rw[h,zo];rfl
  refine fL hd<| zN (noF hs rfl rfl (by decide))<|.inl<| d9.mpr<| K5<| j7 (as:= [.str T,.int pre.length]) rfl rfl<| u0 (show Wp (lG [some (.str T),some (.int pre.length)]) G _ from mG (G9 hs rfl)<| b8 (a:=.tup [.str ("any" :Str),.int ((pre.length:Int)+3)]) (G':=G) rfl<| j8 ?_);exact o7<| b8 (a:=.tup [.str ("any" :Str),.int ((pre.length:Int)+3)]) (G':=G) rfl<| j8 ⟨o hd,Ap.refl,rfl⟩
theorem FO{t:List Nat}{c:Nat}{r pre post:List Nat}{G:DH}{Q:DPP}(h:tl T=pre++(t++post))(e:t=c::r)(h1:c≠97)(h2:c≠110)(q:Q .non G):Wp (ID [.str T,.int pre.length]) G Q:=
 u0 (show Wp (lG [some (.str T),some (.int pre.length)]) G _ from E3 (noF h (by rw[e];rfl) rfl h1)<| E3 (noF h (by rw[e];rfl) rfl h2)<| o7<| b8 rfl<| j8 q)
theorem dN{t:List Nat}{d:D}{N:Nat}{c:Nat}{r:List Nat}(e:t=c::r)(h1:c≠97)(h2:c≠110)(h3:c≠40)(hw:dp<=20->RdZ x ok (u6 (v6 N)) T dp t d)(hx:20<dp->¬ok/\x= "NoSet"):RdZ x ok (v6 (N+1)) T dp t d:=by
 intro pre post G h hp;refine O2 (show We _ _ (iD (v6 N) [some (.str T),some (.int pre.length),some (.int dp),none]) G _ from ?_);rcases Xh 20 dp with hd|hd
 ·exact HJ hd (hx hd)
 ·have hs:tl T=pre++(t++post):=by rw[h,zo]
  refine fL hd<| zN (noF hs (by rw[e];rfl) rfl h3)<| t6<| M9<|.inl<| j7 (as:= [.str T,.int pre.length]) rfl rfl<| FO hs e h1 h2 ?_;refine ED ?_;have ie:∀ {e f:Fe} {σ:DSt} {b:Bool} {Q:DPP},(tBn P2 F0 A0) σ G=some (.ok b,G)->b=true->We x (λ_=>¬ok) (e σ) G Q->We x (λ_=>¬ok) (ifE (tBn P2 F0 A0) e f σ) G Q:=λ{e f σ b Q} et hb w=>by subst hb;refine BR (m':=e σ) (G':=G) ?_ w;show (do let b <-g6 (binE P2 F0 A0) σ;if b then e σ else f σ:M D) G=_;rw[M.bind_ok et,if_pos rfl]
  refine ie (b:=true) rfl rfl<| M3<| b8 (a:= [.str T,.int pre.length,.int dp]) (G':=G) rfl ⟨rfl,(hw hd pre post G h hp).mono λy G' q=>j8 q⟩
end
theorem FM(R:List D->M D):SD R=m5 (ifS (truthE (mtE isStrM startsD g0 (I0 o0 l0))) (u9 (B8 (E1 z0) (cE (.tup [.tup [],.tup [.str ("of" :Str),.tup []],.tup [],.non,.non])) (binE addD l0 (M0 lenF o0)))) v4) (asQ (E1 z0) aA (m5 (V3 iB (inB R)) (inE R))):=rfl
section
variable{T:Str}{x z:Str}{dp:Int}{R F:List D->M D}{ok:Prop}{cl c:Nat}{G:DH}{P:Fl->DH->Prop}
abbrev iS(T:Str)(at':Int)(cl:Nat)(z:Str)(dp:Int)(c:Nat)(u v:Option D):DSt:= [some (.str T),some (.int at'),some (.str ⟨#[cl]⟩),some (.fn z),some (.int dp),sRf c,u,v]
abbrev i9(cl:Nat):Prop:=cl=93\/cl=125
theorem HdT.no{t post pre:List Nat}(h:HdT t)(e:tl T=pre++(t++post)):S6 T (".. " :Str) pre.length=false:=by obtain⟨c,r,rfl,_,_,_,k⟩:=h.hd;refine pfx e fun⟨s,z⟩=>?_;obtain⟨z1,z2⟩:=jw z;obtain⟨d,s',rfl,hd⟩:=k z1.symm;exact hd (jw (jw z2).2).1.symm
theorem HdT.ncl{t post pre:List Nat}(h:HdT t)(hcl:i9 cl)(e:tl T=pre++(t++post)):S6 T ⟨#[cl]⟩ pre.length=false:=by obtain⟨c,r,rfl,h1,h2,_⟩:=h.hd;exact noF e rfl rfl (by rcases hcl with rfl|rfl<;>assumption)
theorem i9.st(h:i9 cl){post:List Nat}:stW (cl::post):=λc r e=>by have:=(jw e).1;rcases h with rfl|rfl<;>lia
theorem FS{t:List Nat}{d:D}{n:Nat}{G0:DH}{dn:List D}{u:Option D}{pre post:List Nat}(ht:w9 "inner_at" "field_at" R (O6 R) z=some F)(hcl:i9 cl)(hd:HdT t)(w:RdZ x ok F T dp t d)(h:tl T=pre++t++(cl::post))(e:G[c]? =some (.lst dn))(hl:dn.length<100)(a0:Ap G0 G)(hc:G0.length<=c):
 We x (λ_=>¬ok) (w5 (n+1) iB (inB R) (iS T pre.length cl z dp c u none)) G λfl G'=>ok/\Ap G0 G'/\G'[c]? =some (.lst (dn++[d]))/\fl= .rt (.tup [.ref c,noD,.int ((pre.length:Int)+t.length+1)]):=by
 have bg:=big;have hs:tl T=pre++(t++(cl::post)):=by rw[h,zo]
 refine GE<| X8.mpr<| W7<| v8 rfl rfl rfl ?_;rw[hd.no hs];refine⟨rfl,?_⟩;rw[if_pos (show (!false)=true from rfl)];refine t6<| M9<| NO rfl ht<| b8 (a:= [.str T,.int pre.length,.int dp]) (G':=G) rfl ⟨rfl,(w pre (cl::post) G h hcl.st).mono ?_⟩;rintro _ G1 ⟨o,a1,rfl⟩;have e1:=a1.at e;refine .inl<| d9.mpr<| sB.mpr<| c9.mpr<| b8 rfl<| (V0 e1).mpr<| b8 (a:= [d]) rfl<| (vC e1 (by lia)).mpr ?_;have e2:(G1.set c (.lst (dn++[d])))[c]? =some (.lst (dn++[d])):=zX (lt_of_get e1);have a2:=Gr.ap ((a0.trans a1).gr.set (o:=.lst (dn++[d])) hc);generalize G1.set c (.lst (dn++[d]))=G2 at e2 a2 ⊢;have el:((pre++t).length:Int)= (pre.length:Int)+t.length:=by rw[zd];lia
 have hb:S6 T ⟨#[cl]⟩ ((pre.length:Int)+t.length)=true:=by rw[<-el];exact G9 h rfl
 refine d9.mpr<| O7<| X4<| v8 (T:=T) (i:=(pre.length:Int)+t.length) rfl rfl rfl ?_;rw[hb];exact⟨rfl,λ_=>o7<| b8 rfl ⟨o,a2,e2,rfl⟩,λz=>nomatch z⟩
theorem az{o2:Prop}{t r:List Nat}{d:D}{n:Nat}{G0:DH}{dn:List D}{u:Option D}{pre:List Nat}(ht:w9 "inner_at" "field_at" R (O6 R) z=some F)(hcl:i9 cl)(hd:HdT t)(w:RdZ x ok F T dp t d)(h:tl T=pre++t++(cCm++r))(e:G[c]? =some (.lst dn))(hl:dn.length<100)(a0:Ap G0 G)(hc:G0.length<=c)(no:¬ok->¬o2)
 (k:ok->∀u' G',Ap G0 G'->G'[c]? =some (.lst (dn++[d]))->We x (λ_=>¬o2) (w5 n iB (inB R) (iS T (pre++t++cCm).length cl z dp c u' none)) G' P):
 We x (λ_=>¬o2) (w5 (n+1) iB (inB R) (iS T pre.length cl z dp c u none)) G P:=by
 have bg:=big;have hs:tl T=pre++(t++(cCm++r)):=by rw[h,zo]
 refine GE<| X8.mpr<| W7<| v8 rfl rfl rfl ?_;rw[hd.no hs];refine⟨rfl,?_⟩;rw[if_pos (show (!false)=true from rfl)];refine t6<| M9<| NO rfl ht<| b8 (a:= [.str T,.int pre.length,.int dp]) (G':=G) rfl ⟨rfl,((w pre (cCm++r) G h λc r e=>by cases e;decide).emono λ_=>no).mono ?_⟩;rintro _ G1 ⟨o,a1,rfl⟩;have e1:=a1.at e;refine t6<|.inl<| sB.mpr<| c9.mpr<| b8 rfl<| (V0 e1).mpr<| b8 (a:= [d]) rfl<| (vC e1 (by lia)).mpr ?_;have e2:(G1.set c (.lst (dn++[d])))[c]? =some (.lst (dn++[d])):=zX (lt_of_get e1);have a2:=Gr.ap ((a0.trans a1).gr.set (o:=.lst (dn++[d])) hc);generalize G1.set c (.lst (dn++[d]))=G2 at e2 a2 ⊢;have el:((pre++t).length:Int)= (pre.length:Int)+t.length:=by rw[zd];lia
 have hb:S6 T ⟨#[cl]⟩ ((pre.length:Int)+t.length)=false:=by rw[<-el];exact noF (rest:=44::(32::r)) h rfl rfl (by rcases hcl with rfl|rfl<;>decide)
 refine t6<|.inl<| O7<| W7<| v8 (T:=T) (i:=(pre.length:Int)+t.length) rfl rfl rfl ?_;rw[hb];refine⟨rfl,λz=>(nomatch z),λ_=>j6.mpr ?_⟩;have h4:tl T= (pre++t)++(tl (", " :Str)++r):=h;refine M9<|.inl<| j7 (as:= [.str T,.int ((pre.length:Int)+t.length),.str (", " :Str)]) rfl rfl<| fD el.symm (by decide) h4 ?_;have l4:((pre++t).length:Int)+((", " :Str).length:Nat)= ((pre++t++cCm).length:Int):=by rw[zd (as:=pre++t)];rfl
 rw[l4];exact k o _ G2 a2 e2
abbrev AD(ok:Prop)(G0:DH)(l:List D)(m:D)(e:Int)(y:D)(G':DH):Prop:=ok/\Ap G0 G'/\∃c,y= .tup [.ref c,m,.int e]/\G'[c]? =some (.lst l)
theorem UR(hcl:i9 cl){pre post:List Nat}(h:tl T=pre++(cl::post)):Wp (J0 R [.str T,.int pre.length,.str ⟨#[cl]⟩,.fn z,.int dp]) G (AD True G [] noD ((pre.length:Int)+1)):=by refine u0 (show Wp (SD R [some (.str T),some (.int pre.length),some (.str ⟨#[cl]⟩),some (.fn z),some (.int dp),none,none,none]) G _ from ?_);rw[FM];refine d9.mpr<| O7<| X4<| v8 rfl rfl rfl ?_;rw[G9 h rfl];refine⟨rfl,λ_=>?_,λz=>nomatch z⟩;exact o7<| R3.mpr<| j5<| OD.mpr<| v7.mpr ⟨sz,b8 rfl ⟨sz,j8 ⟨trivial,Ap.one,_,rfl,o4⟩⟩⟩
theorem NJ{pre rest:List Nat}(h:tl T=pre++rest)(nc:S6 T ⟨#[cl]⟩ pre.length=false){Q:DPP}{n:Nat} (w:We x (λ_=>¬ok) (w5 n iB (inB R) (iS T pre.length cl z dp G.length none none)) (G++[.lst []]) λfl G1=>match fl with
 | .nx X1=>We x (λ_=>¬ok) (inE R X1) G1 (PB Q)
 |r=>PB Q r G1):We x (λ_=>¬ok) (J0 R [.str T,.int pre.length,.str ⟨#[cl]⟩,.fn z,.int dp]) G Q:=by
 refine O2 (show We _ _ (SD R [some (.str T),some (.int pre.length),some (.str ⟨#[cl]⟩),some (.fn z),some (.int dp),none,none,none]) G _ from ?_);rw[FM];refine t6<|.inl<| O7<| W7<| v8 rfl rfl rfl ?_;rw[nc];refine⟨rfl,λz=>(nomatch z),λ_=>j6.mpr ?_⟩;refine t6<|.inl<| b8 (a:=.nx (iS T pre.length cl z dp G.length none none)) (G':=G++[.lst []]) rfl ?_;exact t6<| pJ w
theorem lN(ht:w9 "inner_at" "field_at" R (O6 R) z=some F)(hcl:i9 cl){t pre post:List Nat}{d:D}(hd:HdT t)(w:RdZ x ok F T dp t d)(h:tl T=pre++t++(cl::post)):We x (λ_=>¬ok) (J0 R [.str T,.int pre.length,.str ⟨#[cl]⟩,.fn z,.int dp]) G (AD ok G [d] noD ((pre.length:Int)+t.length+1)):=by
 have hs:tl T=pre++(t++(cl::post)):=by rw[h,zo]
 refine NJ (n:=1) hs (hd.ncl hcl hs) ((FS (G0:=G) (dn:= []) ht hcl hd w h o4 (by decide) Ap.one (zg _)).mono ?_);rintro _ G1 ⟨o,a,e,rfl⟩;exact j8 ⟨o,a,_,rfl,e⟩
theorem gZ{o1:Prop}(ht:w9 "inner_at" "field_at" R (O6 R) z=some F)(hcl:i9 cl){t1 t2 pre post:List Nat}{d1 d2:D}(h1:HdT t1)(h2:HdT t2)(w1:RdZ x o1 F T dp t1 d1)(w2:RdZ x ok F T dp t2 d2)(no:¬o1->¬ok)(h:tl T=pre++t1++(cCm++(t2++(cl::post)))):We x (λ_=>¬ok) (J0 R [.str T,.int pre.length,.str ⟨#[cl]⟩,.fn z,.int dp]) G (AD ok G [d1,d2] noD ((pre.length:Int)+(t1++cCm++t2).length+1)):=by
 have hs:tl T=pre++(t1++(cCm++(t2++(cl::post)))):=by rw[h,zo]
 refine NJ (n:=2) hs (h1.ncl hcl hs) ?_;refine az (G0:=G) (dn:= []) ht hcl h1 w1 h o4 (by decide) Ap.one (zg _) no λ_ u' G1 a1 e1=>?_;have h3:tl T= (pre++t1++cCm)++t2++(cl::post):=by rw[h];simp
 refine(FS (n:=0) ht hcl h2 w2 h3 e1 (show 1<100 by decide) a1 (zg _)).mono ?_;rintro _ G2 ⟨o,a,e,rfl⟩;refine j8 ⟨o,a,_,?_,e⟩;rw[show ((pre++t1++cCm).length:Int)+t2.length+1= (pre.length:Int)+(t1++cCm++t2).length+1 by simp only[zd];lia]
theorem mO(hcl:i9 cl){t pre post:List Nat}{d:D}(w:RdZ x ok R T dp t d)(h:tl T=pre++cDd++t++(cl::post)):We x (λ_=>¬ok) (J0 R [.str T,.int pre.length,.str ⟨#[cl]⟩,.fn z,.int dp]) G (AD ok G [] d ((pre.length:Int)+(cDd++t).length+1)):=by
 have hs:tl T=pre++(cDd++(t++(cl::post))):=by rw[h];simp
 have hs2:tl T=pre++(46::(46::32::(t++(cl::post)))):=hs;refine NJ (n:=1) hs (noF hs2 rfl rfl (by rcases hcl with rfl|rfl<;>decide)) ?_;refine GE<| X8.mpr<| X4<| v8 rfl rfl rfl ?_;rw[G9 hs rfl];refine⟨rfl,?_⟩;rw[if_neg (show ¬(!true)=true by decide)];have l3:(pre.length:Int)+3= ((pre++cDd).length:Int):=by rw[zd];rfl
 refine t6<| M9<| M3<| b8 (a:= [.str T,.int ((pre.length:Int)+3),.int dp]) (G':=G++[.lst []]) rfl ⟨rfl,?_⟩;rw[l3];refine(w (pre++cDd) (cl::post) _ h hcl.st).mono ?_;rintro _ G1 ⟨o,a1,rfl⟩;have l6:((pre++cDd).length:Int)+t.length= ((pre++cDd++t).length:Int):=by rw[zd (bs:=t)];lia
 have h6:tl T= (pre++cDd++t)++(tl (⟨#[cl]⟩:Str)++post):=h;refine .inl<| o7<| R3.mpr<| j5<| b8 (a:=.ref G.length) rfl<| j5<| b8 (a:=d) rfl<| j5<| j7 (as:= [.str T,.int (((pre++cDd).length:Int)+t.length),.str ⟨#[cl]⟩]) rfl rfl<| fD l6 (by show 1<=zi;decide) h6<| v7.mpr ⟨sz,j8 ⟨o,Ap.one.trans a1,_,?_,a1.at o4⟩⟩;rw[show ((pre++cDd++t).length:Int)+((⟨#[cl]⟩:Str).length:Nat)= (pre.length:Int)+(cDd++t).length+1 by simp only[zd];show _+(1:Int)=_;lia]
end
section
variable{T:Str}{x:Str}{dp:Int}{R:List D->M D}{ok:Prop}
theorem RdZ.tr{y:Str}{o:Prop}{F:List D->M D}{t:List Nat}{d:D}(w:RdZ y o F T dp t d)(ho:o)(hk:ok):RdZ x ok F T dp t d:=λpre post G h hp=>by
 rcases w pre post G h hp with w|⟨_,_,n⟩
 ·exact .inl (w.mono λy G' q=>⟨hk,q.2⟩)
 ·exact absurd ho n
theorem Qp{l:List D}{m:D}{G:DH}{Q:DPP}(hh:OkX (pX [] (.tup [.tup l,m]) .non))(q:∀G',Ap G G'->Q (lsX l m) G'):Wp (HG [.tup l,m]) G Q:=by have w:=qK hh λG2 a2=>j8 (q G2 a2);refine u0 (show Wp (SK [some (.tup l),some m]) G _ from ?_);refine o7 ?_;have e:(u4 (T9 z0) (y0 (cSt "of") (T9 z0)) (T9 z0) (y0 g0 l0) A0) [some (.tup l),some m] G=some (.ok [.tup [],.tup [.str ("of" :Str),.tup []],.tup [],.tup [.tup l,m],.non],G):=rfl;exact j7 e rfl w
theorem BY{l:List D}{m:D}{G:DH}{Q:DPP}(hh:OkX (pX [] .non (.tup [.tup l,m])))(q:∀G',Ap G G'->Q (rsX l m) G'):Wp (rG [.tup l,m]) G Q:=by have w:=qK hh λG2 a2=>j8 (q G2 a2);refine u0 (show Wp (vK [some (.tup l),some m]) G _ from ?_);refine o7 ?_;have e:(u4 (T9 z0) (y0 (cSt "of") (T9 z0)) (T9 z0) A0 (y0 g0 l0)) [some (.tup l),some m] G=some (.ok [.tup [],.tup [.str ("of" :Str),.tup []],.tup [],.non,.tup [.tup l,m]],G):=rfl;exact j7 e rfl w
theorem NF{s:List Nat}{fs:List D}{m:D}(hh:OkX (pX [] (.tup [.tup fs,m]) .non))(ins:∀pre post G,tl T=pre++s++(93::post)->We x (λ_=>¬ok) (J0 R [.str T,.int pre.length,.str ⟨#[93]⟩,.fn ("inner_at" :Str),.int (dp+1)]) G (AD ok G fs m ((pre.length:Int)+s.length+1))):RdZ x ok (N6 R) T dp ([91]++s++[93]) (lsX fs m):=by
 intro pre post G h hp;have h1:tl T= (pre++[91])++s++(93::post):=by rw[h];simp
 have l1:(pre.length:Int)+1= ((pre++[91]).length:Int):=by rw[zd];rfl
 refine O2 (show We _ _ (KI R [some (.str T),some (.int pre.length),some (.int dp),none]) G _ from ?_);refine t6<| M9<| M3<| b8 (a:= [.str T,.int ((pre.length:Int)+1),.str ("]" :Str),.fn "inner_at",.int (dp+1)]) (G':=G) rfl ⟨rfl,?_⟩;rw[l1];refine(ins (pre++[91]) post G h1).mono ?_;rintro _ G1 ⟨o,a1,c,rfl,ec⟩;refine .inl<| o7<| R3.mpr<| j5<| R6<| j5<| D3 (as:= [.ref c]) rfl<| (Z5 ec).mpr<| b8 (a:= [m]) rfl<| W8.mpr ⟨rfl,?_⟩;refine Qp hh λG2 a2=>?_;have le:((pre++[91]).length:Int)+s.length+1= (pre.length:Int)+([91]++s++[93]).length:=by simp only[zd,zD,jK];lia
 rw[le];exact b8 rfl ⟨sz,j8 ⟨o,a1.trans a2,rfl⟩⟩
theorem vJ{s:List Nat}{fs:List Fld}{m:D}(hf:fs.length<=1)(hh:OkX (pX [] .non (.tup [.tup (fs.map fdD),m])))(ins:∀pre post G,tl T=pre++s++(125::post)->We x (λ_=>¬ok) (J0 R [.str T,.int pre.length,.str ⟨#[125]⟩,.fn ("field_at" :Str),.int (dp+1)]) G (AD ok G (fs.map fdD) m ((pre.length:Int)+s.length+1))):RdZ x ok (K3 R) T dp ([123]++s++[125]) (rsX (fs.map fdD) m):=by
 intro pre post G h hp;have bg:=big;have h1:tl T= (pre++[123])++s++(125::post):=by rw[h];simp
 have l1:(pre.length:Int)+1= ((pre++[123]).length:Int):=by rw[zd];rfl
 have hr:(fs.map Fld.nm).Pairwise ltT:=by
  rcases fs with _|⟨f,_|⟨_,_⟩⟩
  ·exact .nil
  ·exact List.pairwise_singleton ..
  ·simp at hf
 refine O2 (show We _ _ (Z6 R [some (.str T),some (.int pre.length),some (.int dp),none,none]) G _ from ?_);refine t6<| M9<| M3<| b8 (a:= [.str T,.int ((pre.length:Int)+1),.str ("}" :Str),.fn "field_at",.int (dp+1)]) (G':=G) rfl ⟨rfl,?_⟩;rw[l1];refine(ins (pre++[123]) post G h1).mono ?_;rintro _ G1 ⟨o,a1,c,rfl,ec⟩;have e3:(G1++[DO.lst (fs.map fdD)])[G1.length]? =some (.lst (fs.map fdD)):=o4;refine .inl<| d9.mpr<| K5<| OM.mpr<| b8 (a:=.ref c) rfl<| gu ec (by lia) hr ?_;have a2:Ap G (G1++[DO.lst (fs.map fdD)]):=a1.trans Ap.one;generalize G1.length=c2,G1++[DO.lst (fs.map fdD)]=G2 at e3 a2 ⊢;have nm:∀ {Q:DPP},(Q (.ref G2.length) (G2++[.lst ((fs.map Fld.nm).map D.str)]))->Wp (MG [.ref c2]) G2 Q:=λq=>by
  refine u0<| o7<| wp_comp.mpr<| wp_itW.mpr<| b8 rfl<| (IM e3).mpr ⟨by rw[zE];lia,?_⟩;rcases fs with _|⟨f,_|⟨_,_⟩⟩
  ·exact gA.mpr ⟨E8 e3,j8 q⟩
  ·refine mF.mpr ⟨E8 e3,b8 rfl<| b8 rfl ?_⟩;rw[if_pos rfl];exact b8 (a:=.str f.nm) rfl<| gA.mpr ⟨E8 e3,j8 q⟩
  ·simp at hf
 refine d9.mpr<| PN<| X4<| R6<| j5<| j7 (as:= [.ref c2]) rfl rfl<| nm<| v7.mpr<| W8.mpr ⟨rfl,qU (.inr ⟨_,rfl,o4⟩) (by rw[zE,zE];lia) (wW hr) λG3 a3=>⟨rfl,rfl,j6.mpr ?_⟩⟩;have a4:Ap G G3:=(a2.trans Ap.one).trans a3;have e4:G3[c2]? =some (.lst (fs.map fdD)):=a3.at (U0 e3);refine o7<| R3.mpr<| j5<| R6<| j5<| D3 (as:= [.ref c2]) rfl<| (Z5 e4).mpr<| b8 (a:= [m]) rfl<| W8.mpr ⟨rfl,BY hh λG4 a5=>?_⟩;have le:((pre++[123]).length:Int)+s.length+1= (pre.length:Int)+([123]++s++[125]).length:=by simp only[zd,zD,jK];lia
 rw[le];exact b8 rfl ⟨sz,j8 ⟨o,a4.trans a5,rfl⟩⟩
theorem vj(hz:T.length<=zi){c:Nat}{must:Bool}{u:List Nat}{e:D}(hc:97<=c/\c<=98)(w:RdZ x ok R T dp u e):RdZ x ok (O6 R) T dp ([c]++cMu must++u) (.tup [.str ⟨#[c]⟩,.bl must,e]):=by
 intro pre post G ht hp;have hcM:∃c r,cMu must=c::r/\¬(97<=c/\c<=122):=by cases must<;>exact⟨_,_,rfl,by decide⟩
 obtain⟨c0,r0,ec0,nc0⟩:=hcM;have h1:tl T=pre++[c]++(cMu must++u++post):=by rw[ht];simp
 refine O2 (show We _ _ (rJ R [some (.str T),some (.int pre.length),some (.int dp),none,none,none]) G _ from ?_);refine t6<| M9<|.inl<| j7 (as:= [.str T,.int pre.length,.str ⟨#[97]⟩,.str ⟨#[122]⟩]) rfl rfl<| UC hz rfl h1 (λd hd=>by rw[zt.mp hd];lia) (λc r e=>by rw[ec0]at e;rw[<-(jw e).1];exact nc0) ?_;have l1:(pre.length:Int)+([c]:List Nat).length= ((pre++[c]).length:Int):=by rw[zd];lia
 rw[l1];have en:¬((((pre++[c]).length:Nat):Int)= (pre.length:Int)):=λz=>by rw[zd,yQ]at z;lia
 refine t6<|.inl<| O7<| J6<| bin_w<| b8 rfl<| b8 rfl<| TB.mpr ⟨_,rfl,λz=>absurd (of_decide_eq_true z) en,λ_=>j6.mpr ?_⟩;have h2:tl T= (pre++[c])++(cMu must++(u++post)):=by rw[h1];simp
 have bm:S6 T ("?" :Str) ((pre++[c]).length:Int)= !must:=by
  cases must
  ·exact G9 h2 rfl
  ·exact noF h2 rfl rfl (by decide)
 have h3:tl T= (pre++([c]++cMu must))++u++post:=by rw[h2];simp
 refine t6<| M9<|.inl<| kj.mpr<| v8 rfl rfl rfl ⟨_,rfl,?_⟩;rw[bm,Bool.not_not];have l3:((pre++([c]++cMu must)).length:Int)= (if must then ((pre++[c]).length:Int)else ((pre++[c]).length:Int)+1)+((": " :Str).length:Nat):=by
  cases must
  ·show (((pre++([c]++[63,58,32])).length:Nat):Int)= (((pre++[c]).length:Nat):Int)+1+(2:Nat);simp only[zd,zD,jK];lia
  ·show (((pre++([c]++[58,32])).length:Nat):Int)= (((pre++[c]).length:Nat):Int)+(2:Nat);simp only[zd,zD,jK];lia
 have bw:Wp (W2 [.str T,.int (if must then ((pre++[c]).length:Int)else ((pre++[c]).length:Int)+1),.str (": " :Str)]) G λy G'=>y= .int ((pre++([c]++cMu must)).length:Int)/\G'=G:=by
  rw[l3]
  cases must
  ·have h4:tl T= (pre++[c]++[63])++(tl (": " :Str)++(u++post)):=by rw[h2];show _++([63,58,32]++_)=_++([58,32]++_);simp
   have l4:((pre++[c]).length:Int)+1= ((pre++[c]++[63]).length:Int):=by rw[zd (as:=pre++[c])];rfl
   rw[if_neg zw,l4];exact fD rfl (by decide) h4 ⟨rfl,rfl⟩
  ·rw[if_pos rfl];exact fD rfl (by decide) h2 ⟨rfl,rfl⟩
 have iv:(ifE (truthE L0) F0 (binE addD F0 x0)) [some (.str T),some (.int pre.length),some (.int dp),some (.int ((pre++[c]).length:Int)),some (.bl must),none] G=some (.ok (.int (if must then ((pre++[c]).length:Int)else ((pre++[c]).length:Int)+1)),G):=by cases must<;>rfl
 have sl:=BK h1;refine t6<| M9<| M3<| j5<| b8 (a:=.str T) rfl<| j5<| R6<| j5<| b8 (a:=.str T) rfl<| j5<| b8 iv<| b8 (a:= [.str (": " :Str)]) rfl<| W8.mpr ⟨rfl,bw.mono ?_⟩;rintro _ _ ⟨rfl,rfl⟩;refine b8 (a:= [.int dp]) rfl ⟨rfl,(w _ post _ h3 hp).mono ?_⟩;rintro _ G1 ⟨o,a1,rfl⟩;refine .inl<| o7<| R3.mpr<| j5<| R3.mpr<| j5<| TC.mpr<| b8 rfl<| b8 rfl<| b8 rfl<| (RK hz).mpr ?_;rw[<-l1,sl];have le:((pre++([c]++cMu must)).length:Int)+u.length= (pre.length:Int)+([c]++cMu must++u).length:=by simp only[zd];lia
 refine b8 (a:= [.bl must,e]) rfl ⟨sz,b8 (a:= [.int ((pre.length:Int)+([c]++cMu must++u).length)]) (by rw[<-le];rfl) ⟨sz,j8 ⟨o,a1,rfl⟩⟩⟩
theorem wG{t r:List Nat}{d:D}(e:t=91::r)(w:RdZ x ok (N6 R) T dp t d):RdZ x ok (u6 R) T dp t d:=by
 intro pre post G h hp;have h0:tl T=pre++(91::(r++post)):=by rw[h,e,zo];rfl
 refine O2 (show We _ _ (MB R (wS dp T pre.length none)) G _ from ?_);rw[BG];exact zY (G9 h0 rfl)<| M3<| b8 (a:= [.str T,.int pre.length,.int dp]) (G':=G) rfl ⟨rfl,(w pre post G h hp).mono λy G' q=>j8 q⟩
theorem eL{t r:List Nat}{d:D}(e:t=123::r)(w:RdZ x ok (K3 R) T dp t d):RdZ x ok (u6 R) T dp t d:=by
 intro pre post G h hp;have h0:tl T=pre++(123::(r++post)):=by rw[h,e,zo];rfl
 refine O2 (show We _ _ (MB R (wS dp T pre.length none)) G _ from ?_);rw[BG];exact zN (noF h0 rfl rfl (by decide))<| zY (G9 h0 rfl)<| M3<| b8 (a:= [.str T,.int pre.length,.int dp]) (G':=G) rfl ⟨rfl,(w pre post G h hp).mono λy G' q=>j8 q⟩
end
section
variable{T:Str}{x:Str}{ok b:Prop}
theorem nb7:Nb 7:=⟨by decide,by rw[show (7:Int).natAbs=7 from rfl,a8 (by decide)];decide⟩
theorem sh7:sh 7:=by show (dg 7).length<=40;rw[a8 (by decide)];decide
theorem t7:nmL 7= [55]:=(qB 7).trans (a8 (by decide))
theorem tN(hz:T.length<=zi):∀(n N:Nat) (dp:Int) (t:List Nat) (d:D),Nst b n t d->dp<=20->22<=N+dp->(dp+n<=20->(ok↔b)/\x= "NoValue")->(20<dp+n->¬ok/\x= "NoSet")->(∃c r,t=c::r/\c≠97)->RdZ x ok (u6 (v6 N)) T dp t d
|0,N,dp,t,d,h,hd,hN,h1,h2,hw=>by
  obtain⟨hk,rfl⟩:=h1 (by simpa using hd);rcases h with⟨hb,⟨rfl,rfl⟩|⟨rfl,rfl⟩|⟨rfl,rfl⟩⟩|⟨w,i,hi,hb,rfl,rfl⟩
  ·obtain⟨c,r,e,hc⟩:=hw;exact absurd (jw e).1.symm hc
  ·obtain⟨a,_⟩:=iA (fs:= []) (m:=noD) (.inr ⟨_,rfl⟩) (by decide) λf hf=>nomatch hf;refine wG rfl<| NF (s:= []) a λpre post G h=>.inl<| (UR (.inl rfl) (by rw[h,ji])).mono λy G' q=>?_;exact⟨hk.mpr hb,q.2.1,by rw[show (pre.length:Int)+(([]:List Nat).length:Nat)+1= (pre.length:Int)+1 by simp];exact q.2.2⟩
  ·obtain⟨a,_⟩:=iC (.mo (m:=noD) (.inr ⟨_,rfl⟩)) λz=>nomatch z;refine eL rfl<| vJ (s:= []) (fs:= []) (by decide) a λpre post G h=>.inl<| (UR (.inr rfl) (by rw[h,ji])).mono λy G' q=>?_;exact⟨hk.mpr hb,q.2.1,by rw[show (pre.length:Int)+(([]:List Nat).length:Nat)+1= (pre.length:Int)+1 by simp];exact q.2.2⟩
  ·have:=cM (T:=T) (dp:=dp) (R:=v6 N) (w:=w) hz hi;rw[show sh i=ok from propext ((hk.trans hb).symm)]at this;exact this
|n+1,N,dp,t,d,⟨u,e,hi,ho⟩,hd,hN,h1,h2,hw=>by
  obtain⟨hu,se⟩:=VR (λt d h=>⟨(LA h).1,(LA h).2.1⟩) hi;obtain⟨N,rfl⟩:∃m,N=m+1:=⟨N-1,by lia⟩;have c1:dp+1+(n:Int)=dp+((n+1:Nat):Int):=by lia
  have hx:20<dp+1->¬ok/\x= "NoSet":=λz=>h2 (by lia);have ih:∀t d,Nst b n t d->(∃c r,t=c::r/\c≠97)->dp+1<=20->RdZ x ok (u6 (v6 N)) T (dp+1) t d:=λt d h w hd=>tN hz n N (dp+1) t d h hd (by lia) (λz=>h1 (by lia)) (λz=>h2 (by lia)) w;have ri:RdZ x ok (v6 (N+1)) T (dp+1) u e:=by
   rcases hi with h|⟨t,ns,l,k,ht,okx,ne,hc⟩
   ·obtain⟨⟨c,r,eu,_,_,h110,_⟩,_,⟨rfl,hb,rfl,rfl⟩|⟨_,_,_,_,_,_,c',r',e',h97,h40⟩⟩:=LA h
    ·exact Vm (λz=>(h1 (by simpa using z)).1.mpr hb) hx
    ·rw[eu]at e';obtain rfl:=(jw e').1;exact dN eu h97 h110 h40 (ih _ _ h ⟨_,_,eu,h97⟩) hx
   ·have w:dp+1<=20->RdZ x ok (u6 (v6 N)) T (dp+1) t (sX (pX ns l k)):=ih t _ ht (by
     obtain⟨_,_,⟨_,_,_,z⟩|⟨_,_,_,_,_,_,c,r,e,h97,_⟩⟩:=LA ht
     ·cases z
     ·exact⟨c,r,e,h97⟩)
    rcases hc with⟨rfl,rfl⟩|⟨rfl,rfl⟩|⟨rfl,rfl⟩
    ·exact tI (s:=t++cOr++cT++[41]) (λz=>(and_true ok)▸uI (w z) aT (Jn.r okx (.inl rfl))) hx
    ·exact tI (s:=t++cOr++qA++[41]) (λz=>(and_true ok)▸uI (w z) (MW hz) (Jn.r okx (.inr rfl))) hx
    ·exact tI (s:=cF++cOr++t++[41]) (λz=>(true_and ok)▸uI al (w z) (Jn.l' okx (.inl rfl))) hx
  have s1:=se.nn
  cases ho with
  |fr=>
    obtain⟨a,_⟩:=iA (fs:= [e]) (m:=noD) (.inr ⟨_,rfl⟩) (show 1<=9 by decide) λf hf=>by rw[zt.mp hf];exact s1
    exact wG rfl<| NF a λpre post G h=>lN rfl (.inl rfl) hu ri h
  |sv=>
    obtain⟨a,_⟩:=iA (fs:= [s7,e]) (m:=noD) (.inr ⟨_,rfl⟩) (show 2<=9 by decide) λf hf=>by
     rcases zk.mp hf with rfl|hf
     ·exact rS
     ·rw[zt.mp hf];exact s1
    have r7:RdZ x (dp+1<=20) (v6 (N+1)) T (dp+1) [55] s7:=dN rfl (by decide) (by decide) (by decide) (λz=>by have:=cM (T:=T) (dp:=dp+1) (R:=v6 N) (w:=.one) hz nb7;rw[show nwL .one 7= [55]from t7]at this;exact this.tr sh7 z) λz=>⟨by lia,(hx z).2⟩
    exact wG rfl<| NF a λpre post G h=>gZ (post:=post) rfl (.inl rfl) (v3 (by decide) (by decide) (by decide) (by decide)) hu r7 ri (λz=>(hx (by lia)).1) (by rw[h];simp)
  |lm=>
    obtain⟨a,_⟩:=iA (fs:= []) (m:=e) se.sh (by decide) λf hf=>nomatch hf;exact wG rfl<| NF a λpre post G h=>mO (post:=post) (.inl rfl) ri (by rw[h];simp)
  |@fd c must hc=>
    obtain⟨a,_⟩:=iC (.fd (z:=⟨#[c]⟩) (b:=must) s1) λz=>nomatch z;exact eL rfl<| vJ (fs:= [⟨⟨#[c]⟩,must,e, []⟩]) (zg 1) a λpre post G h=>lN rfl (.inr rfl) (v3 (by lia) (by lia) (by lia) (by lia)) (vj hz hc ri) h
  |rm=>
    obtain⟨a,_⟩:=iC (.mo (m:=e) se.sh) λz=>nomatch z;exact eL rfl<| vJ (fs:= []) (by decide) a λpre post G h=>mO (post:=post) (.inr rfl) ri (by rw[h];simp)
theorem wx(hz:T.length<=zi){n:Nat}{t:List Nat}{d:D}{G:DH}(h:Nst b (n+1) t d)(ht:tl T=t)(h1:1+(n+1:Nat)<=(20:Int)->(ok↔b)/\x= "NoValue")(h2:(20:Int)<1+(n+1:Nat)->¬ok/\x= "NoSet"):
 We x (λ_=>¬ok) (MF [.str T,.int 0]) G λy G'=>ok/\y= .tup [d,.int T.length]:=by
 obtain⟨⟨c,r,eu,_,_,h110,_⟩,_,⟨z,_⟩|⟨_,_,_,_,_,_,c',r',e',h97,h40⟩⟩:=LA h
 ·cases z
 rw[eu]at e';obtain rfl:=(jw e').1;have hs:tl T= []++(t++[]):=by rw[ht];simp
 have hs2:tl T= []++t++[]:=by rw[ht];simp
 have w:RdZ x ok (u6 N7) T 1 t d:=tN hz (n+1) 22 1 t d h (by decide) (by decide) h1 h2 ⟨_,_,eu,h97⟩;refine O2 (show We _ _ (wJ [some (.str T),some (.int 0),none,none]) G _ from ?_);refine t6<| M9<|.inl<| j7 (as:= [.str T,.int (([]:List Nat).length:Nat)]) rfl rfl<| FO hs eu h97 h110 ?_;refine t6<|.inl<| O7<| b8 (a:=false) rfl ⟨λz=>(nomatch z),λ_=>j6.mpr ?_⟩;refine t6<| M9<| M3<| b8 (a:= [.str T,.int (([]:List Nat).length:Nat),.int 1]) (G':=G) rfl ⟨rfl,?_⟩;refine O2 (show We _ _ (mE N7 [some (.str T),some (.int (([]:List Nat).length:Nat)),some (.int 1),none,none]) G _ from ?_);rw[cO];refine t6<|.inl<| b8 (a:=.nx (qS T (([]:List Nat).length:Nat) 1 G.length none)) (G':=G++[.lst []]) rfl ?_;refine pJ (n:=1) ?_;refine(iR (n:=0) (G0:=G) (dn:= []) w hs2 (λc r e=>nomatch e) (λr e=>nomatch e) o4 (by decide) Ap.one (zg _)).mono ?_;rintro _ G2 ⟨o,a2,e2,rfl⟩;refine .inl<| o7<| R3.mpr<| j5<| j7 (as:= [.ref G.length]) rfl rfl<| Kw e2 λG3 a3=>?_;refine b8 (a:= [.int ((([]:List Nat).length:Int)+t.length)]) rfl ⟨sz,j8 ⟨o,?_⟩⟩;rw[show ((([]:List Nat).length:Int)+t.length)= (T.length:Int) by rw[<-F6,ht];simp]
end
section
variable{T:Str}{b:Prop}{G:DH}
theorem IZ{x:Str}{E:DH->Prop}{f:Fs}{σ:DSt}{P:Fl->DH->Prop}(hx:x= "NoValue"\/x= "NoSet")(w:We x E (f σ) G P):We "NoSet" E (HC "NoValue" "NoSet" f σ) G P:=by
 rcases w with⟨fl,G1,e,q⟩|⟨G1,e,q⟩
 ·refine .inl ⟨fl,G1,?_,q⟩;unfold HC;rw[e]
 ·refine .inr ⟨G1,?_,q⟩;unfold HC;rw[e];dsimp only;rw[if_pos hx]
theorem mW(hz:T.length<=zi){n:Nat}{t:List Nat}{d:D}(h:Nst b (n+1) t d)(ht:tl T=t):We "NoSet" (λ_=>¬(n+2<=20/\b)) (oH [.str T]) G λy _=>(n+2<=20/\b)/\y=d:=by
 obtain⟨x,hx,h1,h2⟩:∃x:Str,(x= "NoValue"\/x= "NoSet")/\(1+((n+1:Nat):Int)<=20->((n+2<=20/\b)↔b)/\x= "NoValue")/\(20<1+((n+1:Nat):Int)->¬(n+2<=20/\b)/\x= "NoSet"):=by
  by_cases k:n+2<=20
  ·exact⟨"NoValue",.inl rfl,λ_=>⟨⟨λz=>z.2,λz=>⟨k,z⟩⟩,rfl⟩,λz=>by lia⟩
  ·exact⟨"NoSet",.inr rfl,λz=>(by lia),λ_=>⟨λz=>k z.1,rfl⟩⟩
 refine O2 (show We _ _ (tJ [some (.str T),none,none]) G _ from ?_);refine t6<| IZ hx<| M9<| M3<| b8 (a:= [.str T,.int 0]) (G':=G) rfl ⟨rfl,(wx hz h ht h1 h2).mono ?_⟩;rintro _ G1 ⟨o,rfl⟩;have hz':=hz;refine .inl<| d9.mpr<| O7<| J6<| bin_w<| b8 (a:=.int T.length) (G':=G1) rfl<| D3 (as:= [.str T]) rfl<| (VD hz).mpr<| SY.mpr ⟨_,rfl,λz=>?_,λ_=>j6.mpr ?_⟩
 ·simp at z
 ·exact o7<| b8 rfl<| j8 ⟨o,rfl⟩
theorem mq(hz:T.length<=zi){n:Nat}{t:List Nat}{d:D}(h:Nst b (n+1) t d)(ht:tl T=t):Wp (T3 [.str T]) G λy _=>(n+2<=20/\b)/\y= .tup [d,.bl false]\/¬(n+2<=20/\b)/\y= .tup [.non,.bl true]:=by
 refine u0 (show Wp (sJ [some (.str T),none,none]) G _ from ?_);refine M8 rfl<| M8 rfl<| d9.mpr<| IU (M9<| M3<| b8 (a:= [.str T]) (G':=G) rfl ⟨rfl,(mW hz h ht).mono ?_⟩) ?_
 ·rintro _ G1 ⟨o,rfl⟩;exact o7<| b8 rfl<| j8<|.inl ⟨o,rfl⟩
 ·intro G1 n;exact K5<| b8 rfl<| o7<| b8 rfl<| j8<|.inr ⟨n,rfl⟩
end
section
variable{r:Nat}{G:DH}{Q:DPP}
theorem cX:∀n<9,tl ("123456789" :Str)= (tl ("123456789" :Str)).take n++(49+n)::(tl ("123456789" :Str)).drop (n+1)/\((tl ("123456789" :Str)).take n).length=n:=by decide
theorem qc:∀n<10,tl ("0123456789" :Str)= (tl ("0123456789" :Str)).take n++(48+n)::(tl ("0123456789" :Str)).drop (n+1)/\((tl ("0123456789" :Str)).take n).length=n:=by decide
theorem Sz{k:Int}(h0:0<=k)(h1:k<9)(q:∀n,0<n->n<10->Q (.str (ofL (dg n))) G):Wp (ixD (.str ("123456789" :Str)) (.int k)) G Q:=by
 obtain⟨n,rfl⟩:=yE h0;obtain⟨e,l⟩:=cX n (by lia);have:=TF (Q:=Q) e (by decide) (by have:=q (1+n) (by lia) (by lia);rw[a8 (by lia)]at this;rw[show 49+n=48+(1+n) by lia];exact this)
 rw[l]at this;exact this
theorem gh{k:Int}(h0:0<=k)(h1:k<10)(q:∀n,n<10->Q (.str (ofL (dg n))) G):Wp (ixD (.str ("0123456789" :Str)) (.int k)) G Q:=by
 obtain⟨n,rfl⟩:=yE h0;obtain⟨e,l⟩:=qc n (by lia);have:=TF (Q:=Q) e (by decide) (by have:=q n (by lia);rw[a8 (by lia)]at this;exact this)
 rw[l]at this;exact this
theorem CO{s:Option D}:∀(items:List D) (m:Nat) (u:Option D) (G:DH),Dr G r->0<m->(dg m).length+items.length<=100->
 Wp (A1 F2 fgB (λ_=>true) items [sRf r,s,some (.str (ofL (dg m))),u]) G λfl G'=>Fd r G G'/\∃m' u',fl= .nx [sRf r,s,some (.str (ofL (dg m'))),u']/\0<m'/\(dg m').length= (dg m).length+items.length
 |[],m,u,G,h,hm,_=>aC.mpr ⟨rfl,Fd.refl h,m,u,rfl,hm,rfl⟩
 |d::t,m,u,G,h,hm,hl=>by
   simp only[zD]at hl;refine GA.mpr ⟨rfl,R8.mpr<| K5<| bin_w<| b8 rfl<| bin_w<| b8 rfl<| j7 (as:= [.ref r,.int 10]) rfl rfl<| D8 h (by decide) λk k0 k1 G1 f1=>gh k0 k1 λn hn=>i8 (by rw[a8 hn];show _+1<=_;lia) ?_⟩;have e:dg m++dg n=dg (m*10+n):=by rw[bR (m:=m*10+n) (by lia),show (m*10+n) / 10=m by lia,show (m*10+n) % 10=n by lia]
   rw[e];have le:(dg (m*10+n)).length= (dg m).length+1:=by rw[<-e,zd,a8 hn];rfl
   refine(CO t (m*10+n) (some d) G1 f1.2.2 (by lia) (by lia)).mono ?_;rintro fl G2 ⟨f2,m',u',e1,h1,h2⟩;exact⟨f1.trans f2,m',u',e1,h1,by rw[h2,le,zD];lia⟩
theorem Cp{size:Nat}(h:Dr G r)(h1:1<=size)(h2:size<=60):Wp (X3 [.ref r,.int size]) G λy G'=>Fd r G G'/\∃m,y= .str (ofL (dg m))/\0<m/\(dg m).length=size:=by
 refine u0 (show Wp (kK [sRf r,some (.int size),none,none]) G _ from ?_);refine d9.mpr<| K5<| bin_w<| b8 rfl<| j7 (as:= [.ref r,.int 9]) rfl rfl<| D8 h (by decide) λk k0 k1 G1 f1=>Sz k0 k1 λn n0 n1=>?_;refine d9.mpr<| dD.mpr<| eK.mpr<| b8 (a:= [.int ((size:Int)-1)]) (G':=G1) rfl<| (KH ⟨by lia,by lia⟩).mpr ?_;have lr:(X6 0 ((size:Int)-1).toNat).length=size-1:=by rw[uK,zE,xT];lia
 have l1:(dg n).length=1:=by rw[a8 n1];rfl
 refine(CO _ n none G1 f1.2.2 n0 (by rw[lr,l1];lia)).mono ?_;rintro _ G2 ⟨f2,m,u,rfl,m0,lm⟩;exact o7<| b8 rfl<| j8 ⟨f1.trans f2,m,rfl,m0,by rw[lm,lr,l1];lia⟩
theorem SZ{m size:Nat}(m0:0<m)(l:(dg m).length=size)(h2:size<=60)(q:Q (.int m) G):Wp (E6 [.str (ofL (dg m))]) G Q:=by have nb:Nb (m:Int):=⟨by lia,by show (dg m).length<=60;lia⟩;have:=tQ (G:=G) nb q;rw[qB]at this;exact this
abbrev eh:List (List Nat):= [gB, [91,93], [123,125]]
structure In0(size:Nat)(t:List Nat)(d:D)(b:Bool):Prop where
 n:Nst (b=true) 0 t d
 e:(b=true/\t∈eh)\/(b=decide (size<=40)/\∃c r,t=c::r/\c≠97/\c≠91/\c≠123)
 l:t.length<=200
theorem KD{a b c:Option D}{i k:Int}(w:Wy)(hi:Nb i)(h1:atI [D.str (ofL (nmL i)),.str (ofL (nmL i++[46,46])),.str (ofL ([46,46]++nmL i)),.str (ofL (nmL i++[46,46]++nmL i)),.str (ofL (nmL i))] k=some (.str (ofL (nwL w i))))(h2:atI [rD (some i,some i),rD (some i,none),rD (none,some i),rD (some i,some i),rD (some i,some i)] k=some (rD (nwR w i)))(q:∀G',Ap G G'->Q (.tup [.str (ofL (nwL w i)),sX (pX [nwR w i] .non .non)]) G'):Wp (iN [a,b,some noD,some (.int k),c,some (.str (ofL (nmL i))),some (.int i),none,none]) G (PB Q):=by
 have bg:=big;have hl:(nmL i).length<=61:=by obtain⟨sg,hs,en,_⟩:=hi.txt;have:=hi.le;rw[en,zd];rcases hs with rfl|rfl<;>simp<;>lia
 refine d9.mpr<| K5<| bin_w<| OD.mpr<| j5<| b8 rfl<| j5<| bin_w<| b8 rfl<| b8 rfl<| i8 (b:= [46,46]) (by show _+2<=_;lia) ?_;refine j5<| bin_w<| b8 rfl<| b8 rfl<| i8 (a:= [46,46]) (by show 2+_<=_;lia) ?_;refine j5<| bin_w<| bin_w<| b8 rfl<| b8 rfl<| i8 (b:= [46,46]) (by show _+2<=_;lia) ?_;refine b8 rfl<| i8 (by rw[zd];show _+2+_<=_;lia) ?_;refine j5<| b8 rfl<| v7.mpr ⟨by show 5<=_;lia,?_⟩;refine b8 (a:=.int k) rfl<| (OA o4).mpr ⟨_,h1,?_⟩;have a1:∀ {o},Ap G (G++[o]):=Ap.one;generalize hG:G++[DO.lst _]=G1;have a1:Ap G G1:=by rw[<-hG];exact Ap.one
 clear hG;refine d9.mpr<| K5<| bin_w<| b8 (a:=.ref G1.length) (G':=G1++[.lst [rD (some i,some i),rD (some i,none),rD (none,some i),rD (some i,some i),rD (some i,some i)]]) rfl<| b8 (a:=.int k) rfl<| (OA o4).mpr ⟨_,h2,?_⟩;exact o7<| b8 rfl<| j8 (q _ (a1.trans Ap.one))
theorem lR{a b c:Option D}{i:Int}{k:Int}(k0:0<=k)(k1:k<=4)(hi:Nb i)(q:∀w G',Ap G G'->Q (.tup [.str (ofL (nwL w i)),sX (pX [nwR w i] .non .non)]) G'):Wp (iN [a,b,some noD,some (.int k),c,some (.str (ofL (nmL i))),some (.int i),none,none]) G (PB Q):=by
 obtain rfl|rfl|rfl|rfl|rfl:k=0\/k=1\/k=2\/k=3\/k=4:=by lia
 ·exact KD .one hi rfl rfl (q _)
 ·exact KD .up hi rfl rfl (q _)
 ·exact KD .dn hi rfl rfl (q _)
 ·exact KD .two hi rfl rfl (q _)
 ·exact KD .one hi rfl rfl (q _)
theorem Fd.of_ap{G':DH}(h:Dr G r)(a:Ap G G'):Fd r G G':=by obtain⟨t,rfl⟩:=a;exact Fd.app h
theorem UT{w:Wy}{i:Int}(hi:Nb i):(nwL w i).length<=200:=by
 have hl:(nmL i).length<=61:=by obtain⟨sg,hs,en,_⟩:=hi.txt;have:=hi.le;rw[en,zd];rcases hs with rfl|rfl<;>simp<;>lia
 cases w<;>simp only[nwL,zd,zD,jK]<;>lia
theorem tP{w:Wy}{i:Int}{size:Nat}(hi:Nb i)(l:(dg i.natAbs).length=size):In0 size (nwL w i) (sX (pX [nwR w i] .non .non)) (decide (size<=40)):=by
 refine⟨.inr ⟨w,i,hi,?_,rfl,rfl⟩,.inr ⟨rfl,?_⟩,UT hi⟩
 ·rw[decide_eq_true_iff,<-l]
 ·obtain⟨c,r,e,hc⟩:=cH i
  cases w with
  |dn=>exact⟨46,_,rfl,by decide,by decide,by decide⟩
  |one=>exact⟨c,r,e,by lia,by lia,by lia⟩
  |up=>exact⟨c,r++[46,46],by show nmL i++_=_;rw[e];rfl,by lia,by lia,by lia⟩
  |two=>exact⟨c,r++[46,46]++nmL i,by show nmL i++_++nmL i=_;rw[e];simp,by lia,by lia,by lia⟩
theorem Dx{size:Nat}(h:Dr G r)(h1:1<=size)(h2:size<=60):Wp (S9 [.ref r,.int size]) G λy G'=>Fd r G G'/\∃t d b,y= .tup [.str (ofL t),d]/\In0 size t d b:=by
 refine u0 (show Wp (fJ [sRf r,some (.int size),none,none,none,none,none,none,none]) G _ from ?_);refine d9.mpr<| K5<| j7 (as:= []) rfl rfl<| b8 (a:=noD) (G':=G) rfl ?_;refine d9.mpr<| K5<| j7 (as:= [.ref r,.int 8]) rfl rfl<| D8 h (by decide) λk k0 k1 G1 f1=>?_;refine d9.mpr<| O7<| J6<| bin_w<| b8 rfl<| b8 rfl<| UA.mpr ⟨_,rfl,λz=>?_,λz=>j6.mpr ?_⟩
 ·have z:=of_decide_eq_true z;refine d9.mpr<| K5<| b8 (a:=.ref G1.length) (G':=G1++[.lst [.tup [.str ("any" :Str),.str ("any" :Str)],.tup [.str ("[]" :Str),lsX [] noD],.tup [.str ("{}" :Str),rsX [] noD]]]) rfl ?_;refine o7<| bin_w<| b8 rfl<| b8 (a:=.int (k-5)) rfl<| (OA o4).mpr ?_;obtain rfl|rfl|rfl:k=5\/k=6\/k=7:=by lia
  ·exact⟨_,rfl,j8 ⟨f1.trans (Fd.app f1.2.2),gB,_,true,rfl,⟨.inl ⟨rfl,.inl ⟨rfl,rfl⟩⟩,.inl ⟨rfl,by decide⟩,by decide⟩⟩⟩
  ·exact⟨_,rfl,j8 ⟨f1.trans (Fd.app f1.2.2), [91,93],_,true,rfl,⟨.inl ⟨rfl,.inr (.inl ⟨rfl,rfl⟩)⟩,.inl ⟨rfl,by decide⟩,by decide⟩⟩⟩
  ·exact⟨_,rfl,j8 ⟨f1.trans (Fd.app f1.2.2), [123,125],_,true,rfl,⟨.inl ⟨rfl,.inr (.inr ⟨rfl,rfl⟩)⟩,.inl ⟨rfl,by decide⟩,by decide⟩⟩⟩
 ·have z:=of_decide_eq_false z;refine d9.mpr<| K5<| j7 (as:= [.ref r,.int size]) rfl rfl<| (Cp f1.2.2 h1 h2).mono ?_;rintro _ G2 ⟨f2,m,rfl,m0,lm⟩;refine d9.mpr<| K5<| D3 (as:= [.str (ofL (dg m))]) rfl<| SZ m0 lm h2 ?_;refine d9.mpr<| O7<| J6<| bin_w<| j7 (as:= [.ref r,.int 2]) rfl rfl<| D8 f2.2.2 (by decide) λk2 _ _ G3 f3=>b8 rfl<| TB.mpr ⟨_,rfl,λ_=>?_,λ_=>j6.mpr ?_⟩
  ·have nb:Nb (-(m:Int)):=⟨by lia,by rw[YA];show (dg m).length<=60;lia⟩;refine d9.mpr<| K5<| bin_w<| b8 rfl<| b8 rfl<| i8 (a:= [45]) (by show 1+_<=_;lia) ?_;refine K5<| b8 (a:=.int (-(m:Int))) rfl ?_;rw[show [45]++dg m=nmL (-(m:Int)) from(WE m m0).symm];refine lR k0 (by lia) nb λw G4 a4=>?_;exact⟨((f1.trans f2).trans f3).trans (Fd.of_ap f3.2.2 a4),_,_,_,rfl,tP nb (by rw[YA];exact lm)⟩
  ·have nb:Nb (m:Int):=⟨by lia,by show (dg m).length<=60;lia⟩;rw[<-qB];refine lR k0 (by lia) nb λw G4 a4=>?_;exact⟨((f1.trans f2).trans f3).trans (Fd.of_ap f3.2.2 a4),_,_,_,rfl,tP nb lm⟩
end
section
variable{r:Nat}{G:DH}{Q:DPP}{b:Prop}
theorem uD{a c t:List Nat}{x y:Str}{σ:DSt}(hx:x=ofL a)(hy:y=ofL c)(e:K9 0 σ G=some (.ok (.str (ofL t)),G))(hl:a.length+t.length+c.length<=100000)(q:Q (.str (ofL (a++t++c))) G):Wp (binE addD (binE addD (cE (.str x)) g0) (cE (.str y)) σ) G Q:=by subst hx hy;exact bin_w<| bin_w<| b8 rfl<| b8 e<| i8 (by lia)<| b8 rfl<| i8 (by rw[zd];lia) q
abbrev ntA:Nat->List Nat
|0=> [91]
|1=> [123,97,58,32]
|2=> [123,46,46,32]
|3=> [91,40]
|4=> [123,98,63,58,32,40]
|_=> [91,46,46,32,40,102,97,108,115,101,32,111,114,32]
abbrev ntZ:Nat->List Nat
|0=> [93]
|1=> [125]
|2=> [125]
|3=> [32,111,114,32,116,114,117,101,41,93]
|4=> [32,111,114,32,34,97,34,41,125]
|_=> [41,93]
theorem six{k:Nat}(h:k<6):k=0\/k=1\/k=2\/k=3\/k=4\/k=5:=by lia
theorem DU{k:Nat}{t:List Nat}(hk:k<6)(hl:t.length<=50000)(q:Q (.str (ofL (ntA k++t++ntZ k))) G):Wp (Q8 [.str (ofL t),.int k]) G Q:=by
 have lA:(ntA k).length<=20:=by obtain rfl|rfl|rfl|rfl|rfl|rfl:=six hk<;>decide
 have lZ:(ntZ k).length<=20:=by obtain rfl|rfl|rfl|rfl|rfl|rfl:=six hk<;>decide
 refine u0 (show Wp (qJ [some (.str (ofL t)),some (.int k)]) G _ from ?_);obtain rfl|rfl|rfl|rfl|rfl|rfl:=six hk
 ·exact d9.mpr<| IB rfl<| o7<| uD (a:=ntA 0) (c:=ntZ 0) rfl rfl rfl (by lia)<| j8 q
 ·exact d9.mpr<| F3 rfl<| j6.mpr<| d9.mpr<| IB rfl<| o7<| uD (a:=ntA 1) (c:=ntZ 1) rfl rfl rfl (by lia)<| j8 q
 ·exact d9.mpr<| F3 rfl<| j6.mpr<| d9.mpr<| F3 rfl<| j6.mpr<| d9.mpr<| IB rfl<| o7<| uD (a:=ntA 2) (c:=ntZ 2) rfl rfl rfl (by lia)<| j8 q
 ·exact d9.mpr<| F3 rfl<| j6.mpr<| d9.mpr<| F3 rfl<| j6.mpr<| d9.mpr<| F3 rfl<| j6.mpr<| d9.mpr<| IB rfl<| o7<| uD (a:=ntA 3) (c:=ntZ 3) rfl rfl rfl (by lia)<| j8 q
 ·exact d9.mpr<| F3 rfl<| j6.mpr<| d9.mpr<| F3 rfl<| j6.mpr<| d9.mpr<| F3 rfl<| j6.mpr<| d9.mpr<| F3 rfl<| j6.mpr<| d9.mpr<| IB rfl<| o7<| uD (a:=ntA 4) (c:=ntZ 4) rfl rfl rfl (by lia)<| j8 q
 ·exact d9.mpr<| F3 rfl<| j6.mpr<| d9.mpr<| F3 rfl<| j6.mpr<| d9.mpr<| F3 rfl<| j6.mpr<| d9.mpr<| F3 rfl<| j6.mpr<| d9.mpr<| F3 rfl<| j6.mpr<| o7<| uD (a:=ntA 5) (c:=ntZ 5) rfl rfl rfl (by lia)<| j8 q
theorem HW{n k:Nat}{t:List Nat}{d:D}(h:Nst b n t d)(hk:k<6)(h3:t=gB->k<3):∃d',R4 [d,.int k] G=some (.ok d',G)/\Nst b (n+1) (ntA k++t++ntZ k) d':=by
 have hb:3<=k->∃ns l k,d=sX (pX ns l k)/\OkX (pX ns l k)/\NeX (pX ns l k):=λz=>by
  obtain⟨_,_,⟨_,_,e,_⟩|⟨ns,l,k,e,a,b,_⟩⟩:=LA h
  ·have:=h3 e;lia
  ·exact⟨ns,l,k,e,a,b⟩
 obtain rfl|rfl|rfl|rfl|rfl|rfl:=six hk
 ·exact⟨lsX [d] noD,rfl,t,d,.inl h,.fr⟩
 ·refine⟨rsX [.tup [.str ⟨#[97]⟩,.bl true,d]] noD,rfl,t,d,.inl h,?_⟩;have:=Out.fd (u:=t) (e:=d) (c:=97) true (by decide);rw[show [123]++([97]++cMu true++t)++[125]= [123,97,58,32]++t++[125] by simp<;>rfl]at this;exact this
 ·refine⟨rsX [] d,rfl,t,d,.inl h,?_⟩;have:=Out.rm (u:=t) (e:=d);rw[show [123]++(cDd++t)++[125]= [123,46,46,32]++t++[125] by simp<;>rfl]at this;exact this
 ·obtain⟨ns,l,k,rfl,ok,ne⟩:=hb (by decide);refine⟨lsX [sX ⟨⟨ns,true, [],false,true⟩,l,k⟩] noD,rfl,brL t cT,_,.inr ⟨t,ns,l,k,h,ok,ne,.inl ⟨rfl,(congrArg sX mB).symm⟩⟩,?_⟩;have:=Out.fr (u:=brL t cT) (e:=sX ⟨⟨ns,true, [],false,true⟩,l,k⟩);rw[show [91]++(brL t cT)++[93]= [91,40]++t++[32,111,114,32,116,114,117,101,41,93] by simp<;>rfl]at this;exact this
 ·obtain⟨ns,l,k,rfl,ok,ne⟩:=hb (by decide);refine⟨rsX [.tup [.str ⟨#[98]⟩,.bl false,sX ⟨⟨ns,true, ["a"],false,false⟩,l,k⟩]] noD,rfl,brL t qA,_,.inr ⟨t,ns,l,k,h,ok,ne,.inr (.inl ⟨rfl,(congrArg sX mB).symm⟩)⟩,?_⟩;have:=Out.fd (u:=brL t qA) (e:=sX ⟨⟨ns,true, ["a"],false,false⟩,l,k⟩) (c:=98) false (by decide);rw[show [123]++([98]++cMu false++brL t qA)++[125]= [123,98,63,58,32,40]++t++[32,111,114,32,34,97,34,41,125] by simp<;>rfl]at this;exact this
 ·obtain⟨ns,l,k,rfl,ok,ne⟩:=hb (by decide);refine⟨lsX [] (sX ⟨⟨ns,true, [],true,false⟩,l,k⟩),rfl,brL cF t,_,.inr ⟨t,ns,l,k,h,ok,ne,.inr (.inr ⟨rfl,(congrArg sX KG).symm⟩)⟩,?_⟩;have:=Out.lm (u:=brL cF t) (e:=sX ⟨⟨ns,true, [],true,false⟩,l,k⟩);rw[show [91]++(cDd++brL cF t)++[93]= [91,46,46,32,40,102,97,108,115,101,32,111,114,32]++t++[41,93] by simp<;>rfl]at this;exact this
theorem PDx.up:∀ {n:Nat} {d:D},PDx n d->PDx (n+1) d
|0,_,h=>h.elim
|n+1,d,h=>h.imp id<|.imp id<|.imp id<|.imp id fun⟨l,e,hl,k⟩=>⟨l,e,hl,λx hx=>(k x hx).up⟩
theorem PDx.le{n m:Nat}{d:D}(h:PDx n d)(k:n<=m):PDx m d:=by
 induction k with
 |refl=>exact h
 |step _ ih=>exact ih.up
theorem x5{n:Nat}{l:List D}(hl:l.length<=1000)(h:∀x∈l,PDx n x):PDx (n+1) (.tup l):=.inr (.inr (.inr (.inr ⟨l,rfl,hl,h⟩)))
theorem fF{n:Nat}{z:Str}:PDx (n+1) (.str z):=.inr (.inr (.inr (.inl ⟨z,rfl⟩)))
theorem NH{n:Nat}{z:Bool}:PDx (n+1) (.bl z):=.inr (.inl ⟨z,rfl⟩)
theorem FP{n:Nat}{a:Option Int}:PDx (n+1) (P5 a):=by
 cases a with
 |none=>exact .inl rfl
 |some i=>exact .inr (.inr (.inl ⟨i,rfl⟩))
theorem MD{m:Nat}{ns:List Rg}{ts:List Str}{f t:Bool}{l k:D}(hm:3<=m)(hn:ns.length<=1)(ht:ts.length<=1)(hl:PDx m l)(hk:PDx m k):PDx (m+1) (sX ⟨⟨ns,true,ts,f,t⟩,l,k⟩):=by
 obtain⟨m,rfl⟩:∃j,m=j+1+1+1:=⟨m-3,by lia⟩;have h1:∀r∈rsD ns,PDx (m+1+1) r:=λr hr=>by
  obtain⟨p,_,rfl⟩:=ZY.mp hr;refine x5 (show 2<=1000 by decide) λx hx=>?_;rcases zk.mp hx with rfl|hx
  ·exact FP
  ·rw[zt.mp hx];exact FP
 have h2:∀z∈ts.map D.str,PDx (m+1) z:=λz hz=>by obtain⟨s,_,rfl⟩:=ZY.mp hz;exact fF
 have h3:∀x∈(if f then [D.bl false]else [])++(if t then [D.bl true]else []),PDx (m+1+1) x:=λx hx=>by
  rcases jr.mp hx with h|h
  ·cases f
   ·cases h
   ·rw[zt.mp h];exact NH
  ·cases t
   ·cases h
   ·rw[zt.mp h];exact NH
 refine x5 (show 5<=1000 by decide) λx hx=>?_;rcases zk.mp hx with rfl|hx
 ·exact x5 (by rw[show (rsD ns).length=ns.length from zE ..];lia) h1
 rcases zk.mp hx with rfl|hx
 ·refine x5 (show 2<=1000 by decide) λx hx=>?_;rcases zk.mp hx with rfl|hx
  ·exact fF
  ·rw[zt.mp hx];exact x5 (by rw[zE];lia) h2
 rcases zk.mp hx with rfl|hx
 ·exact x5 (by cases f<;>cases t<;>first|exact jl _|exact(show 1<=1000 by decide)|exact(show 2<=1000 by decide)) h3
 rcases zk.mp hx with rfl|hx
 ·exact hl
 ·rw[zt.mp hx];exact hk
def PdX(m:Nat)(d:D):Prop:=d= .str ("any" :Str)\/∃ns l k,d=sX (pX ns l k)/\ns.length<=1/\PDx m l/\PDx m k
theorem PdX.pd{m:Nat}{d:D}(hm:3<=m)(h:PdX m d):PDx (m+1) d:=by
 rcases h with rfl|⟨ns,l,k,rfl,hn,hl,hk⟩
 ·exact fF
 ·exact MD hm hn (jl _) hl hk
theorem gK{n:Nat}:PDx (n+1+1+1) noD:=by
 have z:∀ {m:Nat},PDx (m+1) (.tup []):=x5 (jl _) λx hx=>nomatch hx;refine x5 (show 5<=1000 by decide) λx hx=>?_;rcases zk.mp hx with rfl|hx
 ·exact z
 rcases zk.mp hx with rfl|hx
 ·refine x5 (show 2<=1000 by decide) λx hx=>?_;rcases zk.mp hx with rfl|hx
  ·exact fF
  ·rw[zt.mp hx];exact z
 rcases zk.mp hx with rfl|hx
 ·exact z
 rcases zk.mp hx with rfl|hx
 ·exact .inl rfl
 ·rw[zt.mp hx];exact .inl rfl
theorem Lb{N:List Nat->D->Prop}{m:Nat}(hm:3<=m)(hN:∀t d,N t d->PdX m d){u:List Nat}{e:D}(h:Inn N u e):PDx (m+1) e:=by
 rcases h with h|⟨t,ns,l,k,ht,ok,ne,hc⟩
 ·exact(hN _ _ h).pd hm
 ·have:ns.length<=1:=by
   rcases ok.n with e|⟨r,e,_⟩
   ·rw[show ns= []from e];decide
   ·rw[show ns= [r]from e];exact zg _
  have pl:PDx m l/\PDx m k:=by
   rcases hN _ _ ht with e|⟨ns',l',k',e,_,hl,hk⟩
   ·cases e
   ·have e:=D.tup.inj e;have e:=(jw (jw (jw (jw e).2).2).2);have e1:l=l':=e.1;have e2:k=k':=(jw e.2).1;rw[e1,e2];exact⟨hl,hk⟩
  rcases hc with⟨_,rfl⟩|⟨_,rfl⟩|⟨_,rfl⟩
  ·rw[mB];exact MD hm this (by decide) pl.1 pl.2
  ·rw[mB];exact MD hm this (zg 1) pl.1 pl.2
  ·rw[KG];exact MD hm this (by decide) pl.1 pl.2
theorem cA{m:Nat}{x y:D}(hx:PDx m x)(hy:PDx m y):PDx (m+1) (.tup [x,y]):=x5 (show 2<=1000 by decide) λz hz=>by
 rcases zk.mp hz with rfl|hz
 ·exact hx
 ·rw[zt.mp hz];exact hy
theorem VG{m:Nat}:PDx (m+1) (.tup []):=x5 (jl _) λx hx=>nomatch hx
theorem qR{m:Nat}{x:D}(hx:PDx m x):PDx (m+1) (.tup [x]):=x5 (show 1<=1000 by decide) λz hz=>by rw[zt.mp hz];exact hx
theorem AK:∀ {n:Nat} {t:List Nat} {d:D},Nst b n t d->PdX (4*n+4) d
|0,t,d,h=>by
  rcases h with⟨_,⟨_,rfl⟩|⟨_,rfl⟩|⟨_,rfl⟩⟩|⟨w,i,_,_,_,rfl⟩
  ·exact .inl rfl
  ·exact .inr ⟨_,_,_,rfl,by decide,cA VG gK,.inl rfl⟩
  ·exact .inr ⟨_,_,_,rfl,by decide,.inl rfl,cA VG gK⟩
  ·exact .inr ⟨_,_,_,rfl,zg 1,.inl rfl,.inl rfl⟩
|n+1,t,d,⟨u,e,hi,ho⟩=>by
  have pe:PDx (4*n+5) e:=Lb (by lia) (λt d h=>AK h) hi;have p7:PDx (4*n+5) s7:=PDx.le (n:=4) (MD (m:=3) (ns:= [(some 7,some 7)]) (ts:= []) (f:=false) (t:=false) (l:=.non) (k:=.non) (by decide) (by decide) (by decide) (.inl rfl) (.inl rfl)) (by lia);have no:PDx (4*n+5+1) noD:=PDx.le (n:=3) gK (by lia);have le:4*(n+1)+4=4*n+5+1+1+1:=by lia
  show PdX (4*(n+1)+4) d;rw[le]
  cases ho with
  |fr=>exact .inr ⟨_,_,_,rfl,by decide,PDx.up (cA (qR pe) no),.inl rfl⟩
  |sv=>exact .inr ⟨_,_,_,rfl,by decide,PDx.up (cA (cA p7 pe) no),.inl rfl⟩
  |lm=>exact .inr ⟨_,_,_,rfl,by decide,PDx.up (PDx.up (cA VG pe)),.inl rfl⟩
  | fd must hc => exact .inr ⟨_, _, _, rfl, by decide, .inl rfl, cA (qR (x5 (show 3 <= 1000 by decide) λx hx => by
     rcases zk.mp hx with rfl|hx
     ·exact fF
     rcases zk.mp hx with rfl|hx
     ·exact NH
     ·rw[zt.mp hx];exact pe)) no.up⟩
  |rm=>exact .inr ⟨_,_,_,rfl,by decide,.inl rfl,PDx.up (PDx.up (cA VG pe))⟩
end
section
variable{r:Nat}{G:DH}{b:Bool}{p0:Option D}
abbrev okB(k:Nat)(b:Bool):Bool:=decide (k<20)&&b
theorem wN{T:Str}(hz:T.length<=zi){n:Nat}{t:List Nat}{d:D}(h:Nst (b=true) (n+1) t d)(ht:tl T=t):Wp (T3 [.str T]) G λy _=>y= .tup [if okB (n+1) b then d else .non,.bl (!okB (n+1) b)]:=by
 refine(mq hz h ht).mono ?_;have e:(n+2<=20/\b=true)↔okB (n+1) b=true:=by show _↔(decide (n+1<20)&&b)=true;rw[zS,decide_eq_true_iff];exact⟨λh=>⟨by lia,h.2⟩,λh=>⟨by lia,h.2⟩⟩
 rintro y _ (⟨o,rfl⟩|⟨o,rfl⟩)
 ·rw[e.mp o,if_pos rfl];rfl
 ·rw[jO.mpr λz=>o (e.mpr z),if_neg zw];rfl
theorem IQ{σ:DSt}{j:Nat}{d:D}{o:Bool}{Q:DPP}(h10:K9 10 σ=λG=>some (.ok (if o then d else .non),G))(h9:K9 9 σ=λG=>some (.ok (.bl o),G))(hj:K9 j σ=λG=>some (.ok d,G))(pd:o=true->PDx 90 d)(q:∀G',Ap G G'->Q (.bl true) G'):Wp (D0 (fnX 2 FE) (I0 (K9 10) (ixE (E1 (I0 A0 (K9 j))) (M0 E6 LD))) σ) G Q:=by
 refine R6<| j5<| b8 (congrFun h10 _)<| j5<| bin_w<| OD.mpr<| j5<| b8 rfl<| j5<| b8 (congrFun hj _)<| v7.mpr ⟨sz,?_⟩;refine R6<| j5<| b8 (congrFun h9 _)<| v7.mpr ?_
 cases o with
 |true=>
   refine b8 (a:=.int 1) rfl<| (OA o4).mpr ⟨d,rfl,v7.mpr<| W8.mpr ⟨rfl,b8 (wK (pd rfl) (zg _)) (q _ Ap.one)⟩⟩
 |false=>
   refine b8 (a:=.int 0) rfl<| (OA o4).mpr ⟨.non,rfl,v7.mpr<| W8.mpr ⟨rfl,b8 (wK (n:=1) (.inl rfl) (by decide)) (q _ Ap.one)⟩⟩
abbrev lST(p0 s k kd:Option D)(r:Nat)(m:Int)(t:List Nat)(d:D)(b:Bool)(x9 x10 x11:Option D):DSt:= [p0,sRf r,s,some (.int m),some (.str (ofL t)),some d,some (.bl b),k,kd,x9,x10,x11,none,none]
theorem rO{m c:Int}{σ:DSt}{Q:DPP}(h3:K9 3 σ=λG=>some (.ok (.int m),G))(h6:K9 6 σ=λG=>some (.ok (.bl b),G))(q:Q (.bl (decide (m<c)&&b)) G):Wp (W6 (binE ltD F0 (cE (.int c))) i3 σ) G Q:=by
 refine nH.mpr<| bin_w<| b8 (congrFun h3 _)<| b8 rfl<| lt_int.mpr<| M6.mpr ?_;by_cases h:m<c
 ·rw[decide_eq_true h,Bool.true_and]at q;rw[decide_eq_true h,if_pos rfl];exact b8 (congrFun h6 _) q
 ·rw[decide_eq_false h,Bool.false_and]at q;rw[decide_eq_false h,if_neg zw];exact q
theorem gw{s k kd x10 x11:Option D}{o:Bool}{n:Nat}{t:List Nat}{d:D}(h:Nst (b=true) (n+1) t d)(hl:t.length<=5000):Wp (lV (lST p0 s k kd r ((n+1:Nat):Int) t d b (some (.bl o)) x10 x11)) G (PB λy _=>y= .bl true):=by
 have bg:=big;have h2:Nst (b=true) (n+2) ([91,55,44,32]++t++[93]) (lsX [s7,d] noD):=⟨t,d,.inl h,by
  have:=Out.sv (u:=t) (e:=d);rw[show [91]++([55]++cCm++t)++[93]= [91,55,44,32]++t++[93] by simp]at this;exact this⟩
 have zl:(ofL ([91,55,44,32]++t++[93])).length<=zi:=by rw[<-F6,DF,zd,zd];show 4+_+1<=_;lia
 refine d9.mpr<| N9.mpr<| R6<| j5<| bin_w<| bin_w<| b8 rfl<| b8 rfl<| i8 (a:= [91,55,44,32]) (by show 4+_<=_;lia) ?_;refine b8 rfl<| i8 (b:= [93]) (by rw[zd];show 4+_+1<=_;lia) ?_;refine v7.mpr<| W8.mpr ⟨rfl,(wN zl h2 rfl).mono ?_⟩;rintro _ G1 rfl;have pd:okB (n+2) b=true->PDx 90 (lsX [s7,d] noD):=λz=>by have z:=(Ze.mp z).1;have z:=of_decide_eq_true z;exact((AK h2).pd (by lia)).le (by lia)
 have hb:(decide (((n+1:Nat):Int)<19)&&b)=okB (n+2) b:=by show _= (decide (n+2<20)&&b);rw[show decide (((n+1:Nat):Int)<19)=decide (n+2<20)from decide_eq_decide.mpr (by lia)]
 generalize okB (n+2) b=ok at pd hb ⊢;refine b8 (a:=lST p0 s k kd r ((n+1:Nat):Int) t d b (some (.bl o)) (some (if ok then lsX [s7,d] noD else .non)) (some (.bl (!ok)))) (G':=G1) rfl ?_;refine d9.mpr<| K5<| rO rfl rfl ?_;rw[hb];refine d9.mpr<| K5<| b8 (a:=s7) (G':=G1) rfl ?_;refine d9.mpr<| K5<| b8 (a:=lsX [s7,d] noD) (G':=G1) rfl ?_;refine o7<| nH.mpr<| bin_w<| b8 rfl<| b8 rfl<| AU.mpr<| M6.mpr ?_;rw[show (!((!ok)==ok))=true by cases ok<;>rfl,if_pos rfl];exact IQ rfl rfl rfl pd λG' _=>j8 rfl
theorem Nk{s k kd:Option D}{n:Nat}{t:List Nat}{d:D}(h:Nst (b=true) (n+1) t d)(hl:t.length<=5000):Wp (lU (lST p0 s k kd r ((n+1:Nat):Int) t d b none none none)) G (PB λy _=>y= .bl true):=by
 have bg:=big;have zl:(ofL t).length<=zi:=by rw[<-F6,DF];lia
 have pd:okB (n+1) b=true->PDx 90 d:=λz=>by have z:=(Ze.mp z).1;have z:=of_decide_eq_true z;exact((AK h).pd (by lia)).le (by lia)
 have hb:(decide (((n+1:Nat):Int)<20)&&b)=okB (n+1) b:=by show _= (decide (n+1<20)&&b);rw[show decide (((n+1:Nat):Int)<20)=decide (n+1<20)from decide_eq_decide.mpr (by lia)]
 refine d9.mpr<| K5<| rO rfl rfl ?_;rw[hb];refine d9.mpr<| N9.mpr<| j7 (as:= [.str (ofL t)]) rfl rfl<| (wN zl h rfl).mono ?_;rintro _ G1 rfl;generalize okB (n+1) b=ok at pd hb ⊢;refine b8 (a:=lST p0 s k kd r ((n+1:Nat):Int) t d b (some (.bl ok)) (some (if ok then d else .non)) (some (.bl (!ok)))) (G':=G1) rfl ?_;refine d9.mpr<| O7<| FA<| J6<| bin_w<| b8 rfl<| b8 rfl<| wk.mpr ⟨_,rfl,λz=>?_,λ_=>?_⟩
 ·cases ok<;>cases z
 ·refine X8.mpr<| W3.mpr<| IQ rfl rfl rfl pd λG2 _=>M6.mpr ⟨λz=>(nomatch z),λ_=>j6.mpr ?_⟩;exact gw h hl
end
section
variable{r:Nat}{G:DH}{b:Bool}{p0 s:Option D}{m:Int}
theorem wL:∀(items:List D) (n:Nat) (t:List Nat) (d:D) (u v:Option D) (G:DH),Dr G r->Nst (b=true) n t d->t.length+40*items.length<=5000->
 Wp (A1 VC lB (λ_=>true) items (lST p0 s u v r m t d b none none none)) G λfl _=>∃t' d' u' v',fl= .nx (lST p0 s u' v' r m t' d' b none none none)/\Nst (b=true) (n+items.length) t' d'/\t'.length<=5000
 |[],n,t,d,u,v,G,h,hn,hl=>aC.mpr ⟨rfl,t,d,u,v,rfl,hn,by simp at hl;lia⟩
 |i::items,n,t,d,u,v,G,h,hn,hl=>by
   simp only[zD]at hl;have go:∀(k:Nat) (G1:DH),Dr G1 r->k<6->(t=gB->k<3)->Wp (m5 (J4 (K0 Q8 L0 IC) i5) (J4 (K0 R4 C2 IC) aA) (lST p0 s (some i) (some (.int (k:Int))) r m t d b none none none)) G1 λfl G2=>match fl with
    | .nx X1=>Wp (A1 VC lB (λ_=>true) items X1) G2 λfl _=>∃t' d' u' v',fl= .nx (lST p0 s u' v' r m t' d' b none none none)/\Nst (b=true) (n+(items.length+1)) t' d'/\t'.length<=5000
    | .ct X1=>Wp (A1 VC lB (λ_=>true) items X1) G2 λfl _=>∃t' d' u' v',fl= .nx (lST p0 s u' v' r m t' d' b none none none)/\Nst (b=true) (n+(items.length+1)) t' d'/\t'.length<=5000
    | .bk X1=>∃t' d' u' v',Fl.nx X1= .nx (lST p0 s u' v' r m t' d' b none none none)/\Nst (b=true) (n+(items.length+1)) t' d'/\t'.length<=5000
    | .rt e=>∃t' d' u' v',Fl.rt e= .nx (lST p0 s u' v' r m t' d' b none none none)/\Nst (b=true) (n+(items.length+1)) t' d'/\t'.length<=5000:=λk G1 h1 k6 k3=>by
    obtain⟨d',e,hn'⟩:=HW (G:=G1) hn k6 k3;refine d9.mpr<| K5<| j7 (as:= [.str (ofL t),.int k]) rfl rfl<| DU k6 (by lia) ?_;refine K5<| j7 (as:= [d,.int k]) rfl rfl<| b8 e ?_;have ll:(ntA k++t++ntZ k).length<=t.length+40:=by
     have lA:(ntA k).length<=20:=by obtain rfl|rfl|rfl|rfl|rfl|rfl:=six k6<;>decide
     have lZ:(ntZ k).length<=20:=by obtain rfl|rfl|rfl|rfl|rfl|rfl:=six k6<;>decide
     rw[zd,zd];lia
    have:=wL items (n+1) (ntA k++t++ntZ k) d' (some i) (some (.int (k:Int))) G1 h1 hn' (by lia);rw[show n+1+items.length=n+(items.length+1) by lia]at this;exact this
   refine GA.mpr ⟨rfl,R8.mpr ?_⟩;refine d9.mpr<| K5<| j7 (as:= [.ref r,.int 6]) rfl rfl<| D8 h (by decide) λk k0 k1 G1 f1=>?_;obtain⟨k,rfl⟩:=yE k0;refine d9.mpr<| O7<| J6<| bin_w<| b8 rfl<| b8 rfl<| eS.mpr ⟨_,rfl,λz=>?_,λz=>j6.mpr ?_⟩
   ·refine K5<| bin_w<| b8 rfl<| b8 rfl<| (Z1 (by decide)).mpr ?_;have:((k:Int) % 3)= ((k % 3:Nat):Int):=by lia
    rw[this];exact go (k % 3) G1 f1.2.2 (by lia) λ_=>by lia
   ·exact go k G1 f1.2.2 (by lia) λe=>by subst e;cases z
theorem bW{k:Nat}{t:List Nat}{d:D}(h:Dr G r)(hn:Nst (b=true) 0 t d)(hl:t.length<=200)(k1:1<=k)(k2:k<=40):Wp (lS (lST p0 s none none r k t d b none none none)) G (PB λy _=>y= .bl true):=by
 refine d9.mpr<| dD.mpr<| eK.mpr<| b8 (a:= [.int (k:Int)]) (G':=G) rfl<| (KH ⟨by lia,by lia⟩).mpr ?_;have lr:(X6 0 (k:Int).toNat).length=k:=by rw[uK,zE,xT];lia
 refine(wL _ 0 t d none none G h hn (by rw[lr];lia)).mono ?_;rintro _ G1 ⟨t',d',u,v,rfl,hn',hl'⟩;obtain⟨n,rfl⟩:∃n,k=n+1:=⟨k-1,by lia⟩;rw[lr,JQ]at hn';exact Nk hn' hl'
theorem Fj{z:Str}:DL.inB (.str z) (.tup [.str ("any" :Str),.str ("[]" :Str),.str ("{}" :Str)]) G=some (inV (.str z) [.str ("any" :Str),.str ("[]" :Str),.str ("{}" :Str)]):=rfl
theorem Qw{size:Nat}{t:List Nat}{d:D}(h:In0 size t d b)(hs:¬(size:Int)<=40):DL.inB (.str (ofL t)) (.tup [.str ("any" :Str),.str ("[]" :Str),.str ("{}" :Str)]) G=some b:=by
 rcases h.e with⟨rfl,he⟩|⟨rfl,c,r,rfl,h1,h2,h3⟩
 ·rcases zk.mp he with rfl|he
  ·rfl
  rcases zk.mp he with rfl|he
  ·rfl
  ·rw[zt.mp he];rfl
 ·rw[Fj,decide_eq_false (by lia)];have ne:∀ {p:Str} {a:Nat} {l:List Nat},tl p=a::l->c≠a->eqV (.str p) (.str (ofL (c::r)))=false:=λ{p a l} e k=>by
   show (p==ofL (c::r))=false;rw[beq_eq_false_iff_ne];intro z;rw[z]at e;exact k (jw e).1
  show some ((eqV _ _)||((eqV _ _)||((eqV _ _)||false)))=some false;rw[ne (p:=("any" :Str)) rfl h1,ne (p:=("[]" :Str)) rfl h2,ne (p:=("{}" :Str)) rfl h3];rfl
theorem KY:QF=m5 (J4 (K2 T5 g0) U1) (asQ (ixE (E1 (uH x0 (cIn 40) (cIn 41) (cIn 39))) (K0 o9 l0 E5)) S0 (m5 (ifS (tBn eqD (K0 o9 l0 i4) C1) (J4 (binE addD x0 (K0 o9 l0 (cIn 60))) S0) v4) lP)):=rfl
theorem pM{size k:Nat}(h3:Dr G r)(s1:1<=size)(s2:size<=60)(k1:1<=k)(k2:k<=40):Wp (lQ [p0,sRf r,some (.int size),some (.int k),none,none,none,none,none,none,none,none,none,none]) G (PB λy _=>y= .bl true):=by
 refine d9.mpr<| N9.mpr<| j7 (as:= [.ref r,.int size]) rfl rfl<| (Dx h3 s1 s2).mono ?_;rintro _ G4 ⟨f4,t,d,b,rfl,i0⟩;refine b8 (a:= [p0,sRf r,some (.int size),some (.int k),some (.str (ofL t)),some d,none,none,none,none,none,none,none,none]) (G':=G4) rfl ?_;have sh:Wp (rC (binE leD o0 (cIn 40)) (binE inD L0 (B8 (cSt "any") (cSt "[]") (cSt "{}"))) [p0,sRf r,some (.int size),some (.int k),some (.str (ofL t)),some d,none,none,none,none,none,none,none,none]) G4 λy G'=>y= .bl b/\G'=G4:=by
  refine GH.mpr<| b8 (a:=.bl (decide ((size:Int)<=40))) (G':=G4) rfl<| M6.mpr ?_;by_cases hs:(size:Int)<=40
  ·rw[decide_eq_true hs,if_pos rfl];refine⟨?_,rfl⟩;rcases i0.e with⟨rfl,_⟩|⟨rfl,_⟩
   ·rfl
   ·rw[decide_eq_true (show size<=40 by lia)]
  ·rw[decide_eq_false hs,if_neg zw];exact bin_w<| b8 (a:=.str (ofL t)) rfl<| b8 (a:=.tup [.str ("any" :Str),.str ("[]" :Str),.str ("{}" :Str)]) rfl<| wf.mpr ⟨b,Qw i0 hs,rfl,rfl⟩
 refine d9.mpr<| K5<| sh.mono ?_;rintro _ _ ⟨rfl,rfl⟩;exact bW f4.2.2 i0.n i0.l k1 k2
theorem uR{size:Nat}(h2:Dr G r)(s1:1<=size)(s2:size<=60):Wp (lP [p0,sRf r,some (.int size),none,none,none,none,none,none,none,none,none,none,none]) G (PB λy _=>y= .bl true):=by
 refine d9.mpr<| K5<| bin_w<| b8 (a:=.ref G.length) (G':=G++[.lst [.int 19,.int 20,.int 1,.int 18]]) rfl ?_;refine j7 (as:= [.ref r,.int 4]) rfl rfl ?_;refine CN h2 rfl (by decide) ?_;intro x hx G3 f3;obtain⟨k,rfl,k1,k2⟩:∃k:Nat,x= .int k/\1<=k/\k<=40:=by
  simp only[zk,jm,or_false]at hx;rcases hx with rfl|rfl|rfl|rfl
  ·exact⟨19,rfl,by decide,by decide⟩
  ·exact⟨20,rfl,by decide,by decide⟩
  ·exact⟨1,rfl,by decide,by decide⟩
  ·exact⟨18,rfl,by decide,by decide⟩
 refine d9.mpr<| O7<| J6<| bin_w<| j7 (as:= [.ref r,.int 2]) rfl rfl<| D8 f3.2.2 (by decide) λj _ _ G4 f4=>b8 rfl<| TB.mpr ⟨_,rfl,λ_=>?_,λ_=>j6.mpr (pM f4.2.2 s1 s2 k1 k2)⟩;refine K5<| bin_w<| b8 rfl<| j7 (as:= [.ref r,.int 40]) rfl rfl<| D8 f4.2.2 (by decide) λj j0 j1 G5 f5=>pD.mpr ?_;obtain⟨j,rfl⟩:=yE j0;rw[show (1:Int)+((j:Nat):Int)= ((1+j:Nat):Int) by lia];exact pM f5.2.2 s1 s2 (by lia) (by lia)
theorem IV(ns:List Int)(hn:ns.length<=63):Wp (KJ [.ref 0]) [.rol (ns.map D.int)] λy _=>y= .bl true:=by
 refine u0 (show Wp (QF [sRf 0,none,none,none,none,none,none,none,none,none,none,none,none,none]) _ _ from ?_);rw[KY];refine d9.mpr<| K5<| j7 (as:= [.ref 0]) rfl rfl<| (Rh rfl hn).mono ?_;rintro _ G1 ⟨r,rfl,h1,_⟩;refine d9.mpr<| K5<| bin_w<| b8 (a:=.ref G1.length) (G':=G1++[.lst [.int 1,.int 40,.int 41,.int 39]]) rfl ?_;refine j7 (as:= [.ref r,.int 4]) rfl rfl ?_;refine CN h1 rfl (by decide) ?_;intro x hx G3 f3;obtain⟨k,rfl,k1,k2⟩:∃k:Nat,x= .int k/\1<=k/\k<=60:=by
  simp only[zk,jm,or_false]at hx;rcases hx with rfl|rfl|rfl|rfl
  ·exact⟨1,rfl,by decide,by decide⟩
  ·exact⟨40,rfl,by decide,by decide⟩
  ·exact⟨41,rfl,by decide,by decide⟩
  ·exact⟨39,rfl,by decide,by decide⟩
 refine d9.mpr<| O7<| J6<| bin_w<| j7 (as:= [.ref r,.int 3]) rfl rfl<| D8 f3.2.2 (by decide) λj _ _ G4 f4=>b8 rfl<| TB.mpr ⟨_,rfl,λ_=>?_,λ_=>j6.mpr (uR f4.2.2 k1 k2)⟩;refine K5<| bin_w<| b8 rfl<| j7 (as:= [.ref r,.int 60]) rfl rfl<| D8 f4.2.2 (by decide) λj j0 j1 G5 f5=>pD.mpr ?_;obtain⟨j,rfl⟩:=yE j0;rw[show (1:Int)+((j:Nat):Int)= ((1+j:Nat):Int) by lia];exact uR f5.2.2 (by lia) (by lia)
theorem pure_law:∀ns:List Int,ns.length<=63->∃G',KJ [.ref 0] [.rol (ns.map D.int)]=some (.ok (.bl true),G'):=λns hn=>by obtain⟨d,G',e,rfl⟩:=IV ns hn;exact⟨G',e⟩
end
end W
namespace PySem.W.Fast
def tw14437226923597308416:=()
def tw15710807585573228817:=()
def tw5652934617034819982:=()
def tw5662601097790542981:=()
def tw6887618719502078572:=()
def tw7640328265071687615:=()
def tw17547323975919058765:=()
def tw15460973562933401313:=()
def tw9451720913630591381:=()
def tw13977549382189184591:=()
def tw16892607578798674083:=()
def tw8149670807931841918:=()
def tw7244656357823433326:=()
def tw16195097161030315168:=()
def tw8440114645314430186:=()
def tw8348974425621661413:=()
def tw3887361884787303485:=()
def tw17627040901175243755:=()
def tw16147796337192120215:=()
def tw8378783337832192204:=()
def tw10795348418288710097:=()
def tw9348414453156804918:=()
def tw10156434026197749428:=()
def tw14320763475881547701:=()
def tw16402931030783862771:=()
def tw15531501961535466051:=()
def tw16416573682782631186:=()
def tw15870328825594223321:=()
def tw5998565246168662223:=()
def tw12611184988338678111:=()
def tw11052870585876162341:=()
def tw10702158274620325978:=()
def tw11866407402335464356:=()
def tw992940099626660845:=()
def tw6735136281793139597:=()
def tw15604798648616845102:=()
def tw2130729050780517537:=()
def tw14899760572890645030:=()
def tw3652536988611682907:=()
def tw5069183816534397600:=()
def tw1426181661242271179:=()
def tw17150846728702003914:=()
def tw16136293997865836740:=()
def tw10407228722214572847:=()
def tw17617414654918735901:=()
def tw2714166266143994664:=()
def tw7765604896988047814:=()
def tw2598113208888042248:=()
def tw5244827922474582964:=()
def tw11552637919220365537:=()
def tw1510636174318394413:=()
def tw9751543180596654698:=()
def tw12428352813983294186:=()
def tw1286786369463224261:=()
def tw9414221837839074150:=()
def tw1794730620033767435:=()
def tw15243682629745763211:=()
def tw3669798821364427624:=()
def tw14814295458988317407:=()
def tw15062028162594391232:=()
def tw17241478713984031290:=()
def tw8644195825410870233:=()
def tw7910449121139996445:=()
def tw4571604521610078677:=()
def tw17542028505410032864:=()
def tw9339981106964651320:=()
def tw9744877729918203986:=()
def tw742524586136555900:=()
def tw2924344506371297228:=()
def tw8822472324017123805:=()
def tw10119987235593496853:=()
def tw3212133549048974064:=()
def tw13600440489373324929:=()
def tw17162022416385524356:=()
def tw10880171134638672675:=()
def tw13560103130305104209:=()
def tw148723865559976855:=()
def tw14813245945505041572:=()
def tw11659624479140630217:=()
def tw664801063596460935:=()
def tw2837841671068946295:=()
def tw17447452960680071394:=()
def tw7234623703726747439:=()
def tw2022625007974783706:=()
def tw11987149698620401292:=()
def tw5316616212132152084:=()
def tw12046091585366829140:=()
def tw10517445411734024465:=()
def tw4970853657513184377:=()
def tw8331215076746003257:=()
def tw12320969702347060235:=()
def tw7978389254542925431:=()
def tw8111852623907217292:=()
def tw5170160240215993039:=()
def tw16933893186675175742:=()
def tw12082582817307599975:=()
def tw15680465776284747081:=()
def tw16033188130050070585:=()
def tw12159855596484131495:=()
def tw7969676926654442762:=()
def tw746957722509035364:=()
def tw11223414310259200548:=()
def tw11389103308420697800:=()
def tw5179038447951062510:=()
def tw8468189452418958421:=()
def tw7364072918470890850:=()
def tw7688496941710127365:=()
def tw6030066748502399522:=()
def tw17679228409930174704:=()
def tw15894547196735910541:=()
def tw9327825010344708258:=()
def tw16257460847224025366:=()
def tw5022256340228952742:=()
def tw4981118328198303772:=()
def tw16019550269406085283:=()
end PySem.W.Fast
local macro_rules | `(tactic| walk_at "fh") => `(tactic| first | exact trivial | (refine DL.FHs.c ?q ?b; (case q => refine' DL.FH.of ?a ?l ?e ?k; (case a => k_is); (case l => k_is); (case e => k_is); (case k => k_is)); (case b => walk_at "fh")))
local macro_rules | `(tactic| walk_at "cr") => `(tactic| first | exact DL.cr_str | exact DL.cr_int | exact DL.cr_bl | exact DL.cr_non | (refine' DL.cr_tup ?l ?z ?h; (case l => k_is); (case z => rfl); (case h => walk_at "cs")))
local macro_rules | `(tactic| walk_at "cs") => `(tactic| first | exact DL.crl_nil | (refine' DL.crl_cons ?a ?b; (case a => walk_at "cr"); (case b => walk_at "cs")))
set_option maxRecDepth 100000 in
set_option maxHeartbeats 0 in
theorem PySem.Challenge.cw_allmeet_k48_how_deep_and_how_long_holds : PySem.Challenge.rw_allmeet_k48_how_deep_and_how_long.Holds := by
 w_on;o_law;k_head;(case hw=>w_witness2)
 k_fill
 refine DL.walk63 (l := PySem.Challenge.rw_allmeet_k48_how_deep_and_how_long) 172 rfl rfl ⟨rfl, by decide, by decide, rfl⟩ (fun w h Y => PySem.W.kIn_of Y) ?F
 case F=>
  intro w mg fa h KX G hmg;refine' W.all_mk KX G hmg ?Y0 ?Y25 ?Y50 ?_ ?_ ?_ ?_ ?_ ?x_NoValue ?x_NoSet ?r_0 ?z W.pure_law
  (case x_NoValue=>refine' DL.XI.of ?xe ?xq;(case xe=>k_is);(case xq=>k_exc))
  (case x_NoSet=>refine' DL.XI.of ?xe ?xq;(case xe=>k_is);(case xq=>k_exc))
  (case r_0=>refine' DL.XRI.of ?ra ?rb ?rc ?rd ?re ?rf ?rg ?rh ?ri;(case ra=>k_is);(case rb=>k_is);(case rc=>k_exc);(case rd=>k_exc);(case re=>k_is);(case rf=>k_is);(case rg=>k_is);(case rh=>k_is);(case ri=>k_is))
  (case z=>intro b hb;simp only[DL.bltL,zk,jm,or_false]at hb;rcases hb with rfl|rfl|rfl|rfl|rfl|rfl|rfl|rfl|rfl|rfl|rfl|rfl|rfl|rfl|rfl|rfl|rfl|rfl|rfl|rfl<;>k_is)
  (case Y0=>walk_at "fh")
  (case Y25=>walk_at "fh")
  (case Y50=>walk_at "fh")
  all_goals (refine' DL.CC.of ?g ?r;(case g=>k_is);(case r=>walk_at "cr"))
