import PyProof.Rows.All
import Wide.All
import OpenK.AllK
import Wide.FinOn
import Lean
import PyProof.EqAt
import PyProof.EqKinds
import PyProof.TupleCall
import PyProof.NeKinds
import PyProof.ZipIter
import PyProof.EnumFor
import PyProof.EnumMake
import PyProof.EnumStmt
import PyProof.Draws
import KE.KDictSum
import PyProof.Rows.SortStr
import PyProof.StrWalks
import KE.KRevIter
import KE.KDictList
import PyProof.CollectIter
import PyProof.SliceStr2
import PyProof.StrBlockI
import KE.KListMore
import PyProof.DictWalks
import PyProof.TupleOfSeq
import PyProof.AttrMissHeap
import PyProof.AttrMissSeq
import KE.KDictOf
import PyProof.WalksMore
import KE.KSortTup
import KE.KSortKey
import PyProof.Rows.StrJoin2
import PyProof.ListMulRoad
import PyProof.FactsAll.tuple_2
import PyProof.Rows.SortShell
import PyProof.WalkInts
import KE.KMinBuiltin
import KE.KIntText
import PyProof.CallStr
import PyProof.PureStr
import PyProof.Rows.SetFrom
import KE.KMinKey
import PyProof.DictItems
import PyProof.DictItemsLoops
import PyProof.ReprRoads
import PyProof.WalksS
import PyProof.MeetsSeq2
import PyProof.RaisesMany
import PyProof.ExcClass2
import OpenK.KOwn
import PyProof.FString
import PySem.Challenge.RW_allmeet_k07_whole_texts_and_values
set_option Elab.async false
set_option linter.all false
set_option maxRecDepth 100000
open PySem renaming wpAny_bind→za,sizeLine→zd,Value→zg,Shared→zm,wpAny_pure→zo,wpAny→zt,starEach→zy,model→zB,Program→zC,bootBuiltins→zK,compareOp→zL,World→zN,mainGlobals→zS,Around→zT,wpAny_field→zV,wpAny_loadPart'→jc,wpAny_newObj_type→jq,wpAny_mono→jx,wpAny_callSpecial?_slot→jF,binaryOp→jL,wpAny_call_entry→jU,backTo→yb,IsPair→yh,wpAny_seqItems→yj,mem_of_lookup→yo,wpAny_truthy_bool→yp,foldedSetIterable→yq,wpAny_holding→yt,assignEach→yw,FuncData→yF,wpAny_setField_rec→yL,wpAny_Call_Name_kw→yM,sysModules→yN,wpAny_setField→xc,reprText→xf,rawInt→xg,attributeBase→xl,wpAny_execs_nil→xn,letOwnedTupleGo→xo,cLine→xz,MulOk→xA,strIterType→xI,sliceBounds→xJ,IsZip→xR,assign→Zg,wpAny_typeOf→Zu,typeIs_str→Zv,getItem→Zw,Builtin→Zx,BindsTo→Zy,wpAny_updateSeq_pair→ZP,keywordEach→ZQ,holding→ZV,codeAny→ZW,callerA→ZX,wpAny_onRaise→Yh,behindInMarks→Yi,tupleKind_room_in1→Yp,pyNext→Yq,wpAny_sequenceKey→Yy,wpAny_pyIter_list→Yz,slot_list_getitem→YA,codeAny_mono→YB,wpAny_execs_cons→YQ,tupleKind→YR,setFlight→YS,noteFrame→YT,noFill_tuple_add→YU,wpAny_letGo→Xh,valueAt→Xs,wpAny_rule→XA,sliceRange→XB,intText?→XD,backToKw→XE,wpAny_standAt→Jd,wpAny_getItem_list_slice→Je,swapsWithSole→Jf,swappedStores→Jg,seq_tuple_add→Jh,plainId_quiet→Ji,evalPart_none→Jj,call→Jk,wpAny_getItem_str_slice→Jp,swapsWith→Jq,lastMarks→Jr,fromIndex→Js,field→Jt,bindL→Ju,bindC→Jv,atKey→Jw,PassesOwn→Jy,seqIndex_neg→JL,richCompare_meets_room→JM,relabel→JN,leaving→JO,concat_meets→JP,cellOf→JQ
open PySem.W renaming Frag→zc,keepIn→jE,fnOf→jX,nsIn→yx,methodObj→xj,excIn→xv,findIn→xE,codeIn→xF,callWith_K→xG,mg_of→xN,cellsFrom_some→YV,specialIn→XV,kitx_list→XW,kitx_dict→XX,plainGet→Jl,instObj→Jx
open List renaming length_append→ze,length_map→zh,mem_cons→zi,size_toArray→zk,not_mem_nil→zn,length_cons→zp,mem_cons_self→zr,getElem?_eq_getElem→zv,mem_cons_of_mem→zw,map_cons→zA,getElem?_append_left→zF,getElem?_cons_zero→zG,append_assoc→zH,mem_singleton→zM,mem_append_right→zR,mem_map→zW,getElem?_eq_none→zX,getElem?_set_self→zY,replicate→zZ,range→ja,filterMap_cons→jd,mem_append→je,length_range→jg,length→jh,getElem?_map→jk,all_cons→jl,mem_of_getElem?→jn,eq_nil_of_length_eq_zero→jo,getElem?_cons_succ→ju,length_nil→jw,length_pos_iff→jy,append_nil→jC,getElem?_append_right→jH,getElem?_eq_some_iff→jM,getElem_mem→jO,cons_ne_nil→jP,getElem?_set_ne→jT,length_reverse→ya,any_cons→yc,lookup_cons→yd,pairwise_cons→yg,map_append→yk,mem_range→yr,take_of_length_le→yB,mem_filterMap→yC,cons_lt_cons_iff→yK,reverse_cons→yP,mem_append_left→yR,getD_eq_getElem?_getD→yS,length_take→yT,all_eq_true→yU,drop_eq_getElem_cons→yY,mergeSort_perm→yZ,mem_map_of_mem→xa,map_congr_left→xb,find?_cons→xh,filterMap→xr,length_singleton→xx,pairwise_append→xB,map_map→xH,zip_cons_cons→xM,flatMap_cons→xV,length_drop→Za,cons_append→Zb,range_succ_eq_map→Ze,drop_eq_nil_of_le→Zf,of_mem_zip→Zj,nodup_cons→Zk,concat_eq_append→Zn,mem_of_mem_drop→Zt,sum_cons→ZI,set_cons_succ→ZO,getElem?_set→Ya,all_map→Yb,eraseIdx_eq_take_drop_succ→Yg,zipIdx_cons→Ym,prefix_refl→Yn,getElem_inj→Yo,zipIdx_nil→Yt,forIn_cons→Yu,dropLast_concat_getLast→Yv,length_filterMap_le→Xm,pairwise_singleton→Xp,pairwise_mergeSort→Xq,getElem?_replicate→Xr,map_nil→Xx,eq_nil_or_concat→XQ,dropLast_eq_take→XR,mem_of_mem_take→Jb,getElem?_of_mem→Jc,instMembership→Jo,set_cons_zero→JI,prefix_append→JJ,filterMap_map→JK,take_sublist→JV,pairwise_map→JW,ext_getElem?→JX
open PySem.Heap renaming get?_push_of_some→zf,lt_size→zl,get?_push_size→zq,get?_update_other→jf,size_push→yf,get?_update_self→yi,SameBut→xp,get?_none_of_le→Zr,size_after_update→Xu,get?_push_ne→JR
open Nat renaming le_refl→zj,le_trans→zu,ne_of_lt→zE,lt_of_lt_of_le→zP,le_of_ble_eq_true→jt,le_succ→jz,le_add_right→jR,zero_le→jV,ne_of_gt→yn,eq_zero_or_pos→yH,lt_irrefl→yJ,lt_succ_self→yW,le_of_lt→yX,lt_or_ge→Zi,sub_succ_lt_self→Zz,toDigits→Yd,lt_trans→Ye,lt_succ_of_lt→Yf,mod_lt→Xg,add_sub_cancel_left→Xw,pow_succ→XO
open PySem.NumText renaming digitsVal→zD
open Option.some renaming injEq→zI,inj→jm
open Bool renaming false_ne_true→zJ,and_eq_true→zQ,false_eq_true→jQ,and_eq_true_iff→xC,or_false→ZJ,eq_iff_iff→Yw,true_or→Xy,eq_false_iff→JY
open PyProof.Rows renaming slot_tuple_getitem→zO,callWith_type1→jB,envOfC→jJ,Keyed→jK,arrOf→jY,kindOf→yG,SortSt→xQ,AllBare→xU,pendingOf→xX,slicePart_none→ZS,failedOf→ZT,entry_tuple_getitem→Yc,args_tuple_getitem→Yr,oneType'→YG,wpS_pure→XJ,tail_any→XL,IsTup→XM,tupleItemsOf_→Jn,subscriptTail_builtinR→JT,seqObj→JU
open PySem.Builtin.SmallTypes renaming nextOf→zU,ownedTupleIsFree→jN,ownedTupleHandOut→xL
open Array renaming getElem?_toList→jb,toList_append→ji,getElem?_eq_getElem→jp,getElem?_eq_some_iff→jv,length_toList→jZ,toArray_toList→Zq,append_assoc→ZK,getD_eq_getD_getElem?→Yx,perm_iff_toList_perm→YH,toList_inj→JZ
open PySem.Builtin.Slice renaming slicePlaces→jj,sliceAdjust→jD,sliceApplied→yA,sliceFields→ZM
open PySem.Builtin.Str renaming strSliceIndices→jr,occurrences→xK,subAt→Zp
open PySem.SetTable.layClean renaming free→js
open Int renaming toNat_natCast→jA,eq_ofNat_of_zero_le→jW,emod_lt_of_pos→yI,emod_nonneg→xi,zero_add→XS,lt_trans→XT,ediv_one→XU
open False renaming elim→jG
open PySem.Str renaming ofString→jI,empty→xk,length_append→xW
open PySem.Obj renaming mapFields→jS,data_mapFields→yE,isFreed_of_fields→xy,mapSeq→xO
open PySem.Txt renaming slice→ye,join→Zc,mul→ZB
open PySem.SeqAt renaming EqAt→ym,RcNeAt→Zd,RcAt→ZD,ne_of_list_tuple→Xn
open PySem.Builtin.List renaming listExtendWith→yy,listTooLong→xD,listLengthHint→ZH,listSameRef→ZZ,listItems→Yk
open List.cons renaming inj→yz,injEq→ZU
open PySem.Paired renaming length→yD
open PySem.Builtin.Tuple renaming tupleExact→yO,tupleItemsOf→xw
open Classical renaming byContradiction→yQ,choose→xm,choose_spec→YO
open PySem.F renaming slot_tuple_iterator_next→yV,args_tuple_add_2→xP,entry_tuple_add→xT,slot_tuple_add→xZ,slot_zip_next→Zs,slot_str_getitem→YE,plainAttrs_list→YL,args_tuple_iterator_next_1→Xe,slot_str_startswith→Xk,entry_tuple_iterator_next→Xl,slot_list_extend→XF,slot_list_append→XG,slot_list_pop→Jz
open PySem.SetTable renaming bits→xt,leap→Zo,runEnd→ZY,turns→Yj
open Option renaming isSome_iff_exists→xS,bind_some→xY,isSome_map→ZN,map_some→Yl,map→XZ,getD_none→JH
open Prod.mk renaming inj→Zh
open PySem.SeqAt.EqAt renaming str_int→Zl,int_str→Zm,same→ZL,none_bool→YI,bool_none→YJ,bool_bool→YK,str_none→YW,str_bool→YX,none_str→YY,none_int→YZ,int_none→Xa,int_bool→Xb,bool_str→Xc,bool_int→Xd,str_str→Xi,int_int→Xj
open Function renaming comp_def→ZC
open PySem.Calls renaming spliced_cons→ZG,spliced_nil→ZR,Name_function_global→YF,call_function_entry→YM,callWith_builtin→Xo,evalArgs_plain→XH
open PySem.Heap.IsSliceOf renaming new→Ys
open PySem.W.KIN renaming val_back→YC
open PySem.Heap.SameBut renaming update→YD
open Nat.succ renaming inj→YN
open PySem.EntryCells renaming newEntry→Xf
open PySem.PassesOwn renaming leaving→Xt,never→XY
open PySem.Around renaming under_plainId→Xv
open ToString renaming toString→Xz
open Membership renaming mem→Ja
open PySem.PyData renaming hasDictAll→Jm
noncomputable section
abbrev VSP:=zg->zm->Prop
abbrev PNS:=List (PySem.Addr×PySem.Obj)
namespace L2
open PySem PySem.Spec PyProof.Rows
theorem t6{a:α}{P:Prop}(h:none=some a):P:=nomatch h
theorem dR7{a:α}{P:Prop}(h:some a=none):P:=nomatch h
theorem bL8{P:Prop}(h:false=true):P:=nomatch h
theorem cJ1{a:α}{l:List α}{P:Prop}(h: []=a::l):P:=nomatch h
theorem dF3{a:α}{l:List α}{P:Prop}(h:a::l= []):P:=nomatch h
noncomputable abbrev Key:=Sum Int Str
noncomputable def bA8:Key->zg->Bool
 | .inl k,v=>Value.isInt k v
 | .inr x,v=>Value.isStrOf x v
noncomputable def fC4(w:zN):Key->Int
 | .inl k=>hashInt k
 | .inr x=>hashStr w x
theorem K4:∀ {k} {v},bA8 k v=true->(∃i t,k=Sum.inl i/\v=Value.int i t)\/(∃x t,k=Sum.inr x/\v=Value.str x t)
 | .inl i,v,h=>by
   obtain⟨t,e⟩:=Value.isInt_shape (k:=i) (v:=v) h
   exact .inl ⟨i,t,rfl,e⟩
 | .inr x,v,h=>by
   obtain⟨t,e⟩:=Value.isStrOf_shape (x:=x) (v:=v) h
   exact .inr ⟨x,t,rfl,e⟩
theorem cS9(i:Int)(t:Tok):bA8 (.inl i) (.int i t)=true:=by simp[bA8,Value.isInt]
theorem cO0(x:Str)(t:Tok):bA8 (.inr x) (.str x t)=true:=by simp[bA8,Value.isStrOf]
theorem dZ9(a b:Int):decide ((Sum.inl a:Key)=Sum.inl b)= (a==b):=by
 by_cases e:a=b
 ·subst e;simp
 · have h:¬(Sum.inl a:Key)=Sum.inl b:=λq=>e (Sum.inl.inj q)
   rw[decide_eq_false h]
   exact(beq_eq_false_iff_ne.mpr e).symm
theorem eN3(a b:Str):decide ((Sum.inr a:Key)=Sum.inr b)=decide (a=b):=by
 by_cases e:a=b
 ·subst e;simp
 · have h:¬(Sum.inr a:Key)=Sum.inr b:=λq=>e (Sum.inr.inj q)
   rw[decide_eq_false h,decide_eq_false e]
theorem eA3(a:Int)(b:Str):decide ((Sum.inl a:Key)=Sum.inr b)=false:=decide_eq_false (λq=>nomatch q)
theorem eC7(a:Str)(b:Int):decide ((Sum.inr a:Key)=Sum.inl b)=false:=decide_eq_false (λq=>nomatch q)
def N6(prog:zC)(w:zN):PySem.KeyKind prog w Key where
 is:=bA8
 hash:=fC4 w
 inj:=λv a b ha hb=>by
  rcases K4 ha with⟨i,t,rfl,rfl⟩|⟨x,t,rfl,rfl⟩
  · rcases K4 hb with⟨j,u,rfl,e⟩|⟨y,u,rfl,e⟩
    ·injection e with e1 _;rw[e1]
    ·exact nomatch e
  · rcases K4 hb with⟨j,u,rfl,e⟩|⟨y,u,rfl,e⟩
    ·exact nomatch e
    ·injection e with e1 _;rw[e1]
 byValue:=λk v h=>by
  rcases K4 h with⟨i,t,rfl,rfl⟩|⟨x,t,rfl,rfl⟩<;>rfl
 pyHash:=λhv h=>by
  rcases K4 hv with⟨i,t,rfl,rfl⟩|⟨x,t,rfl,rfl⟩
  ·exact wpAny_pyHash_int h
  ·exact wpAny_pyHash_str h
 eqBool:=λhu hv h=>by
  rcases K4 hu with⟨i,t,rfl,rfl⟩|⟨x,t,rfl,rfl⟩
  · rcases K4 hv with⟨j,u,rfl,rfl⟩|⟨y,u,rfl,rfl⟩
    ·rw[dZ9]at h;exact wpAny_eqBool_int h
    ·rw[eA3]at h;exact Zm i t y u _ _ _ _ h
  · rcases K4 hv with⟨j,u,rfl,rfl⟩|⟨y,u,rfl,rfl⟩
    ·rw[eC7]at h;exact Zl x t j u _ _ _ _ h
    ·rw[eN3]at h;exact wpAny_eqBool_str h
 «strs»:=λk x t v h=>by
  rcases K4 h with⟨i,u,rfl,e⟩|⟨y,u,rfl,e⟩
  ·exact nomatch e
  · injection e with e1 _
    subst e1
    cases v<;>rfl
theorem bW2(prog:zC)(w:zN)(i:Int)(t:Tok):(N6 prog w).is (.inl i) (.int i t)=true:=cS9 i t
theorem bV2(prog:zC)(w:zN)(x:Str)(t:Tok):(N6 prog w).is (.inr x) (.str x t)=true:=cO0 x t
inductive V where
 |non|bl (b:Bool)|int (i:Int)|str (x:Str)|byt (b:Array UInt8)|flt (b:UInt64)|ref (a:Addr)|ty (n:String)
 deriving DecidableEq
noncomputable def u5:V->zg->Prop
 | .non,u=>u=Value.none
 | .bl b,u=>u=Value.bool b
 | .int i,u=>∃t,u=Value.int i t
 | .str x,u=>∃t,u=Value.str x t
 | .byt b,u=>∃t,u=Value.bytes b t
 | .flt b,u=>∃t,u=Value.float b t
 | .ref a,u=>u=Value.ref a
 | .ty n,u=>u=Value.type n
abbrev o6:List V->List zg->Prop:=Paired u5
theorem o6.length(r:o6 xs us):xs.length=us.length:=yD r
theorem o6.get:∀ {xs} {us} {i:Nat} {x:V},o6 xs us->xs[i]? =some x->∃u,us[i]? =some u/\u5 x u
 |_,_,_,_,.nil,e=>by simp at e
 |_,_,0,_,.cons r _,e=>by simp at e;subst e;exact⟨_,rfl,r⟩
 |_,_,i+1,x,.cons _ t,e=>by
   obtain⟨u,h1,h2⟩:=o6.get (i:=i) (x:=x) t (by simpa using e)
   exact⟨u,by simpa using h1,h2⟩
theorem o6.set(r:u5 x u):∀ {xs} {us} i,o6 xs us->o6 (xs.set i x) (us.set i u)
 |_,_,_,.nil=>.nil
 |_,_,0,.cons _ t=>.cons r t
 |_,_,i+1,.cons q t=>.cons q (o6.set r i t)
theorem o6.append(h:o6 xs us)(k:o6 ys ws):o6 (xs++ys) (us++ws):=by
 induction h with
 |nil=>exact k
 |cons r t ih=>exact .cons r ih
theorem o6.take:∀ {xs} {us} n,o6 xs us->o6 (xs.take n) (us.take n)
 |_,_,0,_=>.nil
 |_,_,_+1,.nil=>.nil
 |_,_,n+1,.cons r t=>.cons r (o6.take n t)
theorem o6.drop:∀ {xs} {us} n,o6 xs us->o6 (xs.drop n) (us.drop n)
 |_,_,0,r=>r
 |_,_,_+1,.nil=>.nil
 |_,_,n+1,.cons _ t=>o6.drop n t
def bH2:Option V->Option zg->Prop
 |some v,some u=>u5 v u
 |none,none=>True
 |_,_=>False
def KV{κ:Type}:List (κ×V)->List (κ×zg)->Prop:=Paired fun(p:κ×V) (q:κ×zg)=>p.1=q.1/\u5 p.2 q.2
noncomputable def kV:Key->V
 | .inl i=>.int i
 | .inr x=>.str x
inductive HO where
 /-- a list -/
 |lst (xs:List V)
 /-- a tuple (never changes) -/
 |tup (xs:List V)
 /-- a dict whose keys are ints and texts;one whose keys are tuples of ints and texts (the empty one is both) -/
 |dK (kvs:List (Key×V))|dT (kvs:List (List Key×V))
 /-- a set of ints:its members,its size -/
 |set (S:Int->Bool) (n:Nat)
 /-- an instance of the class at C,its dict at dx,its attributes -/
 |ins (C dx:Addr) (fs:List (Str×V))
 /-- the dict of the instance at x -/
 |own (x:Addr)
 /-- the dict of an exception -/
 |xd (fs:List (Str×V))
 /-- a bound method,f of x -/
 |met (f x:Addr)
 /-- a range object lo,lo+1,.. below hi -/
 |rng (lo hi:Int)
 /-- a thing that is known to the object (the script;a dict while a loop walks it):read,never written while it is so -/
 |frz (o:Obj) (u:HO)
 /-- a code object's table -/
 |tbl (ps:Array zg)
 /-- any other thing,by what is true of its one object (a def of one's own:SetO a S n:=HO.ext λh=>..) -/
 |ext (φ:Heap->Prop)
noncomputable abbrev Hp:=Addr->Option HO
noncomputable def upd(H:Hp)(a:Addr)(o:HO):Hp:=λb=>if b=a then some o else H b
theorem M5:upd H a o a=some o:=by unfold upd;rw[if_pos rfl]
theorem o9(h:b≠a):upd H a o b=H b:=by unfold upd;rw[if_neg h]
theorem eQ9{H:Hp}(h:H a=some o)(h':H b=some u)(d:o≠u):a≠b:=by
 intro e;subst e;rw[h]at h';exact d (jm h')
theorem v5{H:Hp}{o:HO}(h:H a=some o)(h':H b=none):a≠b:=by
 intro e;subst e;rw[h]at h';cases h'
section
variable(P:zC)(w:zN)
noncomputable def W8(h:Heap)(a:Addr)(items:Array zg):Prop:=∃o,h.get? a=some o/\o.cls= .type "tuple"/\∃n,(o.data,o.dict)= (Data.seq items n,none)
theorem W8.tup(x:W8 h a items):XM h a items:=by
 obtain⟨o,e,c,n,d⟩:=x
 exact⟨o,e,c,n,(Zh d).1⟩
theorem W8.new(h:Heap)(items:Array zg):W8 (h.push {cls:=.type "tuple",data:=.seq items}) h.objs.size items:=⟨_,zq _ rfl,rfl,_,rfl⟩
def O7(H:Hp)(h:Heap)(a:Addr):HO->Prop
 | .lst xs=>xs.length<=zd/\∃(its:List zg) (n:Nat),o6 xs its/\h.get? a=some {cls:=.type "list",data:=.seq its.toArray n}
 | .tup xs=>xs.length<=zd/\∃its:List zg,o6 xs its/\W8 h a its.toArray
 | .dK kvs=>kvs.length<=zd/\(a==yN)=false/\∃vs,KV kvs vs/\h.DictOf (N6 P w) a vs
 | .dT kvs=>kvs.length<=zd/\(a==yN)=false/\∃xs:List (List Key×Addr×zg),
    Paired (fun(p:List Key×V) (q:List Key×Addr×zg)=>p.1=q.1/\H q.2.1=some (.tup (p.1.map kV))/\u5 p.2 q.2.2) kvs xs/\
    ∃o es ep,h.get? a=some o/\o.ExactDict/\o.data= .dict es ep/\es.toList=xs.map (entryOfKey (YR (N6 P w)))/\(xs.map (·.1)).Nodup
 | .set S n=>h.SetOf (intKind P w) a S n
 | .ins C dx fs=>H dx=some (.own a)/\fs.length<=1000/\dx≠a/\h.get? a=some (Jx C dx)/\
    ∃mA,h.Ns1 dx mA/\(∀f,bH2 (fs.lookup f) (mA f))/\PySem.Within mA (fs.map (·.1))
 | .own _=>∃o,h.get? a=some o
 | .xd fs=>∃mA,h.Ns1 a mA/\∀f,bH2 (fs.lookup f) (mA f)
 | .rng lo hi=>∃t u v,h.get? a=some {cls:=.type "range",data:=.fields #[.int lo t,.int hi u,.int 1 v]}
 | .frz o u=>h.get? a=some o/\O7 H h a u
 | .tbl ps=>h.get? a=some {cls:=.none,data:=.fields ps}
 | .met f x=>h.get? a=some (xj (.ref f) (.ref x))
 | .ext φ=>φ h/\(∃o,h.get? a=some o)/\∀h1 h2:Heap,φ h1->(∀o,h1.get? a=some o->h2.get? a=some o)->φ h2
def HOk(H:Hp)(h:Heap):Prop:=∀a o,H a=some o->O7 P w H h a o
end
section
theorem O7.lt(x:O7 P w H h a o):a<h.objs.size:=by
 cases o with
 |lst xs=>obtain⟨_,_,_,_,e⟩:=x;exact zl e
 |tup xs=>obtain⟨_,_,_,p⟩:=x;exact(W8.tup p).lt
 |dK kvs=>obtain⟨_,_,_,_,o,_,_,e,_⟩:=x;exact zl e
 |dT kvs=>obtain⟨_,_,_,_,o,_,_,e,_⟩:=x;exact zl e
 |set S n=>obtain⟨o,_,_,_,e,_⟩:=x;exact zl e
 |ins C dx fs=>obtain⟨_,_,_,e,_⟩:=x;exact zl e
 |own y=>obtain⟨_,e⟩:=x;exact zl e
 |xd fs=>obtain⟨_,⟨_,_,_,e,_⟩,_⟩:=x;exact zl e
 |rng lo hi=>obtain⟨_,_,_,e⟩:=x;exact zl e
 |frz ob u=>obtain⟨e,_⟩:=x;exact zl e
 |tbl ps=>exact zl (show h.get? a=some _ from x)
 |met f y=>exact zl (show h.get? a=some _ from x)
 |ext φ=>obtain⟨_,⟨_,e⟩,_⟩:=x;exact zl e
theorem Paired.mapP(h:Paired F l₁ l₂)(f:∀a b,F a b->G a b):Paired G l₁ l₂:=by
 induction h with
 |nil=>exact .nil
 |cons r t ih=>exact .cons (f _ _ r) ih
theorem O7.stay(x:O7 P w H h a o)(k:∀b u,(b=a\/H b=some (.own a))->h.get? b=some u->h'.get? b=some u)
 (ho:∀b,H b=some (.own a)->H' b=some (.own a)) (ht:∀b xs,H b=some (.tup xs)->H' b=some (.tup xs)):O7 P w H' h' a o:=by
 induction o with
 |lst xs=>obtain⟨z,its,n,r,e⟩:=x;exact⟨z,its,n,r,k _ _ (.inl rfl) e⟩
 |tup xs=>obtain⟨z,its,r,ob,e,c⟩:=x;exact⟨z,its,r,ob,k _ _ (.inl rfl) e,c⟩
 |dK kvs=>obtain⟨z,y,vs,r,ob,es,ep,e,c⟩:=x;exact⟨z,y,vs,r,ob,es,ep,k _ _ (.inl rfl) e,c⟩
 |dT kvs=>
   obtain⟨z,y,xs,r,ob,es,ep,e,c⟩:=x
   exact⟨z,y,xs,Paired.mapP r λp q z=>⟨z.1,ht _ _ z.2.1,z.2.2⟩,ob,es,ep,k _ _ (.inl rfl) e,c⟩
 |set S n=>obtain⟨ob,es,ep,t,e,c⟩:=x;exact⟨ob,es,ep,t,k _ _ (.inl rfl) e,c⟩
 |ins C dx fs=>
   obtain⟨d,z,ne,e,mA,⟨od,es,ep,e2,c⟩,r⟩:=x
   exact⟨ho _ d,z,ne,k _ _ (.inl rfl) e,mA,⟨od,es,ep,k _ _ (.inr d) e2,c⟩,r⟩
 |own y=>obtain⟨ob,e⟩:=x;exact⟨ob,k _ _ (.inl rfl) e⟩
 |xd fs=>obtain⟨mA,⟨od,es,ep,e,c⟩,r⟩:=x;exact⟨mA,⟨od,es,ep,k _ _ (.inl rfl) e,c⟩,r⟩
 |rng lo hi=>obtain⟨t,u,v,e⟩:=x;exact⟨t,u,v,k _ _ (.inl rfl) e⟩
 |frz ob u ih=>obtain⟨e,q⟩:=x;exact⟨k _ _ (.inl rfl) e,ih q⟩
 |tbl ps=>
   have e:h.get? a=some {cls:=.none,data:=.fields ps}:=x
   show h'.get? a=some {cls:=.none,data:=.fields ps}
   exact k a _ (.inl rfl) e
 |met f y=>
   have e:h.get? a=some (xj (.ref f) (.ref y)):=x
   show h'.get? a=some (xj (.ref f) (.ref y))
   exact k a _ (.inl rfl) e
 |ext φ=>obtain⟨p,⟨o,e⟩,st⟩:=x;exact⟨st _ _ p λo q=>k _ _ (.inl rfl) q,⟨o,k _ _ (.inl rfl) e⟩,st⟩
theorem HOk.lt(x:HOk P w H h)(e:H a=some o):a<h.objs.size:=(x a o e).lt
theorem HOk.fresh(x:HOk P w H h)(e:h.objs.size<=a):H a=none:=by
 cases q:H a with
 |none=>rfl
 |some u=>exact absurd (zP (x.lt q) e) (yJ _)
theorem HOk.kept(x:HOk P w H h)(k:∀b u,h.get? b=some u->h'.get? b=some u):HOk P w H h':=λa o e=>
 (x a o e).stay (λb u _ q=>k b u q) (λ_ q=>q) λ_ _ q=>q
theorem HOk.laid(x:HOk P w H h)(k:∀b u,h.get? b=some u->h'.get? b=some u)(hp:h.objs.size<=a)(new:O7 P w (upd H a o) h' a o):HOk P w (upd H a o) h':=λb u e=>by
 have hn:=x.fresh hp
 by_cases hb:b=a
 ·subst hb;rw[M5]at e;cases e;exact new
 · rw[o9 hb]at e
   exact(x b u e).stay (λc v _ q=>k c v q) (λc q=>by rw[o9 (v5 q hn)];exact q) λc xs q=>by rw[o9 (v5 q hn)];exact q
end
noncomputable def Rd(H:Hp)(a:Addr)(u:HO):Prop:=H a=some u\/∃o,H a=some (.frz o u)
theorem Rd.of(h:H a=some u):Rd H a u:=.inl h
theorem Rd.ok(r:Rd H a u)(x:HOk P w H h):O7 P w H h a u:=by
 rcases r with r|⟨o,r⟩
 ·exact x a u r
 · obtain⟨_,q⟩:=x a _ r
   exact q
noncomputable def Mut:Option HO->Prop
 |some (.lst _)=>True
 |some (.dK _)=>True
 |some (.dT _)=>True
 |some (.set _ _)=>True
 |some (.ins _ _ _)=>True
 |some (.ext _)=>True
 |_=>False
section
theorem HOk.write(ok:HOk P w H h)(mu:Mut (H x))(he:e=x\/H e=some (.own x))(k:∀b u,b≠e->h.get? b=some u->h'.get? b=some u)(heo:∃u,h'.get? e=some u)
 (new:O7 P w (upd H x o') h' x o'):HOk P w (upd H x o') h':=λb u q=>by
 have nown:∀c y,H c=some (.own y)->c≠x:=λc y r z=>by subst z;rw[r]at mu;exact mu
 have ntup:∀c xs,H c=some (.tup xs)->c≠x:=λc xs r z=>by subst z;rw[r]at mu;exact mu
 by_cases hb:b=x
 ·subst hb;rw[M5]at q;cases q;exact new
 · rw[o9 hb]at q
   by_cases hbe:b=e
   · have q':H b=some (.own x):=by
      rcases he with z|z
      ·exact absurd (hbe.trans z) hb
      ·rw[hbe];exact z
     rw[q]at q';cases q'
     obtain⟨v,hv⟩:=heo
     exact⟨v,by rw[hbe];exact hv⟩
   · refine(ok b u q).stay (λc v hc r=>k c v ?_ r) (λc r=>by rw[o9 (nown c b r)];exact r) λc xs r=>by rw[o9 (ntup c xs r)];exact r
     rcases hc with rfl|hc
     ·exact hbe
     · rintro rfl
       rcases he with z|z
       ·exact nown c b hc z
       ·rw[hc]at z;cases z;exact hb rfl
end
structure Un(fs ex:List Addr)(H H':Hp)(h h':Heap):Prop where
 keep:∀b o,h.get? b=some o->H b=none->b∉fs->b∉ex->h'.get? b=some o
 slot:∀b o,h.get? b=some o->H b=none->b∈fs->b∉ex->∃sl,h'.get? b=some {o with slots:=sl}
 free:∀b o,h.get? b=some o->H b=none->b∉ex->H' b=none
 there:∀b o,h.get? b=some o->b∉ex->∃o',h'.get? b=some o'
 tups:∀b xs,H b=some (.tup xs)->H' b=some (.tup xs)
 frzs:∀b o u,H b=some (.frz o u)->H' b=some (.frz o u)
 tbls:∀b ps,H b=some (.tbl ps)->∃more,H' b=some (.tbl (ps++more))
section
theorem Un.any(u:Un fs ex H H1 h h1)(q:h.get? b=some ob)(n:H b=none)(hx:b∉ex):∃sl,h1.get? b=some {ob with slots:=sl}:=by
 by_cases hb:b∈fs
 ·exact u.slot b ob q n hb hx
 ·exact⟨ob.slots,u.keep b ob q n hb hx⟩
theorem Un.trans(a:Un fs ex H H1 h h1)(b:Un fs ex H1 H2 h1 h2):Un fs ex H H2 h h2 where
 keep:=λc ob q n hc hx=>b.keep c ob (a.keep c ob q n hc hx) (a.free c ob q n hx) hc hx
 slot:=λc ob q n hc hx=>by
  obtain⟨sl,e1⟩:=a.slot c ob q n hc hx
  obtain⟨sl',e2⟩:=b.slot c _ e1 (a.free c ob q n hx) hc hx
  exact⟨sl',e2⟩
 free:=λc ob q n hx=>by
  obtain⟨o',e1⟩:=a.there c ob q hx
  exact b.free c o' e1 (a.free c ob q n hx) hx
 there:=λc ob q hx=>by
  obtain⟨o',e1⟩:=a.there c ob q hx
  exact b.there c o' e1 hx
 tups:=λc xs q=>b.tups c xs (a.tups c xs q)
 frzs:=λc ob xs q=>b.frzs c ob xs (a.frzs c ob xs q)
 tbls:=λc ps q=>by
  obtain⟨m1,e1⟩:=a.tbls c ps q
  obtain⟨m2,e2⟩:=b.tbls c _ e1
  exact⟨m1++m2,by rw[e2,ZK]⟩
theorem Un.kept(k:∀b u,h.get? b=some u->h'.get? b=some u):Un fs ex H H h h':=
 ⟨λb ob q _ _ _=>k b ob q,λb ob q _ _ _=>⟨ob.slots,k b ob q⟩,λ_ _ _ n _=>n,λb ob q _=>⟨ob,k b ob q⟩,λ_ _ q=>q,λ_ _ _ q=>q,λ_ ps q=>⟨#[],by rw[q];simp⟩⟩
theorem Un.refl:Un fs ex H H h h:=Un.kept λ_ _ q=>q
theorem Un.laid(k:∀b u,h.get? b=some u->h'.get? b=some u)(hp:h.objs.size<=a)(hn:H a=none):Un fs ex H (upd H a o) h h' where
 keep:=λb u q _ _ _=>k b u q
 slot:=λb u q _ _ _=>⟨u.slots,k b u q⟩
 free:=λb u q n _=>by rw[o9 (zE (zP (zl q) hp))];exact n
 there:=λb u q _=>⟨u,k b u q⟩
 tups:=λb xs q=>by rw[o9 (v5 q hn)];exact q
 frzs:=λb u xs q=>by rw[o9 (v5 q hn)];exact q
 tbls:=λb ps q=>⟨#[],by rw[o9 (v5 q hn),q];simp⟩
theorem Un.write(mu:Mut (H x))(he:e=x\/H e=some (.own x))(k:∀b u,b≠e->h.get? b=some u->h'.get? b=some u)(heo:∃u,h'.get? e=some u):Un fs ex H (upd H x o) h h':=by
 have hx:∀b,H b=none->b≠x:=λb n z=>by subst z;rw[n]at mu;exact mu
 have hb:∀b,H b=none->b≠e:=λb n z=>by
  subst z
  rcases he with r|r
  ·exact hx b n r
  ·rw[n]at r;cases r
 have hm:∀b u,H b=some u->¬Mut (some u)->b≠x:=λb u q nm z=>by subst z;rw[q]at mu;exact nm mu
 refine⟨λb u q n _ _=>k b u (hb b n) q,λb u q n _ _=>⟨u.slots,k b u (hb b n) q⟩,λb u q n _=>by rw[o9 (hx b n)];exact n,λb u q _=>?_,
  λb xs q=>by rw[o9 (hm b _ q λz=>z)];exact q,λb u xs q=>by rw[o9 (hm b _ q λz=>z)];exact q,λb ps q=>⟨#[],by rw[o9 (hm b _ q λz=>z),q];simp⟩⟩
 by_cases hbe:b=e
 ·subst hbe;exact heo
 ·exact⟨u,k b u hbe q⟩
theorem Un.mono(u:Un fs ex H H1 h h1)(hs:∀b∈fs,b∈fs')(hx:∀b∈ex,b∈ex'):Un fs' ex' H H1 h h1:=
 ⟨λb ob q n hb he=>u.keep b ob q n (λz=>hb (hs b z)) λz=>he (hx b z),λ_ _ q n _ he=>u.any q n λz=>he (hx _ z),λb ob q n he=>u.free b ob q n λz=>he (hx b z),λb ob q he=>u.there b ob q λz=>he (hx b z),u.tups,u.frzs,u.tbls⟩
end
noncomputable def trk(h:Heap)(H:Hp):List Addr:=(ja h.objs.size).filter λa=>(H a).isSome
def bQ3(h:Heap)(H:Hp):Heap:=PySem.W.hideAll h (trk h H)
theorem cR9(h:Heap)(H:Hp):(bQ3 h H).objs.size=h.objs.size:=PySem.W.hideAll_size _ _
theorem dG4(e:h.get? b=some o)(n:H b=none):(bQ3 h H).get? b=some o:=
 PySem.W.hideAll_get _ e λhm=>by
  have q:(H b).isSome=true:=(List.mem_filter.mp hm).2
  rw[n]at q;simp at q
theorem dQ7(e:(bQ3 h H).get? b=some o):h.get? b=some o/\H b=none:=by
 have e':h.get? b=some o:=PySem.W.of_hideAll (trk h H) e
 refine⟨e',?_⟩
 cases q:H b with
 |none=>rfl
 |some x=>
   have hm:b∈trk h H:=List.mem_filter.mpr ⟨yr.mpr (zl e'),by simp[q]⟩
   have z:(bQ3 h H).get? b=none:=PySem.W.hideAll_none (trk h H) hm
   rw[z]at e;cases e
noncomputable def dT6(g h:Heap)(L:Addr):PNS:=(ja h.objs.size).filterMap λa=>if a=L\/(g.get? a).isSome=true then none else (h.get? a).map λo=>(a,o)
def j9(g h:Heap)(L d:Addr):PNS:=(dT6 g h L).filter λp=>decide (p.1≠d)
structure Mod(K:zc)(mg:Str->Option zg)(base:Heap):Prop where
 kin:K.In base
 glob:base.Ns zS mg
 blt:∃mb,base.Ns builtinsNs mb/\∀x:Str,x≠ "__name__"->mb x=zK x
 nolimit:base.NoLimit
structure Cx where
 prog:zC
 w:zN
 K:zc
 mg:Str->Option zg
 base:Heap
 A:zT
 N:List Str
 WY:zm
 H₀:Hp
 env:Env
 outer:List Env
 stack:List Env
 ex:List Addr
 fn:Str->Bool
 calm:Bool
 pn:PNS
 xe:VSP
noncomputable def frs(l:List Env):List Addr:=l.filterMap (·.frame)
abbrev Cx.fs(X:Cx):List Addr:=frs X.outer
noncomputable def Vis(sc:Scope)(x:Str):Prop:=sc.names.lookup x=some .local\/sc.names.lookup x=some .cell\/sc.names.lookup x=some .free
noncomputable def Loc(sc:Scope)(x:Str):Prop:=sc.names.lookup x=some .local\/sc.names.lookup x=some .cell
noncomputable def eZ5(env:Env)(h:Heap)(m:Str->Option zg)(x:Str)(u:zg):Prop:=
 (env.kindOf x=some .local/\m x=some u)\/((env.kindOf x=some .cell\/env.kindOf x=some .free)/\∃c,env.cells.lookup x=some c/\h.IsCell c (some u))
structure Cx.Ok(X:Cx):Prop where
 mod:Mod X.K X.mg X.base
 kind:X.env.scope.kind= .function
 glob:X.env.globals=zS
 blt:X.env.builtins=builtinsNs
 above:X.WY.heap.objs.size<=X.env.locals
 inj:∀x y c,X.env.cells.lookup x=some c->X.env.cells.lookup y=some c->x=y
 has:∀x,(X.env.kindOf x=some .cell\/X.env.kindOf x=some .free)->∃c,X.env.cells.lookup x=some c
 cab:∀x c,X.fn x=true->X.env.cells.lookup x=some c->X.WY.heap.objs.size<=c
 hd:X.calm=true->X.A.handled=none
 frames:X.A.frames=some X.stack
 stk:X.stack=X.outer\/(X.stack=X.env::X.outer/\X.env.frame=some X.env.locals)
 exf:∀b∈X.ex,b≠X.env.locals/\∀x c,X.env.cells.lookup x=some c->c≠b
 bs:∀b o,X.base.get? b=some o->X.WY.heap.get? b=some o/\X.H₀ b=none
 bsz:X.base.objs.size<=X.WY.heap.objs.size
 noex:∀b o,X.base.get? b=some o->b∉X.ex
 exfs:∀b∈X.ex,b∉X.fs
 funs:X.WY.heap.FunFrames X.base X.outer
 frf:∀b∈X.fs,X.H₀ b=none
 gd:X.A.guards=some []
structure Inv(X:Cx)(pins:PNS)(U:List (Option V))(H:Hp)(s:zm):Prop where
 ok:X.Ok
 os:s.os=X.WY.os
 bare:xU s.gens
 base:Un X.fs X.ex X.H₀ H X.WY.heap s.heap
 loc:∃m,s.heap.Ns X.env.locals m/\∀(i:Nat) (x:Str) (v:V),X.N[i]? =some x->U[i]? =some (some v)->Vis X.env.scope x->∃u,u5 v u/\eZ5 X.env s.heap m x u
 cell:∀x c,X.env.cells.lookup x=some c->∃v,s.heap.IsCell c v
 free:H X.env.locals=none
 freeC:∀x c,X.env.cells.lookup x=some c->H c=none
 pin:∀p∈X.pn++pins,s.heap.get? p.1=some p.2/\H p.1=none/\p.1≠X.env.locals/\p.1∉X.fs/\∀v,p.2.data≠ .cell v
 hok:HOk X.prog X.w H s.heap
 len:U.length=X.N.length
section
variable{X:Cx}{pins:PNS}{U:List (Option V)}{H H':Hp}{s:zm}
theorem Cx.Ok.nofr(ok:X.Ok)(e:X.base.get? b=some o):b∉X.fs:=λhb=>by
 have:=(ok.funs.mem hb).1
 rw[e]at this;cases this
theorem Inv.bs(I:Inv X pins U H s):∀b o,X.base.get? b=some o->s.heap.get? b=some o/\H b=none:=λb o e=>
 ⟨I.base.keep b o (I.ok.bs b o e).1 (I.ok.bs b o e).2 (I.ok.nofr e) (I.ok.noex b o e),I.base.free b o (I.ok.bs b o e).1 (I.ok.bs b o e).2 (I.ok.noex b o e)⟩
theorem Inv.bk(I:Inv X pins U H s):∀b o,X.base.get? b=some o->s.heap.get? b=some o:=λb o e=>(I.bs b o e).1
theorem Inv.mod(I:Inv X pins U H s):Mod X.K X.mg X.base:=I.ok.mod
theorem Inv.kIn(I:Inv X pins U H s):X.K.In s.heap:=I.ok.mod.kin.keeps I.bk
theorem Inv.nolimit(I:Inv X pins U H s):s.heap.NoLimit:=I.ok.mod.nolimit.keeps I.bk
theorem Inv.lt(I:Inv X pins U H s):X.env.locals<s.heap.objs.size:=let ⟨_,hn,_⟩:=I.loc;hn.lt
theorem Inv.sz(I:Inv X pins U H s):X.WY.heap.objs.size<=s.heap.objs.size:=zu I.ok.above (yX I.lt)
theorem Inv.nofs(I:Inv X pins U H s)(h:s.heap.objs.size<=a):a∉X.fs:=λhb=>by
 obtain⟨_,o,ho,_⟩:=I.ok.funs.mem hb
 exact absurd (zP (zl ho) (zu I.sz h)) (yJ _)
theorem Inv.cne(I:Inv X pins U H s):∀x c,X.env.cells.lookup x=some c->c≠X.env.locals:=λx c e z=>by
 obtain⟨v,o,ho,hd⟩:=I.cell x c e
 obtain⟨m,⟨o',es,ep,ho',hd',_⟩,_⟩:=I.loc
 rw[z,ho']at ho;cases ho;rw[hd']at hd;cases hd
theorem Inv.funs(I:Inv X pins U H s):s.heap.FunFrames X.base X.outer:=by
 have all:∀(l:List Env),(∀b∈frs l,b∈X.fs)->X.WY.heap.FunFrames X.base l->s.heap.FunFrames X.base l:=by
  intro l
  induction l with
  |nil=>intro _ _;trivial
  |cons env r ih=>
    intro hs hl
    obtain⟨hk,⟨L,o,hf,hn,ho,hd⟩,hr⟩:=hl
    have hL:L∈X.fs:=hs L (by unfold frs;rw[jd,hf];exact zr)
    obtain⟨sl,e⟩:=I.base.slot L o ho (I.ok.frf L hL) hL λz=>I.ok.exfs L z hL
    exact⟨hk,⟨L,_,hf,hn,e,hd⟩,ih (λb hb=>hs b (by unfold frs;rw[jd,hf];exact zw _ hb)) hr⟩
 exact all X.outer (λ_ hb=>hb) I.ok.funs
theorem Inv.stack(I:Inv X pins U H s):s.heap.FunFrames X.base X.stack:=by
 rcases I.ok.stk with e|⟨e,hf⟩
 ·rw[e];exact I.funs
 · rw[e]
   obtain⟨m,hn,_⟩:=I.loc
   refine .cons (by rw[I.ok.kind];decide) hf hn ?_ I.funs
   exact Zr (zu I.ok.bsz I.ok.above)
theorem Inv.stkSub(I:Inv X pins U H s):∀b∈frs X.stack,b∈X.env.locals::X.fs:=λb hb=>by
 rcases I.ok.stk with e|⟨e,hf⟩
 ·rw[e]at hb;exact zw _ hb
 · rw[e]at hb
   unfold frs at hb
   rw[jd,hf]at hb
   exact hb
theorem Inv.stkFree(I:Inv X pins U H s):∀b∈frs X.stack,H b=none:=λb hb=>by
 rcases zi.mp (I.stkSub b hb)with e|hb
 ·rw[e];exact I.free
 · obtain⟨_,o,ho,_⟩:=I.ok.funs.mem hb
   exact I.base.free b o ho (I.ok.frf b hb) λz=>I.ok.exfs b z hb
theorem Inv.step{t':Nat}{d':Drawn}{ch:List Addr}(I:Inv X pins U H s)
 (hch:∀b∈ch,(b∈X.ex\/X.WY.heap.objs.size<=b)/\b≠X.env.locals/\(∀x c,X.env.cells.lookup x=some c->c≠b)/\∀p∈X.pn++pins,p.1≠b)
 (keep:∀b o,b≠X.env.locals->b∉X.fs->b∉ch->s.heap.get? b=some o->H b=none->h'.get? b=some o)
 (slot:∀b o,b≠X.env.locals->b∈X.fs->b∉ch->s.heap.get? b=some o->H b=none->∃sl,h'.get? b=some {o with slots:=sl}) (free:∀b o,b∉ch->s.heap.get? b=some o->H b=none->H' b=none)
 (there:∀b o,b∉ch->s.heap.get? b=some o->∃o',h'.get? b=some o')
 (tups:∀b xs,H b=some (.tup xs)->H' b=some (.tup xs)) (frzs:∀b o u,H b=some (.frz o u)->H' b=some (.frz o u)) (tbls:∀b ps,H b=some (.tbl ps)->∃more,H' b=some (.tbl (ps++more)))
 (ns:∀m,s.heap.Ns X.env.locals m->h'.Ns X.env.locals m) (hok:HOk X.prog X.w H' h') (hg:xU g'):
 Inv X pins U H' {s with heap:=h',gens:=g',drawn:=d',toks:=t'}:=by
 have neL:∀b o,X.WY.heap.get? b=some o->b≠X.env.locals:=λb o e=>zE (zP (zl e) I.ok.above)
 have neC:∀b o,X.WY.heap.get? b=some o->b∉X.ex->b∉ch:=λb o e hx hb=>by
  rcases (hch b hb).1 with z|z
  ·exact hx z
  ·exact absurd (zP (zl e) z) (yJ _)
 have cellK:∀x c,X.env.cells.lookup x=some c->∀v,s.heap.IsCell c v->h'.IsCell c v:=λx c e v ⟨o,ho,hd⟩=>by
  have nch:c∉ch:=λz=>(hch c z).2.2.1 x c e rfl
  by_cases hc:c∈X.fs
  · obtain⟨sl,q⟩:=slot c o (I.cne x c e) hc nch ho (I.freeC x c e)
    exact⟨_,q,hd⟩
  ·exact⟨o,keep c o (I.cne x c e) hc nch ho (I.freeC x c e),hd⟩
 refine⟨I.ok,I.os,hg,⟨λb o e n hb hx=>?_,λb o e n hb hx=>?_,λb o e n hx=>?_,λb o e hx=>?_,λb xs e=>tups b xs (I.base.tups b xs e),λb o xs e=>frzs b o xs (I.base.frzs b o xs e),λb ps e=>?_⟩,?_,λx c e=>?_,?_,λx c e=>?_,λp hp=>?_,hok,I.len⟩
 ·exact keep b o (neL b o e) hb (neC b o e hx) (I.base.keep b o e n hb hx) (I.base.free b o e n hx)
 · obtain⟨sl,e1⟩:=I.base.slot b o e n hb hx
   obtain⟨sl',e2⟩:=slot b _ (neL b o e) hb (neC b o e hx) e1 (I.base.free b o e n hx)
   exact⟨sl',e2⟩
 · obtain⟨o',e1⟩:=I.base.there b o e hx
   exact free b o' (neC b o e hx) e1 (I.base.free b o e n hx)
 · obtain⟨o',e1⟩:=I.base.there b o e hx
   exact there b o' (neC b o e hx) e1
 · obtain⟨m1,e1⟩:=I.base.tbls b ps e
   obtain⟨m2,e2⟩:=tbls b _ e1
   exact⟨m1++m2,by rw[e2,ZK]⟩
 · obtain⟨m,hn,hl⟩:=I.loc
   refine⟨m,ns m hn,λi x v e1 e2 e3=>?_⟩
   obtain⟨u,r,l⟩:=hl i x v e1 e2 e3
   refine⟨u,r,?_⟩
   rcases l with l|⟨k,c,e,z⟩
   ·exact .inl l
   ·exact .inr ⟨k,c,e,cellK x c e _ z⟩
 · obtain⟨v,z⟩:=I.cell x c e
   exact⟨v,cellK x c e v z⟩
 · obtain⟨m,⟨o,_,_,ho,_⟩,_⟩:=I.loc
   exact free _ o (λz=>(hch _ z).2.1 rfl) ho I.free
 · obtain⟨v,o,ho,hd⟩:=I.cell x c e
   exact free c o (λz=>(hch c z).2.2.1 x c e rfl) ho (I.freeC x c e)
 · obtain⟨e,n,ne,nf,d⟩:=I.pin p hp
   have nch:p.1∉ch:=λz=>(hch p.1 z).2.2.2 p hp rfl
   exact⟨keep p.1 p.2 ne nf nch e n,free p.1 p.2 nch e n,ne,nf,d⟩
theorem Inv.un(I:Inv X pins U H s)(u:Un X.fs [] H H' s.heap h')(hok:HOk X.prog X.w H' h'):Inv X pins U H' {s with heap:=h',toks:=t'}:=by
 obtain⟨m,⟨o,es,ep,ho,r⟩,_⟩:=id I.loc
 obtain⟨sl,hL⟩:=u.any ho I.free (by simp)
 exact I.step (g':=s.gens) (d':=s.drawn) (ch:= []) (λ_ z=>nomatch z) (λb o _ hb _ e n=>u.keep b o e n hb (by simp)) (λb o _ hb _ e n=>u.slot b o e n hb (by simp)) (λb o _ e n=>u.free b o e n (by simp)) (λb o _ e=>u.there b o e (by simp)) u.tups u.frzs u.tbls (λm' hm=>by
  obtain⟨o',es',ep',ho',r'⟩:=hm
  rw[ho]at ho';cases ho'
  exact⟨_,es',ep',hL,r'⟩) hok I.bare
theorem Inv.call{t':Nat}{d':Drawn}{ch:List Addr}(I:Inv X pins U H s)(u:Un (frs X.stack) ch H H' s.heap h')(hok:HOk X.prog X.w H' h')(hg:xU g')
 (hch:∀b∈ch,(b∈X.ex\/X.WY.heap.objs.size<=b)/\b≠X.env.locals/\(∀x c,X.env.cells.lookup x=some c->c≠b)/\∀p∈X.pn++pins,p.1≠b):
 Inv X pins U H' {s with heap:=h',gens:=g',drawn:=d',toks:=t'}:=by
 obtain⟨m,⟨o,es,ep,ho,r⟩,_⟩:=id I.loc
 obtain⟨sl,hL⟩:=u.any ho I.free λz=>(hch _ z).2.1 rfl
 exact I.step (ch:=ch) hch (λb o hL hb hc e n=>u.keep b o e n (λz=>(zi.mp (I.stkSub b z)).elim hL hb) hc) (λb o _ _ hc e n=>u.any e n hc) (λb o hc e n=>u.free b o e n hc) (λb o hc e=>u.there b o e hc) u.tups u.frzs u.tbls (λm' hm=>by
  obtain⟨o',es',ep',ho',r'⟩:=hm
  rw[ho]at ho';cases ho'
  exact⟨_,es',ep',hL,r'⟩) hok hg
theorem Inv.turned{t':Nat}(I:Inv X pins U H s)(k:∀b o,b≠it->s.heap.get? b=some o->h'.get? b=some o)(hn:H it=none)(hL:it≠X.env.locals)
 (h1:it∈X.ex\/X.WY.heap.objs.size<=it) (h2:∀x c,X.env.cells.lookup x=some c->c≠it) (h3:∀p∈X.pn++pins,p.1≠it):Inv X pins U H {s with heap:=h',toks:=t'}:=by
 have nit:∀b u,H b=some u->b≠it:=λb u e z=>by rw[z,hn]at e;cases e
 refine I.step (g':=s.gens) (d':=s.drawn) (ch:= [it]) (λb hb=>?_) (λb o _ _ hc e _=>k b o (λz=>hc (by simp[z])) e) (λb o _ _ hc e _=>⟨o.slots,k b o (λz=>hc (by simp[z])) e⟩) (λ_ _ _ _ n=>n)
  (λb o hc e=>⟨o,k b o (λz=>hc (by simp[z])) e⟩) (λ_ _ e=>e) (λ_ _ _ e=>e) (λb ps e=>⟨#[],by rw[e];simp⟩) (λm hm=>?_) (λb u e=>?_) I.bare
 · have e:b=it:=by simpa using hb
   subst e
   exact⟨h1,hL,h2,h3⟩
 · obtain⟨o,es,ep,ho,r⟩:=hm
   exact⟨o,es,ep,k _ o (Ne.symm hL) ho,r⟩
 · refine(I.hok b u e).stay (λc v hc q=>k c v ?_ q) (λ_ q=>q) λ_ _ q=>q
   rcases hc with z|z
   ·rw[z];exact nit b u e
   ·exact nit c _ z
theorem Inv.tok(I:Inv X pins U H s)(t:Nat):Inv X pins U H {s with toks:=t}:=I.un (h':=s.heap) (t':=t) Un.refl I.hok
theorem Inv.kept(I:Inv X pins U H s)(k:∀b u,s.heap.get? b=some u->h'.get? b=some u):Inv X pins U H {s with heap:=h',toks:=t'}:=I.un (Un.kept k) (I.hok.kept k)
theorem Inv.laid(I:Inv X pins U H s)(k:∀b u,s.heap.get? b=some u->h'.get? b=some u)(hp:s.heap.objs.size<=a)(new:O7 X.prog X.w (upd H a o) h' a o):
 Inv X pins U (upd H a o) {s with heap:=h',toks:=t'}:=I.un (Un.laid k hp (I.hok.fresh hp)) (I.hok.laid k hp new)
theorem Inv.write(I:Inv X pins U H s)(mu:Mut (H x))(he:e=x\/H e=some (.own x))(k:∀b u,b≠e->s.heap.get? b=some u->h'.get? b=some u)(heo:∃u,h'.get? e=some u)
 (new:O7 X.prog X.w (upd H x o) h' x o):Inv X pins U (upd H x o) {s with heap:=h',toks:=t'}:=I.un (Un.write mu he k heo) (I.hok.write mu he k heo new)
theorem Inv.pins_of(I:Inv X pins U H s)(h:∀p∈pins',s.heap.get? p.1=some p.2/\H p.1=none/\p.1≠X.env.locals/\p.1∉X.fs/\∀v,p.2.data≠ .cell v):Inv X pins' U H s:=
 ⟨I.ok,I.os,I.bare,I.base,I.loc,I.cell,I.free,I.freeC,λp hp=>(je.mp hp).elim (λz=>I.pin p (yR _ z)) (h p),I.hok,I.len⟩
theorem bT4{N:List Str}(hN:N.Nodup){i j:Nat}{x:Str}(a:N[i]? =some x)(b:N[j]? =some x):i=j:=by
 obtain⟨h1,e1⟩:=jM.mp a
 obtain⟨h2,e2⟩:=jM.mp b
 exact(Yo hN).mp (e1.trans e2.symm)
theorem cP4{M:Model}{A:zT}{E:VSP}{i:Nat}{x:Str}{v:V}{u:zg}{Q:Unit->zm->Prop}(I:Inv X pins U H s)(hN:X.N.Nodup)(hi:X.N[i]? =some x)(hx:Loc X.env.scope x)(r:u5 v u)
 (h:∀s',Inv X pins (U.set i (some v)) H s'->(∃a,xp a s.heap s'.heap/\(a=X.env.locals\/X.env.cells.lookup x=some a))->Q () s') (hf:X.fn x=true\/X.env.scope.names.lookup x=some .local):zt M A (storeName X.env x u) Q E s:=by
 obtain⟨m,hn,hl⟩:=id I.loc
 have hcls:(X.env.scope.kind == .class||(X.env.scope.kind == .module&&X.env.locals != X.env.globals))=false:=by rw[I.ok.kind];rfl
 have hiσ:i<U.length:=by rw[I.len];exact(jM.mp hi).1
 have cne:=I.cne
 have tracked:∀ {a:Addr} {h':Heap},(∃o,s.heap.get? a=some o/\H a=none)->xp a s.heap h'->HOk X.prog X.w H h':=λ{a h'} ha hs b ob e=>by
  obtain⟨_,_,hfree⟩:=ha
  refine(I.hok b ob e).stay (λc w' hc q=>(hs.2 c ?_).trans q) (λ_ q=>q) λ_ _ q=>q
  rintro rfl
  rcases hc with rfl|hc
  ·rw[hfree]at e;cases e
  ·rw[hfree]at hc;cases hc
 rcases hx with hk|hk
 · refine wpAny_storeName_local hk hn (λh' hn' hs=>?_) hcls
   obtain⟨oL,_,_,hoL,_⟩:=id hn
   refine h _ ⟨I.ok,I.os,I.bare,⟨λb o e n hb hx=>?_,λb o e n hb hx=>?_,I.base.free,λb o e hx=>?_,I.base.tups,I.base.frzs,I.base.tbls⟩,⟨_,hn',λj y v' e1 e2 e3=>?_⟩,λy c e=>?_,I.free,I.freeC,λp hp=>?_,tracked ⟨oL,hoL,I.free⟩ hs,by simpa using I.len⟩ ⟨_,hs,.inl rfl⟩
   ·exact(hs.2 b (zE (zP (zl e) I.ok.above))).trans (I.base.keep b o e n hb hx)
   · obtain⟨sl,e1⟩:=I.base.slot b o e n hb hx
     exact⟨sl,(hs.2 b (zE (zP (zl e) I.ok.above))).trans e1⟩
   · obtain⟨o',e1⟩:=I.base.there b o e hx
     exact⟨o',(hs.2 b (zE (zP (zl e) I.ok.above))).trans e1⟩
   · by_cases hj:j=i
     · subst hj
       rw[hi]at e1;cases e1
       rw[zY hiσ]at e2
       cases e2
       exact⟨u,r,.inl ⟨hk,by simp⟩⟩
     · rw[jT (Ne.symm hj)]at e2
       obtain⟨u',r',q⟩:=hl j y v' e1 e2 e3
       refine⟨u',r',?_⟩
       rcases q with⟨k,e⟩|⟨k,c,e,z⟩
       · refine .inl ⟨k,?_⟩
         have:y≠x:=λe=>hj (bT4 hN e1 (e▸hi))
         simp[this,e]
       ·exact .inr ⟨k,c,e,z.sameBut hs (cne y c e)⟩
   · obtain⟨w',z⟩:=I.cell y c e
     exact⟨w',z.sameBut hs (cne y c e)⟩
   · obtain⟨e,n,ne,nf,d⟩:=I.pin p hp
     exact⟨(hs.2 p.1 ne).trans e,n,ne,nf,d⟩
 · have hfn:X.fn x=true:=by
    rcases hf with z|z
    ·exact z
    ·rw[z]at hk;cases hk
   obtain⟨c,hc⟩:=I.ok.has x (.inl hk)
   obtain⟨w',z⟩:=I.cell x c hc
   refine wpAny_storeName_cell I.ok.kind hk hc z (λh' hc' hs=>?_)
   obtain⟨oc,hoc,hocd⟩:=id z
   refine h {s with heap:=h'} ⟨I.ok,I.os,I.bare,⟨λb o e n hb hx=>?_,λb o e n hb hx=>?_,I.base.free,λb o e hx=>?_,I.base.tups,I.base.frzs,I.base.tbls⟩,⟨m,hn.sameBut hs (Ne.symm (cne x c hc)),λj y v' e1 e2 e3=>?_⟩,λy c' e=>?_,I.free,I.freeC,λp hp=>?_,tracked ⟨oc,hoc,I.freeC x c hc⟩ hs,by simpa using I.len⟩ ⟨c,hs,.inr hc⟩
   ·exact(hs.2 b (zE (zP (zl e) (I.ok.cab x c hfn hc)))).trans (I.base.keep b o e n hb hx)
   · obtain⟨sl,e1⟩:=I.base.slot b o e n hb hx
     exact⟨sl,(hs.2 b (zE (zP (zl e) (I.ok.cab x c hfn hc)))).trans e1⟩
   · obtain⟨o',e1⟩:=I.base.there b o e hx
     exact⟨o',(hs.2 b (zE (zP (zl e) (I.ok.cab x c hfn hc)))).trans e1⟩
   · by_cases hj:j=i
     · subst hj
       rw[hi]at e1;cases e1
       rw[zY hiσ]at e2
       cases e2
       exact⟨u,r,.inr ⟨.inl hk,c,hc,hc'⟩⟩
     · rw[jT (Ne.symm hj)]at e2
       obtain⟨u',r',q⟩:=hl j y v' e1 e2 e3
       refine⟨u',r',?_⟩
       rcases q with q|⟨k,c',e,z'⟩
       ·exact .inl q
       · refine .inr ⟨k,c',e,z'.sameBut hs ?_⟩
         rintro rfl
         exact hj (bT4 hN e1 (I.ok.inj _ _ _ e hc▸hi))
   · by_cases hcc:c'=c
     ·subst hcc;exact⟨_,hc'⟩
     · obtain⟨w2,z2⟩:=I.cell y c' e
       exact⟨w2,z2.sameBut hs hcc⟩
   · obtain⟨e,n,ne,nf,d⟩:=I.pin p hp
     refine⟨(hs.2 p.1 ?_).trans e,n,ne,nf,d⟩
     intro q
     rw[q,hoc]at e
     have q':oc=p.2:=jm e
     exact d w' (by rw[<-q'];exact hocd)
theorem cX8(I:Inv X pins U H s)(hN:X.N.Nodup)(hi:X.N[i]? =some x)(hx:Loc X.env.scope x)(r:u5 v u)
 (h:∀s',Inv X pins (U.set i (some v)) H s'->Q () s') (hf:X.fn x=true\/X.env.scope.names.lookup x=some .local):zt M A (storeName X.env x u) Q E s:=
 cP4 I hN hi hx r (λs' I' _=>h s' I') hf
theorem Inv.call'(I:Inv X pins U H s)(ho:s'.os=s.os)(u:Un (frs X.stack) ch H H' s.heap s'.heap)(hok:HOk X.prog X.w H' s'.heap)(hg:xU s'.gens)
 (hch:∀b∈ch,(b∈X.ex\/X.WY.heap.objs.size<=b)/\b≠X.env.locals/\(∀x c,X.env.cells.lookup x=some c->c≠b)/\∀p∈X.pn++pins,p.1≠b):Inv X pins U H' s':=by
 obtain⟨h',g',d',t',o'⟩:=s'
 have e:o'=s.os:=ho
 subst e
 exact I.call (g':=g') (t':=t') (d':=d') u hok hg hch
end
noncomputable abbrev XK:=zg->Option Addr->Hp->Prop
noncomputable abbrev St:=List (Option V)
noncomputable abbrev VK:=V->Hp->Prop
noncomputable abbrev TE:=St->Hp->VK->Prop
noncomputable abbrev TT:=St->Hp->(Bool->Hp->Prop)->Prop
noncomputable abbrev TA:=St->Hp->(List V->Hp->Prop)->Prop
structure bP4 where
 nx:St->Hp->Prop
 rt:VK
 bk:St->Hp->Prop:=λ_ _=>False
 ct:St->Hp->Prop:=λ_ _=>False
noncomputable abbrev TS:=bP4->St->Hp->Prop
def EP(X:Cx)(pins:PNS)(U:St)(Q:VK)(u:zg)(s':zm):Prop:=∃v H',Inv X pins U H' s'/\u5 v u/\Q v H'
noncomputable def TP(X:Cx)(pins:PNS)(U:St)(Q:Bool->Hp->Prop)(b:Bool)(s':zm):Prop:=∃H',Inv X pins U H' s'/\Q b H'
noncomputable def AP(X:Cx)(pins:PNS)(U:St)(Q:List V->Hp->Prop)(us:List zg)(s':zm):Prop:=∃vs H',Inv X pins U H' s'/\o6 vs us/\Q vs H'
theorem EP.elim{X:Cx}{U:St}{Q:VK}{u:zg}{P:Prop}(h:EP X pins U Q u s)(k:∀v H,Inv X pins U H s->u5 v u->Q v H->P):P:=by
 obtain⟨a,b,c,d,e⟩:=h
 exact k a b c d e
theorem TP.elim{X:Cx}{U:St}{u:Bool}{s:zm}{P:Prop}(h:TP X pins U Q u s)(k:∀H,Inv X pins U H s->Q u H->P):P:=by
 obtain⟨b,c,e⟩:=h
 exact k b c e
theorem AP.elim{X:Cx}{U:St}{u:List zg}{s:zm}{P:Prop}(h:AP X pins U Q u s)(k:∀v H,Inv X pins U H s->o6 v u->Q v H->P):P:=by
 obtain⟨a,b,c,d,e⟩:=h
 exact k a b c d e
def SP(X:Cx)(pins:PNS)(D:bP4)(f:Flow)(s':zm):Prop:=
 match f with
 | .next=>∃ X1 H',Inv X pins X1 H' s'/\D.nx X1 H'
 | .brk=>∃ X1 H',Inv X pins X1 H' s'/\D.bk X1 H'
 | .cont=>∃ X1 H',Inv X pins X1 H' s'/\D.ct X1 H'
 | .ret u=>∃v X1 H',Inv X pins X1 H' s'/\u5 v u/\D.rt v H'
def PE(X:Cx)(e:Expr)(t:TE):Prop:=
 ∀(pins:PNS) (s:zm) (U:St) (H:Hp) (Q:VK),Inv X pins U H s->t U H Q->zt (zB X.prog X.w) X.A (eval e X.env) (EP X pins U Q) X.xe s
def PT(X:Cx)(e:Expr)(t:TT):Prop:=
 ∀(pins:PNS) (s:zm) (U:St) (H:Hp) (Q:Bool->Hp->Prop),Inv X pins U H s->t U H Q->zt (zB X.prog X.w) X.A (isTrue e X.env (eval e X.env)) (TP X pins U Q) X.xe s
def PW(X:Cx)(e:Expr)(t:TT):Prop:=
 ∀(whole:Sem zg) (pins:PNS) (s:zm) (U:St) (H:Hp) (Q:Bool->Hp->Prop),Inv X pins U H s->t U H Q->zt (zB X.prog X.w) X.A (isTrue e X.env whole) (TP X pins U Q) X.xe s
def PA(X:Cx)(es:List Expr)(t:TA):Prop:=
 ∀(pos:Pos) (pins:PNS) (s:zm) (U:St) (H:Hp) (Q:List V->Hp->Prop),Inv X pins U H s->t U H Q->zt (zB X.prog X.w) X.A (spliced (yb pos (zy es X.env))) (AP X pins U Q) X.xe s
def PS(X:Cx)(st:Stmt)(t:TS):Prop:=
 ∀(pins:PNS) (s:zm) (U:St) (H:Hp) (D:bP4),Inv X pins U H s->t D U H->zt (zB X.prog X.w) X.A (exec st X.env) (SP X pins D) X.xe s
def PSs(X:Cx)(st:List Stmt)(t:TS):Prop:=
 ∀(pins:PNS) (s:zm) (U:St) (H:Hp) (D:bP4),Inv X pins U H s->t D U H->zt (zB X.prog X.w) X.A (execs st X.env) (SP X pins D) X.xe s
theorem thn(h:zt M A t Q E s)(hQ:∀a s,Q a s->Q' a s):zt M A t Q' E s:=jx h hQ λ_ _ x=>x
section
variable{X:Cx}
noncomputable def dL0(i:Nat):TE:=λU H Q=>∃v,U[i]? =some (some v)/\Q v H
noncomputable def tC(v:V):TE:=λ_ H Q=>Q v H
theorem cE6(hN:X.N[i]? =some x)(hv:Vis X.env.scope x)(hd:(x==("__debug__" :Str))=false)(hcd:(x==("__classdict__" :Str))=false):PE X (.Name x pos) (dL0 i):=by
 intro pins s U H Q I h
 obtain⟨v,e,h⟩:=h
 obtain⟨m,hn,hl⟩:=I.loc
 obtain⟨u,r,l⟩:=hl i x v hN e hv
 have fin:EP X pins U Q u s:=⟨v,H,I,r,h⟩
 rcases l with⟨hk,hm⟩|⟨hk,c,hc,hcell⟩
 ·exact wpAny_Name (wpAny_loadName_local I.ok.kind hk hn hm fin) hd
 · rcases hk with hk|hk
   ·exact wpAny_Name (wpAny_loadName_cell I.ok.kind hk hc hcell fin) hd
   ·exact wpAny_Name (wpAny_loadName_free I.ok.kind hk hc hcell fin hcd) hd
theorem cC7{i j pos}:PE X (.Constant (.int i) j pos) (tC (.int i)):=λ_ _ _ H _ I h=>wpAny_Constant_int ⟨.int i,H,I.tok _,⟨_,rfl⟩,h⟩
theorem eV8{b j pos}:PE X (.Constant (.bool b) j pos) (tC (.bl b)):=λ_ _ _ H _ I h=>Constant_bool ⟨.bl b,H,I,rfl,h⟩
theorem dZ8{x j pos}:PE X (.Constant (.str x) j pos) (tC (.str x)):=λ_ _ _ H _ I h=>Calls.Constant_str ⟨.str x,H,I.tok _,⟨_,rfl⟩,h⟩
noncomputable def Gl(X:Cx)(x:Str):Prop:=X.env.kindOf x=some .globalImplicit
theorem aM4(I:Inv X pins U H s)(hg:Gl X x)(hm:X.mg x=some u)(h:Q u s)
 (hd:(x==("__debug__" :Str))=false):zt (zB X.prog X.w) X.A (eval (.Name x pos) X.env) Q E s:=
 YF I.ok.kind hg (Calls.loadGlobal_global (by rw[I.ok.glob];exact I.mod.glob.keeps I.bk) hm h) hd
theorem aK6(I:Inv X pins U H s)(hg:Gl X x)(hm:X.mg x=none)(hv:zK x=some u)(h:Q u s)
 (hn:x≠ "__name__":=by decide) (hd:(x==("__debug__" :Str))=false:=by decide):zt (zB X.prog X.w) X.A (eval (.Name x pos) X.env) Q E s:=by
 obtain⟨mb,h1,h2⟩:=I.mod.blt
 exact YF I.ok.kind hg (Calls.loadGlobal_builtin (by rw[I.ok.glob];exact I.mod.glob.keeps I.bk) hm (by rw[I.ok.blt];exact h1.keeps I.bk) ((h2 x hn).trans hv) h) hd
theorem dM6(hg:Gl X x)(hm:X.mg x=none)(hv:zK x=some u)(r:u5 v u)(hn:x≠ "__name__")(hd:(x==("__debug__" :Str))=false):PE X (.Name x pos) (tC v):=
 λ_ _ _ H _ I h=>aK6 I hg hm hv ⟨v,H,I,r,h⟩ hn hd
variable{a b:Expr}{ta tb:TE}{pos:Pos}
variable{tA tB':TT}{j9:List Expr}
noncomputable def fC0(t u:TT):TT:=λU H Q=>t U H λc H1=>if c=true then u U H1 Q else Q false H1
noncomputable def tOr(t u:TT):TT:=λU H Q=>t U H λc H1=>if c=true then Q true H1 else u U H1 Q
noncomputable def fB2(t:TT):TT:=λU H Q=>t U H λc H1=>Q (!c) H1
theorem dR4(ha:PT X a tA):PW X (.BoolOp .And [a] pos) tA:=by
 intro wh pins s U H Q I h
 refine isTrue_and (thn (ha pins s U H Q I h) λc s1 e=>?_)
 cases c with
 |true=>exact isTrue_and_nil e
 |false=>exact e
theorem eA6(ha:PT X a tA):PW X (.BoolOp .Or [a] pos) tA:=by
 intro wh pins s U H Q I h
 refine isTrue_or (thn (ha pins s U H Q I h) λc s1 e=>?_)
 cases c with
 |false=>exact isTrue_or_nil e
 |true=>exact e
theorem eF7(ha:PT X a tA)(hb:PW X (.BoolOp .And (b::j9) pos) tB'):PW X (.BoolOp .And (a::b::j9) pos) (fC0 tA tB'):=by
 intro wh pins s U H Q I h
 refine isTrue_and (thn (ha pins s U H _ I h) λc s1 hE1=>hE1.elim λH1 I1 q1=>?_)
 cases c with
 |true=>exact hb wh pins s1 U H1 Q I1 q1
 |false=>exact⟨H1,I1,q1⟩
theorem eR4(ha:PT X a tA)(hb:PW X (.BoolOp .Or (b::j9) pos) tB'):PW X (.BoolOp .Or (a::b::j9) pos) (tOr tA tB'):=by
 intro wh pins s U H Q I h
 refine isTrue_or (thn (ha pins s U H _ I h) λc s1 hE1=>hE1.elim λH1 I1 q1=>?_)
 cases c with
 |true=>exact⟨H1,I1,q1⟩
 |false=>exact hb wh pins s1 U H1 Q I1 q1
theorem eF1(ha:PT X a tA):PT X (.UnaryOp .Not a pos) (fB2 tA):=by
 intro pins s U H Q I h
 exact isTrue_not (ha pins s U H (λc H1=>Q (!c) H1) I h)
noncomputable def eR7(ta:TE):TE:=λU H Q=>ta U H λx H1=>∃c,x= .bl c/\Q (.bl (!c)) H1
theorem eF0{op}(h:PE X a t):PE X (.BoolOp op [a] pos) t:=λpins s U H Q I hw=>BoolOp_one (h pins s U H Q I hw)
theorem eL5(ha:PE X a ta):PE X (.UnaryOp .Not a pos) (eR7 ta):=by
 intro pins s U H Q I h
 refine UnaryOp_ (thn (ha pins s U H _ I h) λv s1 hE1=>hE1.elim λx H1 I1 r1 q1=>?_)
 obtain⟨c,rfl,q1⟩:=q1
 cases r1
 exact not_of (yp ⟨.bl (!c),H1,I1,rfl,q1⟩)
noncomputable def tIf(t:TT)(ta tb:TE):TE:=λU H Q=>t U H λc H1=>if c=true then ta U H1 Q else tb U H1 Q
theorem dJ5(hc:PT X c tA)(ha:PE X a ta)(hb:PE X b tb):PE X (.IfExp c a b pos) (tIf tA ta tb):=by
 intro pins s U H Q I h
 refine wpAny_IfExp (thn (hc pins s U H _ I h) λd s1 hE1=>hE1.elim λH1 I1 q1=>?_)
 cases d with
 |true=>exact ha pins s1 U H1 Q I1 q1
 |false=>exact hb pins s1 U H1 Q I1 q1
end
def SqL(K:zc)(H:Hp)(a:Addr)(xs:List V):Prop:=
 Rd H a (.lst xs)\/
  ∃(o:Obj) (its:Array zg) (n:Nat),K.lookup a=some o/\o.cls= .type "list"/\o.dict=none/\o.data= .seq its n/\its.size<=zd/\o6 xs its.toList
def SqT(K:zc)(H:Hp)(a:Addr)(xs:List V):Prop:=
 Rd H a (.tup xs)\/
  ∃(o:Obj) (its:Array zg) (n:Nat),K.lookup a=some o/\o.cls= .type "tuple"/\(o.data,o.dict)= (Data.seq its n,none)/\its.size<=zd/\o6 xs its.toList
noncomputable def eZ7:zg->Option V
 | .none=>some .non
 | .bool b=>some (.bl b)
 | .int i _=>some (.int i)
 | .str x _=>some (.str x)
 | .bytes b _=>some (.byt b)
 | .float b _=>some (.flt b)
 | .ref a=>some (.ref a)
 | .type n=>some (.ty n)
 |_=>none
theorem u5.abs(r:u5 x u):eZ7 u=some x:=by
 cases x with
 |non=>cases r;rfl
 |bl _=>cases r;rfl
 |int _=>obtain⟨t,rfl⟩:=r;rfl
 |str _=>obtain⟨t,rfl⟩:=r;rfl
 |byt _=>obtain⟨t,rfl⟩:=r;rfl
 |flt _=>obtain⟨t,rfl⟩:=r;rfl
 |ref _=>cases r;rfl
 |ty _=>cases r;rfl
theorem u5.inj(r:u5 x u)(q:u5 y u):x=y:=jm (r.abs.symm.trans q.abs)
theorem o6.inj(h:o6 xs us)(k:o6 ys us):xs=ys:=by
 induction h generalizing ys with
 |nil=>cases k;rfl
 |cons r t ih=>cases k with
   |cons r' t'=>rw[r.inj r',ih t']
section
theorem SqL.of{K:zc}(h:H a=some (.lst xs)):SqL K H a xs:=.inl (.inl h)
theorem SqT.of{K:zc}(h:H a=some (.tup xs)):SqT K H a xs:=.inl (.inl h)
theorem Inv.list(I:Inv X pins U H s)(h:SqL X.K H a xs):∃its:List zg,o6 xs its/\PlainL s.heap a its.toArray/\xs.length<=zd:=by
 rcases h with h|⟨o,its,n,hk,hc,hd,hs,hz,r⟩
 · obtain⟨z,its,n,r,e⟩:=h.ok I.hok
   exact⟨its,r,⟨_,n,e,rfl,rfl,rfl⟩,z⟩
 · refine⟨its.toList,r,⟨o,n,I.kIn a o hk,hc,hd,by simpa using hs⟩,?_⟩
   have e:=r.length
   simp only[jZ]at e
   lia
theorem Inv.tuple(I:Inv X pins U H s)(h:SqT X.K H a xs):∃its:List zg,o6 xs its/\XM s.heap a its.toArray/\xs.length<=zd:=by
 rcases h with h|⟨o,its,n,hk,hc,hs,hz,r⟩
 · obtain⟨z,its,r,p⟩:=h.ok I.hok
   exact⟨its,r,W8.tup p,z⟩
 · refine⟨its.toList,r,⟨o,I.kIn a o hk,hc,n,by simpa using (Zh hs).1⟩,?_⟩
   have e:=r.length
   simp only[jZ]at e
   lia
theorem Inv.list_inj(I:Inv X pins U H s)(h:SqL X.K H a xs)(h':SqL X.K H a ys):xs=ys:=by
 obtain⟨its,r,⟨o,n,e,_,_,d⟩,_⟩:=I.list h
 obtain⟨its',r',⟨o',n',e',_,_,d'⟩,_⟩:=I.list h'
 rw[e]at e';cases e'
 rw[d]at d'
 injection d' with d1 _
 have:its=its':=by simpa using congrArg Array.toList d1
 subst this
 exact r.inj r'
theorem Inv.tuple_inj(I:Inv X pins U H s)(h:SqT X.K H a xs)(h':SqT X.K H a ys):xs=ys:=by
 obtain⟨its,r,⟨o,e,_,n,d⟩,_⟩:=I.tuple h
 obtain⟨its',r',⟨o',e',_,n',d'⟩,_⟩:=I.tuple h'
 rw[e]at e';cases e'
 rw[d]at d'
 injection d' with d1 _
 have:its=its':=by simpa using congrArg Array.toList d1
 subst this
 exact r.inj r'
end
noncomputable abbrev Cx.wish(X:Cx)(E:VSP):Cx:={X with xe:=E}
noncomputable abbrev Cx.nox(X:Cx):Cx:=X.wish λ_ _=>False
theorem Cx.Ok.wish{X:Cx}(ok:X.Ok)(E:VSP):(X.wish E).Ok:=
 ⟨ok.mod,ok.kind,ok.glob,ok.blt,ok.above,ok.inj,ok.has,ok.cab,ok.hd,ok.frames,ok.stk,ok.exf,ok.bs,ok.bsz,ok.noex,ok.exfs,ok.funs,ok.frf,ok.gd⟩
theorem Cx.Ok.unwish{X:Cx}(ok:(X.wish E).Ok):X.Ok:=
 ⟨ok.mod,ok.kind,ok.glob,ok.blt,ok.above,ok.inj,ok.has,ok.cab,ok.hd,ok.frames,ok.stk,ok.exf,ok.bs,ok.bsz,ok.noex,ok.exfs,ok.funs,ok.frf,ok.gd⟩
section
theorem Inv.wish(I:Inv X pins U H s)(E:VSP):Inv (X.wish E) pins U H s:=⟨I.ok.wish E,I.os,I.bare,I.base,I.loc,I.cell,I.free,I.freeC,I.pin,I.hok,I.len⟩
theorem Inv.unwish(I:Inv (X.wish E) pins U H s):Inv X pins U H s:=⟨I.ok.unwish,I.os,I.bare,I.base,I.loc,I.cell,I.free,I.freeC,I.pin,I.hok,I.len⟩
theorem SP.unwish(h:SP (X.wish E) pins D f s'):SP X pins D f s':=by
 cases f with
 |next=>obtain⟨X1,H',I,q⟩:=h;exact⟨X1,H',I.unwish,q⟩
 |brk=>obtain⟨X1,H',I,q⟩:=h;exact⟨X1,H',I.unwish,q⟩
 |cont=>obtain⟨X1,H',I,q⟩:=h;exact⟨X1,H',I.unwish,q⟩
 |ret u=>obtain⟨v,X1,H',I,r,q⟩:=h;exact⟨v,X1,H',I.unwish,r,q⟩
theorem PE.nox(h:PE X.nox e t):PE X e t:=λpins s U H Q I hw=>
 jx (h pins s U H Q (I.wish _) hw) (λ_ _ ⟨v,H',I',r,q⟩=>⟨v,H',I'.unwish,r,q⟩) λ_ _ z=>jG z
theorem PT.nox(h:PT X.nox e t):PT X e t:=λpins s U H Q I hw=>
 jx (h pins s U H Q (I.wish _) hw) (λ_ _ ⟨H',I',q⟩=>⟨H',I'.unwish,q⟩) λ_ _ z=>jG z
theorem PSs.nox{st:List Stmt}(h:PSs X.nox st t):PSs X st t:=λpins s U H D I hw=>
 jx (h pins s U H D (I.wish _) hw) (λ_ _ q=>q.unwish) λ_ _ z=>jG z
end
section
variable{X:Cx}{st:Stmt}{j9:List Stmt}{t u:TS}
noncomputable def eP1:TS:=λD U H=>D.nx U H
noncomputable def fC6(t u:TS):TS:=λD U H=>t {D with nx:=u D} U H
theorem dM7:PSs X [] eP1:=λ_ _ U H _ I h=>xn ⟨U,H,I,h⟩
theorem cZ8(h1:PS X st t)(h2:PSs X j9 u):PSs X (st::j9) (fC6 t u):=by
 intro pins s U H D I h
 refine YQ (thn (h1 pins s U H {D with nx:=u D} I h) λf s1 q=>?_)
 cases f with
 |next=>
   obtain⟨X1,H',I',q⟩:=q
   exact h2 pins s1 X1 H' D I' q
 |ret v=>exact q
 |brk=>exact q
 |cont=>exact q
theorem dN8(h1:PS X st t):PSs X [st] t:=by
 intro pins s U H D I h
 refine YQ (thn (h1 pins s U H D I h) λf s1 q=>?_)
 cases f with
 |next=>exact xn q
 |ret v=>exact q
 |brk=>exact q
 |cont=>exact q
theorem Inv.quiet(I:Inv X pins U H s):interactive X.env=false:=by simp[interactive,I.ok.kind]
noncomputable def eT2(te:TE):TS:=λD U H=>te U H λ_ H1=>D.nx U H1
theorem dL3(he:PE X e te)(hs:Jq e none pos.line X.env=pure false):PS X (.Expr e pos) (eT2 te):=by
 intro pins s U H D I h
 exact wpAny_Expr_any (thn (he pins s U H _ I h) λv s1 hE1=>hE1.elim λx H1 I1 r1 q1=>⟨U,H1,I1,q1⟩) I.quiet hs
noncomputable def fB9(te:TE):TS:=λD U H=>te U H D.rt
theorem eK8(he:PE X e te):PS X (.Return (some e) pos) (fB9 te):=by
 intro pins s U H D I h
 exact wpAny_Return_some (thn (he pins s U H _ I h) λv s1 hE1=>hE1.elim λx H1 I1 r1 q1=>⟨x,U,H1,I1,r1,q1⟩)
noncomputable def fA2(c:TT)(t u:TS):TS:=λD U H=>c U H λb H1=>if b=true then t D U H1 else u D U H1
theorem eT8{tc:TT}(hc:PT X c tc)(ha:PSs X a t)(hb:PSs X b u):PS X (.If c a b pos) (fA2 tc t u):=by
 intro pins s U H D I h
 refine wpAny_If (thn (hc pins s U H _ I h) λd s1 hE1=>hE1.elim λH1 I1 q1=>?_)
 cases d with
 |true=>exact ha pins s1 U H1 D I1 q1
 |false=>exact hb pins s1 U H1 D I1 q1
end
noncomputable abbrev TG:=V->St->Hp->(St->Hp->Prop)->Prop
noncomputable abbrev TGs:=List V->St->Hp->(St->Hp->Prop)->Prop
def PG(X:Cx)(target:Expr)(t:TG):Prop:=
 ∀(pins:PNS) (s:zm) (U:St) (H:Hp) (v:V) (u:zg) (Q:St->Hp->Prop),Inv X pins U H s->u5 v u->t v U H Q->
  zt (zB X.prog X.w) X.A (Zg target X.env u) (λ_ s'=>∃ X1 H',Inv X pins X1 H' s'/\Q X1 H') X.xe s
noncomputable def PGs(X:Cx)(ts:List Expr)(t:TGs):Prop:=
 ∀(pins:PNS) (s:zm) (U:St) (H:Hp) (vs:List V) (us:List zg) (Q:St->Hp->Prop),Inv X pins U H s->o6 vs us->t vs U H Q->
  zt (zB X.prog X.w) X.A (assignInOrder ((yw ts X.env).map (·.2)) us) (λ_ s'=>∃ X1 H',Inv X pins X1 H' s'/\Q X1 H') X.xe s
noncomputable abbrev TSet:=V->V->V->Hp->(Hp->Prop)->Prop
def eJ3(X:Cx)(t:TSet):Prop:=
 ∀(pins:PNS) (s:zm) (U:St) (H:Hp) (o i v:V) (ov iv u:zg) (Q:Hp->Prop),Inv X pins U H s->u5 o ov->u5 i iv->u5 v u->t o i v H Q->
  zt (zB X.prog X.w) X.A (setItem ov iv u) (λ_ s'=>∃H',Inv X pins U H' s'/\Q H') X.xe s
section
noncomputable def eU3(i:Nat):TG:=λv U H Q=>Q (U.set i (some v)) H
theorem dK8(hN:X.N.Nodup)(hi:X.N[i]? =some x)(hx:Loc X.env.scope x)(hf:X.fn x=true\/X.env.scope.names.lookup x=some .local):PG X (.Name x pos) (eU3 i):=by
 intro pins s U H v u Q I r h
 exact wpAny_assign_Name (cX8 I hN hi hx r (λs' I'=>⟨_,H,I',h⟩) hf)
noncomputable def fC9:TGs:=λvs U H Q=>vs= []/\Q U H
noncomputable def eW4(t:TG)(u:TGs):TGs:=λvs U H Q=>∃v r,vs=v::r/\t v U H λX1 H'=>u r X1 H' Q
theorem dT3:PGs X [] fC9:=by
 intro pins s U H vs us Q I r h
 obtain⟨e,h⟩:=h
 subst e
 cases r
 exact assignInOrder_nil ⟨U,H,I,h⟩
theorem dE4(h1:PG X e t)(h2:PGs X es u)
 (hs:(yw (e::es) X.env).map (·.2)=Zg e X.env::(yw es X.env).map (·.2)):PGs X (e::es) (eW4 t u):=by
 intro pins s U H vs us Q I r h
 obtain⟨v,vr,e1,h⟩:=h
 subst e1
 cases r with
 |cons r rr=>
   rw[hs]
   refine assignInOrder_cons (thn (h1 pins s U H _ _ _ I r h) λ_ s1 ⟨WZ,H1,I1,q1⟩=>?_)
   exact h2 pins s1 WZ H1 _ _ Q I1 rr q1
def eZ9(K:zc)(n:Nat)(t:TGs):TG:=λv U H Q=>∃a xs,v= .ref a/\SqT K H a xs/\xs.length=n/\t xs U H Q
theorem eG3(hc:X.calm=true)(h:PGs X es t)
 (hn:(yw es X.env).length=n) (hst:(yw es X.env).findIdx? (·.1)=none):PG X (.Tuple es k pos) (eZ9 X.K n t):=by
 intro pins s U H v u Q I r hw
 obtain⟨a,xs,e1,hq,hl,hw⟩:=hw
 subst e1
 cases r
 obtain⟨its,rv,ht,hz⟩:=I.tuple hq
 refine assign_Tuple_tuple (I.ok.hd hc) ht (by simp[hn,<-hl,rv.length]) hst λh' hx=>?_
 have I1:Inv X pins U H {s with heap:=h'}:=I.kept (t':=s.toks) λb o e=>hx b o (zE (zl e)) e
 exact h pins _ U H xs _ Q I1 (by simpa using rv) hw
noncomputable def fD1(to ti:TE)(t:TSet):TG:=λv U H Q=>to U H λo H1=>ti U H1 λi H2=>t o i v H2 λH3=>Q U H3
theorem eC5(ho:PE X o to)(hi:PE X i ti)(hs:eJ3 X t)
 (ha:∀v,Zg (.Subscript o i pos) X.env v= (do
   let ov <-ZV [v] (eval o X.env)
   let iv <-ZV [v,ov] (eval i X.env)
   standAt pos
   ZV [v,ov,iv] (setItem ov iv v)
   release [v,ov,iv] [])):PG X (.Subscript o i pos) (fD1 to ti t):=by
 intro pins s U H v u Q I r h
 rw[ha]
 refine za (yt (thn (ho pins s U H _ I h) λov s1 ⟨x,H1,I1,r1,q1⟩=>?_))
 refine za (yt (thn (hi pins s1 U H1 _ I1 q1) λiv s2 ⟨y,H2,I2,r2,q2⟩=>?_))
 refine za (Jd (za (yt (thn (hs pins s2 U H2 x y v ov iv u _ I2 r1 r2 r q2) λ_ s3 ⟨H3,I3,q3⟩=>?_))))
 exact wpAny_release ⟨U,H3,I3,q3⟩
noncomputable def fA1(te:TE)(g:TG):TS:=λD U H=>te U H λx H1=>g x U H1 D.nx
theorem dJ6{g:TG}(he:PE X e te)(hg:PG X tg g)(hs:Jf [tg] e pos.line X.env=pure false)(hw:Jg [tg] e X.env=pure none)
 (h1:(yw [tg] X.env).map (·.2)= [Zg tg X.env]):PS X (.Assign [tg] e pos) (fA1 te g):=by
 intro pins s U H D I h
 refine wpAny_Assign_stores (thn (he pins s U H _ I h) λv s1 hE1=>hE1.elim λx H1 I1 r1 q1=>?_) hs hw
 rw[h1]
 exact thn (hg pins s1 U H1 x v _ I1 r1 q1) λ_ s2 q=>q
end
section
noncomputable def eK3(c:TT)(tb:TS):TS:=λD U H=>∃W:Nat->St->Hp->Prop,(∃m,W m U H)/\∀m U H,W m U H->
 c U H λb H1=>if b=true then ∃N:St->Hp->Prop,(∀ X1 H',N X1 H'->∃m',m'<m/\W m' X1 H')/\tb {D with nx:=N,ct:=N,bk:=D.nx} U H1 else D.nx U H1
theorem dF7{tc:TT}{tb:TS}(hp:Jy (zB X.prog X.w) X.A X.env X.xe)(hc:PT X c tc)(hb:PSs X body tb):PS X (.While c body [] pos) (eK3 tc tb):=by
 intro pins s U H D I h
 obtain⟨W,⟨m0,w0⟩,turn⟩:=h
 refine wpAny_While (codeAny_whileLoop (λn s'=>∃ X1 H',Inv X pins X1 H' s'/\W n X1 H') ?_ m0 ⟨U,H,I,w0⟩)
 rintro n s1 ⟨WZ,H1,I1,w1⟩
 refine wpAny_passesOwn hp (thn (hc pins s1 WZ H1 _ I1 (turn n WZ H1 w1)) λb s2 hE1=>hE1.elim λH2 I2 q2=>?_)
 cases b with
 |true=>
   obtain⟨N,hN,q2⟩:=q2
   rw[if_pos rfl]
   refine wpAny_passesOwn hp (thn (hb pins s2 WZ H2 _ I2 q2) λf s3 q3=>?_)
   cases f with
   |next=>
     obtain⟨WM,H3,I3,n3⟩:=q3
     obtain⟨m',hm,w3⟩:=hN WM H3 n3
     exact⟨m',hm,WM,H3,I3,w3⟩
   |cont=>
     obtain⟨WM,H3,I3,n3⟩:=q3
     obtain⟨m',hm,w3⟩:=hN WM H3 n3
     exact⟨m',hm,WM,H3,I3,w3⟩
   |brk=>exact q3
   |ret v=>exact q3
 |false=>
   rw[if_neg zJ]
   exact xn ⟨WZ,H2,I2,q2⟩
end
structure It where
 go:Nat->Hp->Prop
 yld:Nat->Hp->V->Hp->Prop
 stop:Nat->Hp->Prop
noncomputable def aK2(X:Cx)(pins:PNS)(H:Hp)(b:Addr):Prop:=
 H b=none/\b≠X.env.locals/\b∉X.fs/\(b∈X.ex\/X.WY.heap.objs.size<=b)/\(∀x c,X.env.cells.lookup x=some c->c≠b)/\∀p∈X.pn++pins,p.1≠b
theorem Inv.fpOk(I:Inv X pins U H s)(hb:s.heap.objs.size<=b)(hn:H' b=none):aK2 X pins H' b:=by
 refine⟨hn,yn (zP I.lt hb),I.nofs hb,.inr (zu I.sz hb),λx c e z=>?_,λp hp z=>?_⟩
 · obtain⟨v,q⟩:=I.cell x c e
   exact absurd (zP q.lt (by rw[z];exact hb)) (yJ _)
 ·exact absurd (zP (zl (I.pin p hp).1) (by rw[z];exact hb)) (yJ _)
inductive TIt(X:Cx)(pins:PNS)(U:St)(J:It)(fp:List Addr)(tn:Nat->Heap->Prop)(i:Nat)(H:Hp)(u:zg)(s2:zm):Prop
 |mk (x:V) (H':Hp) (I:Inv X pins U H' s2) (r:u5 x u) (y:J.yld i H x H') (st:tn (i+1) s2.heap) (fr:∀b∈fp,H' b=none)
structure bC7(P:zC)(w:zN)(K:zc)(tg:Expr)(J:It)(fp:List Addr)(it:Addr)(tn:Nat->Heap->Prop):Prop where
 mem:it∈fp
 obj:∀i h,tn i h->∀b∈fp,∃o,h.get? b=some o/\∀v,o.data≠ .cell v
 keep:∀i h h',tn i h->(∀b∈fp,∀o,h.get? b=some o->h'.get? b=some o)->tn i h'
 item:∀(X:Cx),X.prog=P->X.w=w->X.K=K->X.calm=true->∀(i:Nat) (pins:PNS) (s:zm) (U:St) (H:Hp) (E:VSP),Inv X pins U H s->(∀b∈fp,aK2 X pins H b)->tn i s.heap->J.go i H->
  zt (zB P w) X.A (Yq (.ref it)) (λr s1=>∃u,r=some u/\
   zt (zB P w) X.A (xo tg (.ref it) u) (λ_ s2=>TIt X pins U J fp tn i H u s2) E s1) E s
 done:∀(X:Cx),X.prog=P->X.w=w->X.K=K->X.calm=true->∀(i:Nat) (pins:PNS) (s:zm) (U:St) (H:Hp) (E:VSP),Inv X pins U H s->(∀b∈fp,aK2 X pins H b)->tn i s.heap->J.stop i H->
  zt (zB P w) X.A (Yq (.ref it)) (λr s1=>r=none/\Inv X pins U H s1) E s
 self:∀(A:zT) (i:Nat) (s:zm) (Q:VSP) (E:VSP),tn i s.heap->Q (.ref it) s->zt (zB P w) A (pyIter (.ref it)) Q E s
noncomputable abbrev TI:=St->Hp->(It->Hp->Prop)->Prop
inductive PIE(X:Cx)(pins:PNS)(U:St)(tg:Expr)(R:It->Hp->Prop)(itv:zg)(s2:zm):Prop
 |mk (it:Addr) (fp:List Addr) (tn:Nat->Heap->Prop) (J:It) (H':Hp) (e:itv= .ref it) (I:Inv X pins U H' s2) (T:bC7 X.prog X.w X.K tg J fp it tn) (st:tn 0 s2.heap) (f:∀b∈fp,aK2 X pins H' b) (r:R J H')
noncomputable def PI(X:Cx)(tg iter:Expr)(wi:TI):Prop:=
 ∀(pins:PNS) (s:zm) (U:St) (H:Hp) (R:It->Hp->Prop),Inv X pins U H s->wi U H R->
  zt (zB X.prog X.w) X.A (eval iter X.env) (λv s1=>zt (zB X.prog X.w) X.A (pyIter v) (PIE X pins U tg R) X.xe s1) X.xe s
theorem bJ7(ho:s.heap.get? it=some o)(hc:o.cls= .type n)(hd:o.data= .fields vs)
 (hn: ["enumerate", "zip", "dict_itemiterator", "dict_reverseitemiterator", "odict_iterator", "itertools.zip_longest", "itertools.pairwise"].contains n=false) (hQ:Q () s):zt M A (xo tg (.ref it) u) Q E s:=by
 unfold xo
 cases tg<;>first
  |exact zo hQ
  | (cases u <;> first
      |exact zo hQ
      | (refine za (wpAny_load ho ?_)
         rw[hc,hd]
         show zt M A (if (["enumerate", "zip", "dict_itemiterator", "dict_reverseitemiterator", "odict_iterator", "itertools.zip_longest", "itertools.pairwise"].contains n&&vs[0]? == some (xg _))=true then _ else _) Q E s
         rw[if_neg (by intro h;rw[hn,Bool.false_and]at h;cases h)]
         exact zo hQ))
def Itl(K:zc)(a:Addr):It:=
 ⟨λi H=>∃xs x,SqL K H a xs/\xs[i]? =some x,λi H x H'=>H'=H/\∀xs,SqL K H a xs->xs[i]? =some x,λi H=>∃xs,SqL K H a xs/\xs.length<=i⟩
def Itt(K:zc)(a:Addr):It:=
 ⟨λi H=>∃xs x,SqT K H a xs/\xs[i]? =some x,λi H x H'=>H'=H/\∀xs,SqT K H a xs->xs[i]? =some x,λi H=>∃xs,SqT K H a xs/\xs.length<=i⟩
noncomputable def Itr(lo:Int)(n:Nat):It:=⟨λi _=>i<n,λi H x H'=>H'=H/\x= .int (lo+i),λi _=>n<=i⟩
theorem cU1{w:zN}{K:zc}{tg:Expr}(a it:Addr):bC7 P w K tg (Itl K a) [it] it (λi h=>h.IsListIter it a i) where
 mem:=by simp
 obj:=λi h st b hb=>by
  have e:b=it:=by simpa using hb
  subst e
  obtain⟨o,e,c,d⟩:=st
  exact⟨o,e,λv z=>by rw[d]at z;cases z⟩
 keep:=λi h h' st k=>st.at λo e=>k it (by simp) o e
 item:=by
  intro X hP hw hK hc i pins s U H E I hf st hg
  subst hP hw hK
  obtain⟨xs,x,hq,hx⟩:=hg
  obtain⟨its,rv,p,hz⟩:=I.list hq
  obtain⟨u,hu,ru⟩:=rv.get hx
  obtain⟨f0,f1,f2,f3,f4,f5⟩:=hf it (by simp)
  refine wpAny_pyNext_list_item st p.isList (x:=u) (by simpa using hu) λh' st' sb=>?_
  have I1:Inv X pins U H {s with heap:=h'}:=I.turned (t':=s.toks) (λb o hb e=>(sb.2 b hb).trans e) f0 f1 f3 f4 f5
  obtain⟨o,e,c,d⟩:=id st'
  exact⟨u,rfl,bJ7 (s:={s with heap:=h'}) e c d (by decide) ⟨x,H,I1,ru,⟨rfl,λys hy=>by rw[I.list_inj hy hq];exact hx⟩,st',λb hb=>(hf b hb).1⟩⟩
 done:=by
  intro X hP hw hK hc i pins s U H E I hf st hg
  subst hP hw hK
  obtain⟨xs,hq,hx⟩:=hg
  obtain⟨its,rv,p,hz⟩:=I.list hq
  obtain⟨f0,f1,f2,f3,f4,f5⟩:=hf it (by simp)
  have hl:=rv.length
  exact wpAny_pyNext_list_end (I.ok.hd hc) st p.isList (by simp;lia) λh' eb=>⟨rfl,I.turned (t':=s.toks) (λb o hb e=>eb b o hb e) f0 f1 f3 f4 f5⟩
 self:=λ_ _ _ _ _ st h=>wpAny_pyIter_listiter st h
theorem cE4{w:zN}{K:zc}{tg:Expr}(a it:Addr):bC7 P w K tg (Itt K a) [it] it (λi h=>h.IsTupleIter it a i) where
 mem:=by simp
 obj:=λi h st b hb=>by
  have e:b=it:=by simpa using hb
  subst e
  obtain⟨o,e,c,d⟩:=st
  exact⟨o,e,λv z=>by rw[d]at z;cases z⟩
 keep:=λi h h' st k=>st.at λo e=>k it (by simp) o e
 item:=by
  intro X hP hw hK hc i pins s U H E I hf st hg
  subst hP hw hK
  obtain⟨xs,x,hq,hx⟩:=hg
  obtain⟨its,rv,p,hz⟩:=I.tuple hq
  obtain⟨u,hu,ru⟩:=rv.get hx
  obtain⟨f0,f1,f2,f3,f4,f5⟩:=hf it (by simp)
  refine wpAny_pyNext_tuple_item st (show s.heap.IsTuple a its.toArray from p) (x:=u) (by simpa using hu) λh' st' sb=>?_
  have I1:Inv X pins U H {s with heap:=h'}:=I.turned (t':=s.toks) (λb o hb e=>(sb.2 b hb).trans e) f0 f1 f3 f4 f5
  obtain⟨o,e,c,d⟩:=id st'
  exact⟨u,rfl,bJ7 (s:={s with heap:=h'}) e c d (by decide) ⟨x,H,I1,ru,⟨rfl,λys hy=>by rw[I.tuple_inj hy hq];exact hx⟩,st',λb hb=>(hf b hb).1⟩⟩
 done:=by
  intro X hP hw hK hc i pins s U H E I hf st hg
  subst hP hw hK
  obtain⟨xs,hq,hx⟩:=hg
  obtain⟨its,rv,p,hz⟩:=I.tuple hq
  obtain⟨f0,f1,f2,f3,f4,f5⟩:=hf it (by simp)
  have hl:=rv.length
  exact wpAny_pyNext_tuple_end (I.ok.hd hc) st (show s.heap.IsTuple a its.toArray from p) (by simp;lia) λh' eb=>⟨rfl,I.turned (t':=s.toks) (λb o hb e=>eb b o hb e) f0 f1 f3 f4 f5⟩
 self:=λ_ _ _ _ _ st h=>wpAny_pyIter_tupleiter st h
theorem cA0{w:zN}{K:zc}{tg:Expr}(it:Addr)(lo:Int)(n:Nat):bC7 P w K tg (Itr lo n) [it] it (λi h=>IsRangeIter h it (lo+(i:Nat)*1) ((n:Int)-(i:Nat)) 1) where
 mem:=by simp
 obj:=λi h st b hb=>by
  have e:b=it:=by simpa using hb
  subst e
  exact⟨_,st,λv z=>by
   have z':Data.fields _=Data.cell v:=z
   cases z'⟩
 keep:=λi h h' st k=>k it (by simp) _ st
 item:=by
  intro X hP hw hK hc i pins s U H E I hf st hg
  subst hP hw hK
  obtain⟨f0,f1,f2,f3,f4,f5⟩:=hf it (by simp)
  have W:=Walks.range (prog:=X.prog) (w:=X.w) (I.ok.hd hc) it lo 1 n
  refine W.item i s _ _ hg st λv h' tk hv st' kk=>?_
  obtain⟨t,rfl⟩:=hv
  have I1:Inv X pins U H {s with heap:=h',toks:=tk}:=I.turned (λb o hb e=>kk b o (by simpa using hb) e) f0 f1 f3 f4 f5
  refine⟨_,rfl,bJ7 (s:={s with heap:=h',toks:=tk}) (n:= "range_iterator") st' rfl rfl (by decide) ⟨.int (lo+i),H,I1,⟨t,?_⟩,⟨rfl,rfl⟩,st',λb hb=>(hf b hb).1⟩⟩
  rw[Int.mul_one]
 done:=by
  intro X hP hw hK hc i pins s U H E I hf st hg
  subst hP hw hK
  obtain⟨f0,f1,f2,f3,f4,f5⟩:=hf it (by simp)
  exact wpAny_pyNext_range_end (I.ok.hd hc) st (by have:n<=i:=hg;lia) λh' eb=>⟨rfl,I.turned (t':=s.toks) (λb o hb e=>eb b o hb e) f0 f1 f3 f4 f5⟩
 self:=λ_ _ _ _ _ st h=>wpAny_pyIter_rangeiter st h
section
theorem cV7{U:St}{H:Hp}{s:zm}{R:It->Hp->Prop}{lo hi:Int}{t u v:Tok}{tk:Nat}(I:Inv X pins U H s)(h1: -(2 ^ 62)<=lo)(h2:lo<2 ^ 62)(h3: -(2 ^ 62)<=hi)(h4:hi<2 ^ 62)
 (q:R (Itr lo (hi-lo).toNat) H):zt (zB X.prog X.w) X.A (pyIter (.ref s.heap.objs.size)) (PIE X pins U tg R) E {s with heap:=s.heap.push {cls:=.type "range",data:=.fields #[.int lo t,.int hi u,.int 1 v]},toks:=tk}:=by
 refine wpAny_pyIter_range (IsRange.new ..) (small_one h1 h2 h3 h4) ?_
 have I1:Inv X pins U H {s with heap:=s.heap.push {cls:=.type "range",data:=.fields #[.int lo t,.int hi u,.int 1 v]},toks:=tk}:=I.kept λb o e=>zf _ e
 refine⟨(s.heap.push {cls:=.type "range",data:=.fields #[.int lo t,.int hi u,.int 1 v]}).objs.size, [(s.heap.push {cls:=.type "range",data:=.fields #[.int lo t,.int hi u,.int 1 v]}).objs.size],_,_,H,rfl,
  I1.kept (t':=tk) λb o e=>zf _ e,cA0 _ lo (hi-lo).toNat,?_,λb hb=>?_,q⟩
 · have e1:lo+((0:Nat):Int)*1=lo:=by simp
   have e2:(((hi-lo).toNat:Nat):Int)-((0:Nat):Int)=Builtin.Range.rangeSize lo hi 1:=by rw[rangeSize_one];split<;>lia
   show IsRangeIter _ _ (lo+((0:Nat):Int)*1) ((((hi-lo).toNat:Nat):Int)-((0:Nat):Int)) 1
   rw[e1,e2]
   exact zq _ rfl
 · have e:b= (s.heap.push {cls:=.type "range",data:=.fields #[.int lo t,.int hi u,.int 1 v]}).objs.size:=by simpa using hb
   subst e
   exact I1.fpOk (zj _) (I1.hok.fresh (zj _))
def eT4(ta:TA):TI:=λU H R=>ta U H λvs H1=>∃j:Int,vs= [.int j]/\ -(2 ^ 62)<=j/\j<2 ^ 62/\R (Itr 0 j.toNat) H1
theorem cS8{ta:TA}(hg:Gl X "range")(hm:X.mg "range" =none)(ha:PA X [a] ta)(hs:zy [a] X.env= [(false,eval a X.env)]):PI X tg (.Call (.Name "range" p) [a] [] pos) (eT4 ta):=by
 intro pins s U H R I h
 refine Call_ (aK6 I hg hm boot_range (jB (thn (ha pos pins s U H _ I h) λus s1 hE1=>hE1.elim λvs H1 I1 r1 q1=>?_) hs rfl))
 obtain⟨j,e,q1,q2,q⟩:=q1
 subst e
 cases r1 with
 |cons r rr=>
   cases rr
   obtain⟨t,rfl⟩:=r
   exact call_range_1 (cV7 I1 (by lia) (by lia) q1 q2 (by simpa using q))
noncomputable def eZ0(wi:TI)(g:TG)(tb:TS):TS:=λD U H=>wi U H λJ H1=>∃W:Nat->Nat->St->Hp->Prop,(∃m,W 0 m U H1)/\∀i m U H,W i m U H->
 (J.stop i H/\D.nx U H)\/(J.go i H/\∃N:St->Hp->Prop,(∀ X1 H',N X1 H'->∃m',m'<m/\W (i+1) m' X1 H')/\∀x H',J.yld i H x H'->g x U H' λWL H2=>tb {D with nx:=N,ct:=N,bk:=D.nx} WL H2)
noncomputable def bC6(fp:List Addr)(h:Heap):PNS:=fp.filterMap λb=>(h.get? b).map λo=>(b,o)
theorem aE1(hb:b∈fp)(e:h.get? b=some o):(b,o)∈bC6 fp h:=yC.mpr ⟨b,hb,by rw[e];rfl⟩
theorem cO5(hp:p∈bC6 fp h):p.1∈fp/\h.get? p.1=some p.2:=by
 obtain⟨b,hb,e⟩:=yC.mp hp
 cases q:h.get? b with
 |none=>rw[q]at e;cases e
 |some o=>
   rw[q]at e
   have e':(b,o)=p:=jm e
   subst e'
   exact⟨hb,q⟩
theorem Inv.pinned(I:Inv X pins U H s)(hf:∀b∈fp,aK2 X pins H b)(ho:∀b∈fp,∃o,s.heap.get? b=some o/\∀v,o.data≠ .cell v):Inv X (pins++bC6 fp s.heap) U H s:=
 I.pins_of λp hp=>(je.mp hp).elim (λz=>I.pin p (zR _ z)) λz=>by
  obtain⟨hb,e⟩:=cO5 z
  obtain⟨f0,f1,f2,_⟩:=hf p.1 hb
  obtain⟨o,e',d⟩:=ho p.1 hb
  rw[e]at e';cases e'
  exact⟨e,f0,f1,f2,d⟩
theorem Inv.unpinned(I:Inv X (pins++pl) U H s):Inv X pins U H s:=I.pins_of λp hp=>I.pin p (zR _ (yR _ hp))
inductive eK0(X:Cx)(pins:PNS)(fp:List Addr)(tn:Nat->Heap->Prop)(W:Nat->Nat->St->Hp->Prop)(n:Nat)(s':zm):Prop
 |mk (i:Nat) (X1:St) (H':Hp) (I:Inv X pins X1 H' s') (st:tn i s'.heap) (fr:∀b∈fp,H' b=none) (w:W i n X1 H')
theorem dM8{body:List Stmt}{g:TG}{tb:TS}{pins:PNS}{D:bP4}{it:Addr}{fp:List Addr}{tn:Nat->Heap->Prop}{J:It}(hp:∀e s,X.xe e s->EE e s)(hc:X.calm=true)(hg:PG X tg g)(hb:PSs X body tb)
 (T:bC7 X.prog X.w X.K tg J fp it tn) (stat:∀ {H':Hp},(∀b∈fp,H' b=none)->∀b∈fp,aK2 X pins H' b)
 (turn:∀i m U H,W i m U H->
 (J.stop i H/\D.nx U H)\/(J.go i H/\∃N:St->Hp->Prop,(∀ X1 H',N X1 H'->∃m',m'<m/\W (i+1) m' X1 H')/\∀x H',J.yld i H x H'->g x U H' λWL H2=>tb {D with nx:=N,ct:=N,bk:=D.nx} WL H2))
   {n:Nat} {s3:zm} (h3:eK0 X pins fp tn W n s3) {NX:zm->Prop} (nx:∀m s,m<n->eK0 X pins fp tn W m s->NX s):
   zt (zB X.prog X.w) X.A (Yq (.ref it)) (λr s1=>match r with
    |none=>zt (zB X.prog X.w) X.A (execs [] X.env) (λf s2=>SP X pins D f s2) EE s1
    | some v => zt (zB X.prog X.w) X.A (xo tg (.ref it) v) (λ_ s2 => zt (zB X.prog X.w) X.A (Zg tg X.env v) (λ_ s4 => zt (zB X.prog X.w) X.A (execs body X.env) (λf s5 => match f with
       | .next| .cont=>NX s5
       | .brk=>SP X pins D .next s5
       | .ret v=>SP X pins D (.ret v) s5) EE s4) EE s2) EE s1) EE s3:=by
 obtain⟨i,WM,H3,I3,st3,fr3,w3⟩:=h3
 rcases turn i n WM H3 w3 with⟨stop,qn⟩|⟨go,N,hN,step⟩
 · refine jx (T.done X rfl rfl rfl hc i pins s3 WM H3 X.xe I3 (stat fr3) st3 stop) (λr s4 z1=>?_) hp
   obtain⟨hr,I4⟩:=z1
   subst hr
   exact xn ⟨WM,H3,I4,qn⟩
 · refine jx (T.item X rfl rfl rfl hc i pins s3 WM H3 X.xe I3 (stat fr3) st3 go) (λr s4 z2=>?_) hp
   obtain⟨u,hr,h4⟩:=z2
   subst hr
   refine jx h4 (λ_ s5 z3=>?_) hp
   obtain⟨x,H5,I5,r5,y5,st5,fr5⟩:=z3
   have I5':=I5.pinned (stat fr5) (T.obj _ _ st5)
   refine jx (hg _ s5 WM H5 x u _ I5' r5 (step x H5 y5)) (λ_ s6 z4=>?_) hp
   obtain⟨WR,H6,I6,q6⟩:=z4
   refine jx (hb _ s6 WR H6 _ I6 q6) (λf s7 q7=>?_) hp
   have again:∀ {WQ:St} {H7:Hp},Inv X (pins++bC6 fp s5.heap) WQ H7 s7->N WQ H7->NX s7:=λ{WQ H7} I7 n7=>by
    obtain⟨m',hm,w7⟩:=hN WQ H7 n7
    refine nx m' _ hm ⟨i+1,WQ,H7,I7.unpinned,T.keep _ _ _ st5 λb hb o e=>(I7.pin (b,o) (zR _ (zR _ (aE1 hb e)))).1,λb hb=>?_,w7⟩
    obtain⟨o,e,d⟩:=T.obj _ _ st5 b hb
    exact(I7.pin (b,o) (zR _ (zR _ (aE1 hb e)))).2.1
   cases f with
   |next=>obtain⟨WQ,H7,I7,n7⟩:=q7;exact again I7 n7
   |cont=>obtain⟨WQ,H7,I7,n7⟩:=q7;exact again I7 n7
   |brk=>obtain⟨WQ,H7,I7,q7⟩:=q7;exact⟨WQ,H7,I7.unpinned,q7⟩
   |ret v=>obtain⟨x7,WQ,H7,I7,r7,q7⟩:=q7;exact⟨x7,WQ,H7,I7.unpinned,r7,q7⟩
theorem eB2(hp:Jy (zB X.prog X.w) X.A X.env X.xe)(hc:X.calm=true)(hi:PI X tg iter wi)(hg:PG X tg g)(hb:PSs X body tb)
 (hs:∀x,yq iter X.env x=pure x):PS X (.For tg iter body [] pos) (eZ0 wi g tb):=by
 intro pins s U H D I h
 refine wpAny_For (thn (hi pins s U H _ I h) λv s1 h1=>thn h1 λitv s2 h2=>?_) hs
 obtain⟨it,fp,tn,J,H2,e,I2,T,st2,f2,W,⟨m0,w0⟩,turn⟩:=h2
 subst e
 -- what stays true of the iterator's objects through the loop
 have stat:∀ {H':Hp},(∀b∈fp,H' b=none)->∀b∈fp,aK2 X pins H' b:=λhn b hb=>⟨hn b hb,(f2 b hb).2⟩
 exact codeAny_forLoop_any (eK0 X pins fp tn W) (λn s3 h3=>dM8 hp hc hg hb T stat turn h3 λm s h1 h2=>⟨m,h1,h2⟩) m0 ⟨0,U,H2,I2,st2,λb hb=>(f2 b hb).1,w0⟩
end
noncomputable abbrev R2:=V->V->Hp->VK->Prop
def OpR(X:Cx)(f:zg->zg->Sem zg)(r:R2):Prop:=
 ∀(pins:PNS) (s:zm) (U:St) (H:Hp) (x y:V) (v u:zg) (Q:VK),Inv X pins U H s->u5 x v->u5 y u->r x y H Q->
  zt (zB X.prog X.w) X.A (f v u) (EP X pins U Q) X.xe s
def UnR(X:Cx)(f:zg->Sem zg)(r:V->Hp->VK->Prop):Prop:=
 ∀(pins:PNS) (s:zm) (U:St) (H:Hp) (x:V) (v:zg) (Q:VK),Inv X pins U H s->u5 x v->r x H Q->
  zt (zB X.prog X.w) X.A (f v) (EP X pins U Q) X.xe s
def U7(X:Cx)(f:zg)(r:List V->Hp->VK->Prop):Prop:=
 ∀(pins:PNS) (s:zm) (U:St) (H:Hp) (xs:List V) (us:List zg) (Q:VK),Inv X pins U H s->o6 xs us->r xs H Q->
  zt (zB X.prog X.w) X.A (call f us) (EP X pins U Q) X.xe s
def fA9(X:Cx)(r:V->Hp->(Bool->Hp->Prop)->Prop):Prop:=
 ∀(pins:PNS) (s:zm) (U:St) (H:Hp) (x:V) (v:zg) (Q:Bool->Hp->Prop),Inv X pins U H s->u5 x v->r x H Q->
  zt (zB X.prog X.w) X.A (truthy v) (TP X pins U Q) X.xe s
noncomputable def tOp(r:R2)(ta tb:TE):TE:=λU H Q=>ta U H λx H1=>tb U H1 λy H2=>r x y H2 Q
noncomputable def tUn(r:V->Hp->VK->Prop)(ta:TE):TE:=λU H Q=>ta U H λx H1=>r x H1 Q
noncomputable def rI(C:Int->Int->Prop)(g:Int->Int->V):R2:=λx y H Q=>∃i j,x= .int i/\y= .int j/\C i j/\Q (g i j) H
noncomputable def rI0(g:Int->Int->V):R2:=λx y H Q=>∃i j,x= .int i/\y= .int j/\Q (g i j) H
noncomputable def rU(g:Int->V):V->Hp->VK->Prop:=λx H Q=>∃i,x= .int i/\Q (g i) H
section
theorem eI7(ha:PE X a ta)(hb:PE X b tb){pins:PNS}{s:zm}{U:St}{H:Hp}{R:V->V->Hp->Prop}(I:Inv X pins U H s)
 (h:ta U H λx H1=>tb U H1 λy H2=>R x y H2) {f:zg->zg->Sem zg}
 (hf:∀v u s2 x y H2,Inv X pins U H2 s2->u5 x v->u5 y u->R x y H2->zt (zB X.prog X.w) X.A (f v u) Q X.xe s2):
 zt (zB X.prog X.w) X.A (eval a X.env) (λv W1=>zt (zB X.prog X.w) X.A (eval b X.env) (λu s₂=>zt (zB X.prog X.w) X.A (f v u) Q X.xe s₂) X.xe W1) X.xe s:=by
 refine thn (ha pins s U H _ I h) λv s1 hE1=>hE1.elim λx H1 I1 r1 q1=>?_
 refine thn (hb pins s1 U H1 _ I1 q1) λu s2 hE1=>hE1.elim λy H2 I2 r2 q2=>?_
 exact hf v u s2 x y H2 I2 r1 r2 q2
theorem cW9(ho:OpR X (jL op) r)(ha:PE X a ta)(hb:PE X b tb):PE X (.BinOp a op b pos) (tOp r ta tb):=by
 intro pins s U H Q I h
 exact wpAny_BinOp (eI7 ha hb I h λv u s2 x y H2 I2 rx ry q=>ho pins s2 U H2 x y v u Q I2 rx ry q)
theorem dX6(ho:UnR X (unaryOp op) r)(ha:PE X a ta):PE X (.UnaryOp op a pos) (tUn r ta):=by
 intro pins s U H Q I h
 exact UnaryOp_ (thn (ha pins s U H _ I h) λv s1 hE1=>hE1.elim λx H1 I1 r1 q1=>ho pins s1 U H1 x v Q I1 r1 q1)
theorem opI{C:Int->Int->Prop}{g:Int->Int->Int}
 (rule:∀(i j:Int) (t u:Tok) (s:zm) Q (E:VSP),C i j->Q (.int (g i j) s.toks) {s with toks:=s.toks+1}->zt (zB X.prog X.w) X.A (f (.int i t) (.int j u)) Q E s):
 OpR X f (rI C λi j=>.int (g i j)):=by
 intro pins s U H x y v u Q I rx ry h
 obtain⟨i,j,rfl,rfl,hc,q⟩:=h
 obtain⟨t,rfl⟩:=rx
 obtain⟨t',rfl⟩:=ry
 exact rule i j t t' s _ _ hc ⟨.int (g i j),H,I.tok _,⟨_,rfl⟩,q⟩
theorem eV6{g:Int->Int->Int}
 (rule:∀(i j:Int) (t u:Tok) (s:zm) Q (E:VSP),Q (.int (g i j) s.toks) {s with toks:=s.toks+1}->zt (zB X.prog X.w) X.A (f (.int i t) (.int j u)) Q E s):
 OpR X f (rI0 λi j=>.int (g i j)):=by
 intro pins s U H x y v u Q I rx ry h
 obtain⟨i,j,rfl,rfl,q⟩:=h
 obtain⟨t,rfl⟩:=rx
 obtain⟨t',rfl⟩:=ry
 exact rule i j t t' s _ _ ⟨.int (g i j),H,I.tok _,⟨_,rfl⟩,q⟩
theorem eR2{g:Int->Int->Bool}
 (rule:∀(i j:Int) (t u:Tok) (s:zm) Q (E:VSP),Q (.bool (g i j)) s->zt (zB X.prog X.w) X.A (f (.int i t) (.int j u)) Q E s):
 OpR X f (rI0 λi j=>.bl (g i j)):=by
 intro pins s U H x y v u Q I rx ry h
 obtain⟨i,j,rfl,rfl,q⟩:=h
 obtain⟨t,rfl⟩:=rx
 obtain⟨t',rfl⟩:=ry
 exact rule i j t t' s _ _ ⟨.bl (g i j),H,I,rfl,q⟩
noncomputable def cN6(i j:Int):Prop:=0<=j/\j<=1000000/\i.natAbs<2 ^ 64
noncomputable def bI1(i j:Int):Prop:=(-(2 ^ 64)<i/\i<2 ^ 64)\/(-(2 ^ 64)<j/\j<2 ^ 64)
theorem bI1.ok(h:bI1 i j):IntMulOk i j:=by
 rcases h with⟨h1,h2⟩|⟨h1,h2⟩
 ·exact .of_left (intBits_le_64 h1 h2)
 ·exact .of_right (intBits_le_64 h1 h2)
theorem eD3:OpR X (jL .Add) (rI0 λi j=>.int (i+j)):=eV6 λ_ _ _ _ _ _ _ q=>add_int q
theorem dH3:OpR X (jL .Sub) (rI0 λi j=>.int (i-j)):=eV6 λ_ _ _ _ _ _ _ q=>sub_int q
theorem eN1:OpR X (jL .Mult) (rI bI1 λi j=>.int (i*j)):=opI λ_ _ _ _ _ _ _ hc q=>mul_int q hc.ok
theorem eK7:OpR X (jL .Mod) (rI (λ_ j=>0<j) λi j=>.int (i % j)):=opI λi j _ _ _ _ _ hc q=>by
 have h1:(0:Int)<j:=hc
 exact mod_int' (by lia) (by rw[Int.fmod_eq_emod_of_nonneg i (by lia)];exact q)
theorem dG3:OpR X (jL .Pow) (rI cN6 λi j=>.int (i ^ j.toNat)):=opI λ_ _ _ _ _ _ _ hc q=>pow_int_small hc.1 hc.2.1 hc.2.2 q
theorem unI{f:zg->Sem zg}{g:Int->Int}
 (rule:∀(i:Int) (t:Tok) (s:zm) Q E,Q (.int (g i) s.toks) {s with toks:=s.toks+1}->zt (zB X.prog X.w) X.A (f (.int i t)) Q E s):
 UnR X f (rU λi=>.int (g i)):=by
 intro pins s U H x v Q I rx h
 obtain⟨i,rfl,q⟩:=h
 obtain⟨t,rfl⟩:=rx
 exact rule i t s _ _ ⟨.int (g i),H,I.tok _,⟨_,rfl⟩,q⟩
theorem dA7:UnR X (unaryOp .USub) (rU λi=>.int (-i)):=unI λ_ _ _ _ _ q=>neg_int q
end
section
theorem cC9(I:Inv X pins U H s)(q:Q (.bl k) H)(e:k=k'):EP X pins U Q (.bool k') s:=by
 subst e
 exact⟨.bl k,H,I,rfl,q⟩
theorem eW5:OpR X (zL .LtE) (rI0 λi j=>.bl (decide (i<=j))):=eR2 λ_ _ _ _ _ _ _ q=>le_int q
theorem eR5:OpR X (zL .Gt) (rI0 λi j=>.bl (decide (j<i))):=eR2 λ_ _ _ _ _ _ _ q=>gt_int q
theorem cT9:OpR X (zL .In) (λx y H Q=>∃i j,x= .str i/\y= .str j/\Q (.bl (!(xK j i 0 j.length 1).isEmpty)) H):=by
 intro pins s U H x y v u Q I rx ry h
 obtain⟨i,j,rfl,rfl,q⟩:=h
 obtain⟨t,rfl⟩:=rx
 obtain⟨t',rfl⟩:=ry
 exact in_str (cC9 I q rfl)
theorem eA9:OpR X (zL .Is) (λx y H Q=>y= .non/\Q (.bl (decide (x= .non))) H):=by
 intro pins s U H x y v u Q I rx ry h
 obtain⟨rfl,q⟩:=h
 cases ry
 refine is_none_gen (cC9 I q ?_)
 cases x<;>first
  |(cases rx;rfl)
  |(obtain⟨t,rfl⟩:=rx;rfl)
theorem dN1:OpR X (zL .IsNot) (λx y H Q=>y= .non/\Q (.bl (!decide (x= .non))) H):=by
 intro pins s U H x y v u Q I rx ry h
 obtain⟨rfl,q⟩:=h
 cases ry
 refine isnot_none_gen (cC9 I q ?_)
 cases x<;>first
  |(cases rx;rfl)
  |(obtain⟨t,rfl⟩:=rx;rfl)
theorem OpR.or(h:OpR X f r)(h':OpR X f r'):OpR X f (λx y H Q=>r x y H Q\/r' x y H Q):=by
 intro pins s U H x y v u Q I rx ry q
 rcases q with q|q
 ·exact h pins s U H x y v u Q I rx ry q
 ·exact h' pins s U H x y v u Q I rx ry q
theorem dO7(ho:OpR X (zL op) r)(ha:PE X a ta)(hb:PE X b tb)(hm:Yi op b=false):PE X (.Compare a [op] [b] pos) (tOp r ta tb):=by
 intro pins s U H Q I h
 exact wpAny_Compare1 (eI7 ha hb I h λv u s2 x y H2 I2 rx ry q=>ho pins s2 U H2 x y v u Q I2 rx ry q) hm
noncomputable def dX5(t:TE):TT:=λU H Q=>t U H λx H'=>∃k,x= .bl k/\Q k H'
theorem dN9(ho:OpR X (zL op) r)(ha:PE X a ta)(hb:PE X b tb)(hm:Yi op b=false):PT X (.Compare a [op] [b] pos) (dX5 (tOp r ta tb)):=by
 intro pins s U H Q I h
 refine wpAny_isTrue_Compare1 (thn (ha pins s U H _ I h) λv s1 hE1=>hE1.elim λx H1 I1 r1 q1=>thn (hb pins s1 U H1 _ I1 q1) λu s2 hE1=>hE1.elim λy H2 I2 r2 q2=>
  thn (ho pins s2 U H2 x y v u _ I2 r1 r2 q2) λc s3 ⟨z,H3,I3,r3,k,e,q3⟩=>?_) hm
 subst e
 cases r3
 exact yp ⟨H3,I3,q3⟩
noncomputable def bZ6(r r':R2)(ta tb tc:TE):TE:=λU H Q=>ta U H λx H1=>tb U H1 λy H2=>r x y H2 λz H3=>∃k,z= .bl k/\
 (if k=true then tc U H3 λw' H4=>r' y w' H4 Q else Q (.bl false) H3)
theorem dG7(ho:OpR X (zL op) r)(ho':OpR X (zL op') r')(ha:PE X a ta)(hb:PE X b tb)(hc:PE X c tc)
 (hm:Jr [op,op'] [b,c]=false):PE X (.Compare a [op,op'] [b,c] pos) (bZ6 r r' ta tb tc):=by
 intro pins s U H Q I h
 refine Compare_chain (thn (ha pins s U H _ I h) λv s1 hE1=>hE1.elim λx H1 I1 r1 q1=>chain_link (thn (hb pins s1 U H1 _ I1 q1) λu s2 hE1=>hE1.elim λy H2 I2 r2 q2=>
  thn (ho pins s2 U H2 x y v u _ I2 r1 r2 q2) λd s3 ⟨z,H3,I3,r3,k,e,q3⟩=>?_)) hm
 subst e
 cases r3
 refine yp ?_
 cases k with
 |false=>exact ite_ff ⟨.bl false,H3,I3,rfl,q3⟩
 |true=>exact ite_tt (chain_last (thn (hc pins s3 U H3 _ I3 q3) λw' s4 ⟨z',H4,I4,r4,q4⟩=>ho' pins s4 U H4 y z' u w' Q I4 r2 r4 q4))
theorem cY0(ho:OpR X (zL op) r)(ho':OpR X (zL op') r')(ha:PE X a ta)(hb:PE X b tb)(hc:PE X c tc)
 (hm:Jr [op,op'] [b,c]=false):PT X (.Compare a [op,op'] [b,c] pos) (dX5 (bZ6 r r' ta tb tc)):=by
 intro pins s U H Q I h
 refine isTrue_chain (thn (ha pins s U H _ I h) λv s1 hE1=>hE1.elim λx H1 I1 r1 q1=>test_link (thn (hb pins s1 U H1 _ I1 q1) λu s2 hE1=>hE1.elim λy H2 I2 r2 q2=>
  thn (ho pins s2 U H2 x y v u _ I2 r1 r2 q2) λd s3 ⟨z,H3,I3,r3,k,e,q3⟩=>?_)) hm
 subst e
 cases r3
 refine yp ?_
 cases k with
 |false=>
   obtain⟨k',e',q'⟩:=q3
   cases e'
   exact ite_ff ⟨H3,I3,q'⟩
 |true=>
   refine ite_tt (test_last (thn (hc pins s3 U H3 _ I3 q3) λw' s4 ⟨z',H4,I4,r4,q4⟩=>thn (ho' pins s4 U H4 y z' u w' _ I4 r2 r4 q4) λd' s5 ⟨z2,H5,I5,r5,k2,e2,q5⟩=>?_))
   subst e2
   cases r5
   exact yp ⟨H5,I5,q5⟩
def eD2(K:zc)(x:V)(H:Hp)(k:Bool):Prop:=
 match x with
 | .non=>k=false
 | .bl b=>k=b
 | .int i=>k= (i != 0)
 | .str y=>y.length<=zd/\k= ((y.length:Int) != 0)
 | .byt y=>y.size<=zd/\k= ((y.size:Int) != 0)
 | .ref p=>(∃xs,SqL K H p xs/\k= !xs.isEmpty)\/(∃xs,SqT K H p xs/\k= !xs.isEmpty)\/∃kvs,H p=some (.dK kvs)/\k= !kvs.isEmpty
 |_=>False
theorem cE1(r:KV kvs vs):(!vs.isEmpty)= !kvs.isEmpty:=by
 cases r<;>rfl
theorem bB7(r:o6 xs its):(!its.toArray.isEmpty)= !xs.isEmpty:=by
 cases r<;>simp
theorem aP9:(zd:Nat)<2 ^ 63:=by rw[sizeLine_eq];decide
theorem cV6:fA9 X (λx H Q=>∃k,eD2 X.K x H k/\Q k H):=by
 intro pins s U H x v Q I rx h
 obtain⟨k,e,q⟩:=h
 have hl:=aP9
 have hs:zd=16777216:=sizeLine_eq
 cases x with
 |non=>
   cases rx
   have e':k=false:=e
   subst e'
   exact truthy_none ⟨H,I,q⟩
 |bl b=>
   cases rx
   have e':k=b:=e
   subst e'
   exact yp ⟨H,I,q⟩
 |int i=>
   obtain⟨t,rfl⟩:=rx
   have e':k= (i != 0):=e
   subst e'
   exact PySem.P.truthy_int ⟨H,I,q⟩
 |str y=>
   obtain⟨t,rfl⟩:=rx
   obtain⟨hy,e'⟩:y.length<=zd/\k= ((y.length:Int) != 0):=e
   subst e'
   exact PySem.P.truthy_str (by lia) ⟨H,I.tok _,q⟩
 |byt y=>
   obtain⟨t,rfl⟩:=rx
   obtain⟨hy,e'⟩:y.size<=zd/\k= ((y.size:Int) != 0):=e
   subst e'
   exact PySem.W.truthy_bytes (by lia) ⟨H,I.tok _,q⟩
 |ref p=>
   cases rx
   have e':(∃xs,SqL X.K H p xs/\k= !xs.isEmpty)\/(∃xs,SqT X.K H p xs/\k= !xs.isEmpty)\/∃kvs,H p=some (.dK kvs)/\k= !kvs.isEmpty:=e
   rcases e' with⟨xs,hx,e'⟩|⟨xs,hx,e'⟩|⟨kvs,hx,e'⟩
   · subst e'
     obtain⟨its,r,pl,hz⟩:=I.list hx
     have hlen:=r.length
     exact wpAny_truthy_list pl.isList (by simp only[zk];lia) ⟨H,I.tok _,by rw[bB7 r];exact q⟩
   · subst e'
     obtain⟨its,r,pl,hz⟩:=I.tuple hx
     have hlen:=r.length
     exact truthy_tuple pl (by simp only[zk];lia) ⟨H,I.tok _,by rw[bB7 r];exact q⟩
   · subst e'
     obtain⟨hz,hS,vs,r,m⟩:kvs.length<=zd/\(p==yN)=false/\∃vs,KV kvs vs/\s.heap.DictOf (N6 X.prog X.w) p vs:=I.hok p _ hx
     have hlen:kvs.length=vs.length:=yD r
     exact wpAny_truthy_dict hS m (by lia) ⟨H,I.tok _,by rw[cE1 r];exact q⟩
 |_=>exact(show False from e).elim
theorem dA6(ha:PE X a ta)(he:∀whole,isTrue a X.env whole= (do let v <-whole;standAt a.pos;ZV [v] (truthy v))):
 PT X a (λU H Q=>ta U H λx H'=>∃k,eD2 X.K x H' k/\Q k H'):=by
 intro pins s U H Q I h
 exact isTrue_plain (thn (ha pins s U H _ I h) λv s1 hE1=>hE1.elim λx H1 I1 r1 q1=>cV6 pins s1 U H1 x v Q I1 r1 q1) (he _)
theorem cE2:OpR X (jL .Add) (λx y H Q=>∃i j,x= .str i/\y= .str j/\i.length+j.length<=zd/\Q (.str (i++j)) H):=by
 intro pins s U H x y v u Q I rx ry h
 obtain⟨i,j,rfl,rfl,hz,q⟩:=h
 obtain⟨t,rfl⟩:=rx
 obtain⟨t',rfl⟩:=ry
 exact add_str (λt' tk=>⟨.str (i++j),H,I.tok _,⟨_,rfl⟩,q⟩) hz
theorem W5(r:o6 [x] us):∃u,us= [u]/\u5 x u:=by
 cases r with
 |cons r1 r2=>cases r2;exact⟨_,rfl,r1⟩
theorem cM2(r:o6 [x,y] us):∃u w',us= [u,w']/\u5 x u/\u5 y w':=by
 cases r with
 |cons r1 r2=>
   cases r2 with
   |cons r3 r4=>cases r4;exact⟨_,_,rfl,r1,r3⟩
theorem dF2:U7 X (.builtin "abs") (λxs H Q=>∃i,xs= [.int i]/\Q (.int (if i<0 then -i else i)) H):=by
 intro pins s U H xs us Q I r h
 obtain⟨i,rfl,q⟩:=h
 obtain⟨u,rfl,t,rfl⟩:=W5 r
 exact call_abs_int λu tk=>⟨.int (if i<0 then -i else i),H,I.tok _,⟨_,rfl⟩,q⟩
theorem cR1:U7 X (.type "int") (λxs H Q=>(∃i,xs= [.int i]/\Q (.int i) H)\/∃k,xs= [.bl k]/\Q (.int (if k then 1 else 0)) H):=by
 intro pins s U H xs us Q I r h
 rcases h with⟨i,rfl,q⟩|⟨k,rfl,q⟩
 · obtain⟨u,rfl,t,rfl⟩:=W5 r
   exact call_int_int ⟨.int i,H,I,⟨_,rfl⟩,q⟩
 · obtain⟨u,rfl,r1⟩:=W5 r
   cases r1
   exact call_int_bool ⟨.int (if k then 1 else 0),H,I.tok _,⟨_,rfl⟩,q⟩
end
structure ObjM(h:Heap)(x dx C:Addr)(mA:Str->Option zg):Prop where
 obj:h.get? x=some (Jx C dx)
 ns:h.Ns1 dx mA
 ne:dx≠x
section
variable{prog:zC}{w:zN}{A:zT}{E:VSP}{s:zm}{K:zc}{x dx C f:Addr}{mA:Str->Option zg}{name:Str}{v:zg}
end
theorem bH2.some_of(r:bH2 (some v) o):∃u,o=some u/\u5 v u:=by
 cases o with
 |none=>exact(show False from r).elim
 |some u=>exact⟨u,rfl,r⟩
section
end
structure Cls(K:zc)(C:Addr):Prop where
 pg:Jl K C xk=true
 hd:PySem.W.hasDictIn K C=true
 po:PySem.W.plainOver K C=true
 sa:xE K (.ref C) "__setattr__" =some (some (.builtin "object.__setattr__"))
theorem Cls.get{K:zc}(c:Cls K C)(f:Str):Jl K C f=true:=c.pg
structure Con(K:zc)(C:Addr)(f:Str)(v:V)(u:zg):Prop where
 at_:xE K (.ref C) f=some (some u)
 rel:u5 v u
 get:XV K u "__get__" =some none
 cp:PySem.W.copiedNames.contains f=false
structure Meth(K:zc)(C:Addr)(m:Str)(f:Addr):Prop where
 at_:xE K (.ref C) m=some (some (.ref f))
 fn:PySem.W.isFn K (.ref f)=true
 kp:jE K (.ref f)=true
section
end
section
end
section
inductive bB9(K:zc)(H:Hp):V->zg->Prop where
 |non:bB9 K H .non (.type "NoneType")
 |bl (x:Bool):bB9 K H (.bl x) (.type "bool")
 |int (i:Int):bB9 K H (.int i) (.type "int")
 |str (x:Str):bB9 K H (.str x) (.type "str")
 |flt (x:UInt64):bB9 K H (.flt x) (.type "float")
 |lst {a:Addr} {xs:List V} (e:H a=some (.lst xs)):bB9 K H (.ref a) (.type "list")
 |frz {a:Addr} {o:Obj} {xs:List V} (e:H a=some (.frz o (.lst xs))):bB9 K H (.ref a) (.type "list")
 |tup {a:Addr} {xs:List V} (e:H a=some (.tup xs)):bB9 K H (.ref a) (.type "tuple")
 |dK {a:Addr} {kvs:List (Key×V)} (e:H a=some (.dK kvs)):bB9 K H (.ref a) (.type "dict")
 |dT {a:Addr} {kvs:List (List Key×V)} (e:H a=some (.dT kvs)):bB9 K H (.ref a) (.type "dict")
 |ins {a C dx:Addr} {fs:List (Str×V)} (e:H a=some (.ins C dx fs)) (cl:Cls K C) (ha:xE K (.ref C) "__class__" =some (some (.builtin "object.__class__")))
    (hn:XV K (.builtin "object.__class__") "__get__" =some (some (.builtin "getset_descriptor.__get__"))) (htk:PySem.W.takesIn K (.builtin "object.__class__")=some true)
    (hm:PySem.W.mroIn K C (.type "object")=some true):bB9 K H (.ref a) (.ref C)
end
structure N8(k:Nat)(A:zT):Prop where
 hd:A.handled=none
 dp:A.depth+3*k+5<recursionLimit
 un:A.units+16*k+200<xz
 gd:A.guards=some []
theorem N8.mono(r:N8 k A)(h:j<=k):N8 j A:=⟨r.hd,by have:=r.dp;lia,by have:=r.un;lia,r.gd⟩
theorem N8.deeper(r:N8 (k+1) A)(env:Env):N8 k (A.deeper env):=
 ⟨r.hd,by have:=r.dp;show A.depth+1+3*k+5<_;lia,by have:=r.un;show A.units+3+16*k+200<_;lia,r.gd⟩
theorem N8.in1(r:N8 (k+1) A):N8 k A.in1:=
 ⟨r.hd,by have:=r.dp;show A.depth+3*k+5<_;lia,by have:=r.un;show A.units+1+16*k+200<_;lia,r.gd⟩
theorem N8.depth(r:N8 k A):A.depth<recursionLimit:=by have:=r.dp;lia
theorem N8.units(r:N8 k A):A.units+64<xz:=by have:=r.un;lia
noncomputable def fA5:TA:=λ_ H Q=>Q [] H
noncomputable def eU6(ta:TE)(tr:TA):TA:=λU H Q=>ta U H λx H1=>tr U H1 λxs H2=>Q (x::xs) H2
section
theorem cY8:PA X [] fA5:=λ_ _ _ _ H Q I h=>ZR ⟨[],H,I,.nil,h⟩
theorem cM0(ha:PE X e te)(hr:PA X es t)(hs:zy (e::es) X.env= (false,eval e X.env)::zy es X.env):PA X (e::es) (eU6 te t):=by
 intro pos pins s U H Q I h
 rw[hs]
 show zt _ _ (spliced ((false,eval e X.env)::yb pos (zy es X.env))) _ _ s
 refine ZG (thn (ha pins s U H _ I h) λu s1 hE1=>hE1.elim λx H1 I1 r1 q1=>?_)
 exact thn (hr pos pins s1 U H1 _ I1 q1) λus s2 hE1=>hE1.elim λxs H2 I2 r2 q2=>⟨x::xs,H2,I2,.cons r1 r2,q2⟩
def eZ8(t:TA):TE:=λU H Q=>t U H λxs H1=>xs.length<=zd/\∀p,H1 p=none->Q (.ref p) (upd H1 p (.tup xs))
def fB4(t:TA):TE:=λU H Q=>t U H λxs H1=>xs.length<=zd/\∀p,H1 p=none->Q (.ref p) (upd H1 p (.lst xs))
theorem eE6{x1}(h:PA X es t):PE X (.Tuple es x1 pos) (eZ8 t):=by
 intro pins s U H Q I hq
 refine wpAny_Tuple_spliced (thn (h pos pins s U H _ I hq) λus s1 ⟨xs,H1,I1,r,z,q⟩=>⟨by rw[<-r.length];exact z,?_⟩)
 have hf:H1 s1.heap.objs.size=none:=I1.hok.fresh (zj _)
 refine⟨.ref s1.heap.objs.size,upd H1 s1.heap.objs.size (.tup xs),I1.laid (t':=s1.toks) (λb u e=>zf _ e) (zj _) ?_,rfl,q _ hf⟩
 exact⟨z,us,r,⟨_,zq _ rfl,rfl,_,rfl⟩⟩
theorem dE7(h:PA X es t):PE X (.List es pos) (fB4 t):=by
 intro pins s U H Q I hq
 refine wpAny_List_spliced (thn (h pos pins s U H _ I hq) λus s1 ⟨xs,H1,I1,r,z,q⟩=>⟨by rw[<-r.length];exact z,?_⟩)
 have hf:H1 s1.heap.objs.size=none:=I1.hok.fresh (zj _)
 refine⟨.ref s1.heap.objs.size,upd H1 s1.heap.objs.size (.lst xs),I1.laid (t':=s1.toks) (λb u e=>zf _ e) (zj _) ?_,rfl,q _ hf⟩
 exact⟨z,us,0,r,zq _ rfl⟩
end
noncomputable abbrev Sp:=List V->Hp->VK->XK->Prop
noncomputable abbrev CXT:=List Env->Hp->zm->XK->VSP
structure cD0(P:zC)(w:zN)(K:zc)(mg:Str->Option zg)(base:Heap)(A:zT)(outer:List Env)(s:zm)(H:Hp):Prop where
 frames:A.frames=some outer
 mod:Mod K mg base
 bs:∀b o,base.get? b=some o->s.heap.get? b=some o/\H b=none
 bsz:base.objs.size<=s.heap.objs.size
 funs:s.heap.FunFrames base outer
 frf:∀b∈frs outer,H b=none
 hok:HOk P w H s.heap
 bare:xU s.gens
def CE(outer:List Env)(P:zC)(w:zN)(H:Hp)(s:zm)(Q:VK)(u:zg)(s':zm):Prop:=
 ∃v H',s'.os=s.os/\xU s'.gens/\Un (frs outer) [] H H' s.heap s'.heap/\HOk P w H' s'.heap/\u5 v u/\Q v H'
def CR(CX:CXT)(outer:List Env)(P:zC)(w:zN)(H:Hp)(s:zm)(Q:VK)(E:XK)(r:Result)(s':zm):Prop:=
 match r with
 | .ok (.ret u)=>CE outer P w H s Q u s'
 | .ok _=>False
 | .error e=>CX outer H s E e s'
structure X3(P:zC)(w:zN)(K:zc)(mg:Str->Option zg)(base:Heap)(CX:CXT)(k:Nat)(f:Addr)(fd:yF)(ps:List Str)(sp:Sp):Prop where
 len:∀vs H Q E,sp vs H Q E->vs.length=ps.length
 run:∀(A:zT) (outer:List Env) (s:zm) (H:Hp) (args:Args) (us:List zg) (vs:List V) (Q:VK) (E:XK),N8 k A->cD0 P w K mg base A outer s H->Zy s fd args (ps.zip us)->o6 vs us->sp vs H Q E->
  ZW (zB P w) A (.call (.ref f) args) (CR CX outer P w H s Q E) s
theorem X3.mono{P:zC}{w:zN}{K:zc}{base:Heap}{CX:CXT}{j k:Nat}{f:Addr}{fd:yF}{ps:List Str}{sp:Sp}(F:X3 P w K mg base CX j f fd ps sp)(h:j<=k):
 X3 P w K mg base CX k f fd ps sp:=⟨F.len,λA outer s H args us vs Q E hr=>F.run A outer s H args us vs Q E (hr.mono h)⟩
theorem X3.imp{P:zC}{w:zN}{K:zc}{base:Heap}{CX:CXT}{k:Nat}{f:Addr}{fd:yF}{ps:List Str}{sp sp':Sp}(F:X3 P w K mg base CX k f fd ps sp)
 (h:∀vs H Q E,sp' vs H Q E->sp vs H Q E):X3 P w K mg base CX k f fd ps sp':=
 ⟨λvs H Q E q=>F.len vs H Q E (h _ _ _ _ q),λA outer s H args us vs Q E hr he hb hv hs=>F.run A outer s H args us vs Q E hr he hb hv (h _ _ _ _ hs)⟩
theorem cD0.in1{P:zC}{w:zN}{K:zc}{base:Heap}{A:zT}{outer:List Env}{s:zm}{H:Hp}(e:cD0 P w K mg base A outer s H):
 cD0 P w K mg base A.in1 outer s H:=⟨e.frames,e.mod,e.bs,e.bsz,e.funs,e.frf,e.hok,e.bare⟩
section
theorem Inv.env0(I:Inv X pins U H s):cD0 X.prog X.w X.K X.mg X.base X.A X.stack s H:=
 ⟨I.ok.frames,I.ok.mod,I.bs,zu I.ok.bsz I.sz,I.stack,I.stkFree,I.hok,I.bare⟩
theorem Inv.after(I:Inv X pins U H s)(h:CE X.stack X.prog X.w H s Q u s'):EP X pins U Q u s':=by
 obtain⟨v,H',os,bare,un,hok,r,q⟩:=h
 obtain⟨hh,g,d,t,os'⟩:=s'
 obtain rfl:os'=s.os:=os
 exact⟨v,H',I.call (h':=hh) (g':=g) (d':=d) (t':=t) (ch:= []) un hok bare (λb z=>absurd z (by simp)),r,q⟩
end
noncomputable def eS8(sp:Sp)(dvs:List V)(E:XK)(t:TA):TE:=λU H Q=>t U H λvs H1=>sp (vs++dvs) H1 Q E
noncomputable def aO9(K:zc)(fd:yF)(ps:List Str)(ds:List zg):Prop:=
 ∀(s:zm) (us:List zg),K.In s.heap->(us++ds).length=ps.length->Zy s fd ⟨us, []⟩ (ps.zip (us++ds))
theorem aO9.all{K:zc}{ps:List Str}(h:∀us:List zg,us.length=ps.length->bindArgs fd ⟨us, []⟩=pure (ps.zip us)):aO9 K fd ps []:=λs us _ hl=>by
 rw[jC]at hl ⊢
 exact .of_eq (h us hl)
noncomputable def bE0(CX:CXT)(X:Cx)(E:XK):Prop:=∀(pins:PNS) (U:St) (H:Hp) (s:zm) (e:zg) (s':zm),Inv X pins U H s->CX X.stack H s E e s'->X.xe e s'
section
theorem cF0(F:X3 X.prog X.w X.K X.mg X.base CX k f fd ps sp)(hr:N8 k X.A)(hb:aO9 X.K fd ps ds)(hd:o6 dvs ds)(hx:bE0 CX X E)
 (I:Inv X pins U H s) (r:o6 vs us) (h:sp (vs++dvs) H Q E):zt (zB X.prog X.w) X.A (call (.ref f) us) (EP X pins U Q) X.xe s:=by
 have r2:o6 (vs++dvs) (us++ds):=r.append hd
 have hl:(us++ds).length=ps.length:=by rw[<-r2.length];exact F.len _ _ _ _ h
 refine wpAny_call (YB (F.run X.A X.stack s H ⟨us, []⟩ (us++ds) (vs++dvs) Q E hr I.env0 (hb s us I.kIn hl) r2 h) λr s' hq=>?_)
 cases r with
 |error e=>exact hx pins U H s e s' I hq
 |ok fl=>
   cases fl with
   |ret u=>exact I.after hq
   |next=>exact jG hq
   |brk=>exact jG hq
   |cont=>exact jG hq
theorem cF6(F:X3 X.prog X.w X.K X.mg X.base CX k f fd ps sp)(hr:N8 k X.A)(hg:Gl X x)(hm:X.mg x=some (.ref f))(hk:jE X.K (.ref f)=true)(hb:aO9 X.K fd ps ds)(hd:o6 dvs ds)(hx:bE0 CX X E)
 (ha:PA X (e::es) t) (hdb:(x==("__debug__" :Str))=false) (he:zy (e::es) X.env= (false,eval e X.env)::zy es X.env) (hpl:(yb pos (zy es X.env)).any (·.1)=false):
 PE X (.Call (.Name x p) (e::es) [] pos) (eS8 sp dvs E t):=by
 intro pins s U H Q I h
 refine yM (aM4 I hg hm ?_ hdb)
 refine xG (h₀:=X.base) I.ok.mod.kin hk (thn (ha pos pins s U H _ I h) λus s1 hE1=>hE1.elim λvs H1 I1 r q=>⟨I1.kIn,?_⟩) he hpl
 exact cF0 F hr hb hd hx I1 r q
structure Mk(K:zc)(C f:Addr):Prop where
 makes:PySem.W.makesIn K C=true
 init:xE K (.ref C) "__init__" =some (some (.ref f))
 fn:PySem.W.isFn K (.ref f)=true
 kp:jE K (.ref C)=true
end
section
structure KBinds(K:zc)(fd:yF)(ps ks:List Str)(g:List zg->List zg->List zg)(gV:List V->List V->List V):Prop where
 to:∀(s:zm) (us ws:List zg),K.In s.heap->(g us ws).length=ps.length->Zy s fd ⟨us,ks.zip ws⟩ (ps.zip (g us ws))
 rel:∀ {vs:List V} {us:List zg} {zs:List V} {ws:List zg},o6 vs us->o6 zs ws->o6 (gV vs zs) (g us ws)
end
structure O5(N P:List Str)(sc:Scope):Prop where
 kind:sc.kind= .function
 co:sc.isCoroutine=false
 gen:sc.isGenerator=false
 nd:N.Nodup
 pre:N.take P.length=P
 par:∀x∈P,sc.names.lookup x=some .local\/sc.names.lookup x=some .cell
 nofree:∀y∈sc.names,y.2≠ .free
theorem bM5{yG:Str->Option NameKind}{x:Str}:∀ {binds} {m:Str->Option zg},(∀v,(x,v)∉binds)->Ju yG binds m x=m x
 |[],_,_=>rfl
 |(n,v)::r,m,h=>by
  unfold Ju
  rw[bM5 λw hw=>h w (zw _ hw)]
  split
  · have:x≠n:=by rintro rfl;exact h v zr
    simp[this]
  ·rfl
theorem bL5{yG:Str->Option NameKind}{x:Str}:∀ {binds} {m:Str->Option zg},(∀v,(x,v)∉binds)->Jv yG binds m x=m x
 |[],_,_=>rfl
 |(n,v)::r,m,h=>by
  unfold Jv
  rw[bL5 λw hw=>h w (zw _ hw)]
  split
  ·rfl
  · have:x≠n:=by rintro rfl;exact h v zr
    simp[this]
theorem bJ6{yG:Str->Option NameKind}{x:Str}{v:zg}:∀ {P:List Str} {vs:List zg} {i:Nat} {m},P.Nodup->P[i]? =some x->vs[i]? =some v->yG x=some .local->
 Ju yG (P.zip vs) m x=some v
 |[],_,_,_,_,h,_,_=>by simp at h
 |_::_, [],_,_,_,_,h,_=>by simp at h
 |p::P,w::vs,0,m,nd,h1,h2,hk=>by
   simp at h1 h2;subst h1;subst h2
   show Ju yG ((p,w)::P.zip vs) m p=_
   unfold Ju
   rw[bM5 λv hv=>(Zk.mp nd).1 (Zj hv).1,if_pos hk]
   simp
 |p::P,w::vs,i+1,m,nd,h1,h2,hk=>by
   show Ju yG ((p,w)::P.zip vs) m x=_
   unfold Ju
   exact bJ6 (i:=i) (Zk.mp nd).2 (by simpa using h1) (by simpa using h2) hk
theorem bI5{yG:Str->Option NameKind}{x:Str}{v:zg}:∀ {P:List Str} {vs:List zg} {i:Nat} {m},P.Nodup->P[i]? =some x->vs[i]? =some v->yG x≠some .local->
 Jv yG (P.zip vs) m x=some v
 |[],_,_,_,_,h,_,_=>by simp at h
 |_::_, [],_,_,_,_,h,_=>by simp at h
 |p::P,w::vs,0,m,nd,h1,h2,hk=>by
   simp at h1 h2;subst h1;subst h2
   show Jv yG ((p,w)::P.zip vs) m p=_
   unfold Jv
   rw[bL5 λv hv=>(Zk.mp nd).1 (Zj hv).1,if_neg hk]
   simp
 |p::P,w::vs,i+1,m,nd,h1,h2,hk=>by
   show Jv yG ((p,w)::P.zip vs) m x=_
   unfold Jv
   exact bI5 (i:=i) (Zk.mp nd).2 (by simpa using h1) (by simpa using h2) hk
noncomputable def start(N:List Str)(vs:List V):St:=vs.map some++zZ (N.length-vs.length) none
noncomputable def W7(CX:CXT)(P:zC)(w:zN)(K:zc)(mg:Str->Option zg)(base:Heap)(N:List Str)(qual:Str)(scope:Scope)(f:Addr)(cd:zg)(A:zT)(outer:List Env)(s:zm)(H:Hp)(E:XK):Cx where
 prog:=P
 w:=w
 K:=K
 mg:=mg
 base:=base
 A:=A.deeper (jJ qual scope s.heap.objs.size f cd)
 N:=N
 WY:=s
 H₀:=H
 env:=jJ qual scope s.heap.objs.size f cd
 outer:=outer
 stack:=jJ qual scope s.heap.objs.size f cd::outer
 ex:= []
 calm:=true
 fn:=λ_=>true
 pn:= []
 xe:=λe s'=>zt (zB P w) (A.deeper (jJ qual scope s.heap.objs.size f cd)) (JO (jJ qual scope s.heap.objs.size f cd) e) (λ_ s''=>CX outer H s E e s'') (λe' s''=>CX outer H s E e' s'') s'
theorem bT2{sc:Scope}{x:Str}(h:sc.names.lookup x=some .cell):∃c,(cellsFrom n sc.names []).lookup x=some c:=by
 have q:=YV sc.names n [] (.inl h)
 exact xS.mp q
theorem cQ1{CX:CXT}{P:zC}{w:zN}{K:zc}{mg:Str->Option zg}{base:Heap}{N ps:List Str}{qual:Str}{scope:Scope}{f:Addr}{cd:zg}{A:zT}{outer:List Env}{s s1:zm}{H:Hp}{E:XK}{us:List zg}{vs:List V}
 (S:O5 N ps scope) (hd:A.handled=none) (gd:A.guards=some []) (e0:cD0 P w K mg base A outer s H) (hl:vs.length=ps.length) (r:o6 vs us)
 (x:InCallC s s.heap.objs.size (Ju (jJ qual scope s.heap.objs.size f cd).kindOf (ps.zip us) λ_=>none) (cellsFrom (s.heap.objs.size+1) scope.names []) (Jv (jJ qual scope s.heap.objs.size f cd).kindOf (ps.zip us) λ_=>none) s1):
 Inv (W7 CX P w K mg base N qual scope f cd A outer s H E) [] (start N vs) H s1:=by
 have hpl:ps.length<=N.length:=by have:=congrArg jh S.pre;rw[yT]at this;lia
 obtain⟨h1,tk,rfl,hk⟩:=x.done
 have noA:∀b:Addr,b∉(W7 CX P w K mg base N qual scope f cd A outer s H E).ex:=λb z=>absurd (show b∈([]:List Addr)from z) (by simp)
 refine⟨⟨e0.mod,S.kind,rfl,rfl,zj _,λy z c h1 h2=>?_,λy hy=>?_,λy c _ h=>?_,λ_=>hd,Around.frames_deeper e0.frames,.inr ⟨rfl,rfl⟩,λb z=>absurd z (noA b),e0.bs,e0.bsz,λb _ _=>noA b,λb z=>absurd z (noA b),e0.funs,e0.frf,gd⟩,
  rfl,e0.bare,Un.kept hk,⟨_,x.toInCall.ns,λi y v h1 h2 h3=>?_⟩,λy c h=>⟨_,x.cell y c h⟩,e0.hok.fresh (zj _),λy c h=>?_,λp hp=>absurd (show p∈([]:PNS)from hp) (by simp),e0.hok.kept hk,?_⟩
 ·exact name_of_addr x.apart (yo h1) (yo h2)
 · have hy:scope.names.lookup y=some .cell\/scope.names.lookup y=some .free:=hy
   rcases hy with hy|hy
   ·exact bT2 hy
   ·exact absurd rfl (S.nofree _ (yo hy))
 ·exact yX (x.above y c (yo h))
 · have hi:i<vs.length:=by
    unfold start at h2
    by_cases hi:i<vs.length
    ·exact hi
    · rw[jH (by simpa using hi)]at h2
      rw[Xr]at h2
      split at h2<;>cases h2
   have ha:vs[i]? =some v:=by
    unfold start at h2
    rw[zF (by simpa using hi),jk]at h2
    cases e:vs[i]? with
    |none=>rw[e]at h2;cases h2
    |some a=>rw[e]at h2;cases h2;rfl
   obtain⟨u,hu,rv⟩:=r.get ha
   have hp:ps[i]? =some y:=by
    rw[<-S.pre,List.getElem?_take_of_lt (by lia)];exact h1
   have ndP:ps.Nodup:=by rw[<-S.pre];exact S.nd.sublist (JV _ _)
   refine⟨u,rv,?_⟩
   rcases S.par y (jn hp)with k|k
   ·exact .inl ⟨k,bJ6 ndP hp hu k⟩
   · obtain⟨c,e⟩:=bT2 (n:=s.heap.objs.size+1) k
     refine .inr ⟨.inl k,c,e,?_⟩
     have q:=x.cell y c e
     rw[bI5 ndP hp hu (by show scope.names.lookup y≠_;rw[k];decide)]at q
     exact q
 ·exact e0.hok.fresh (yX (x.above y c (yo h)))
 · unfold start
   show _=N.length
   rw[ze,zh,List.length_replicate]
   lia
theorem dW0{CX:CXT}{P:zC}{w:zN}{K:zc}{mg:Str->Option zg}{base:Heap}{k:Nat}{f:Addr}{name qual:Str}{params:Arguments}{body:List Stmt}{scope:Scope}{dV kV doc pm cdv ct oc:zg}{an od:Option Addr}
 {N ps:List Str} {sp:Sp} (lk:K.lookup f=some ⟨oc,od,.func (jX name qual params body scope dV kV doc pm an cdv ct),osl⟩) (hcd:xF K cdv qual=true) (S:O5 N ps scope)
 (len:∀vs H Q E,sp vs H Q E->vs.length=ps.length)
 (hbody:∀(A:zT) (outer:List Env) (s:zm) (H:Hp) (vs:List V) (Q:VK) (E:XK),N8 k (A.deeper (jJ qual scope s.heap.objs.size f cdv))->sp vs H Q E->
   ∃t,PSs (W7 CX P w K mg base N qual scope f cdv A outer s H E) body t/\t {nx:=λ_ H'=>Q .non H',rt:=Q} (start N vs) H):
 X3 P w K mg base CX (k+1) f (jX name qual params body scope dV kV doc pm an cdv ct) ps sp:=by
 refine⟨len,λA outer s H args us vs Q E hr e0 hb r hsp=>?_⟩
 have hl:=len _ _ _ _ hsp
 have KX:K.In s.heap:=e0.mod.kin.keeps λb o e=>(e0.bs b o e).1
 have lim:s.heap.NoLimit:=e0.mod.nolimit.keeps λb o e=>(e0.bs b o e).1
 have hkind:∀y∈ps.zip us,scope.names.lookup y.1=some .local\/(scope.names.lookup y.1=some .cell/\((cellsFrom (s.heap.objs.size+1) scope.names []).lookup y.1).isSome=true):=fun⟨n,v⟩ hy=>by
  rcases S.par n (Zj hy).1 with q|q
  ·exact .inl q
  ·exact .inr ⟨q,YV _ _ _ (.inl q)⟩
 refine codeAny_call_function hr.depth (KX _ _ lk) rfl S.co S.gen rfl (PySem.W.codeRec_of KX hcd) (hb _ _ _ _ ?_)
 refine wpAny_newFunctionEnv_cells S.kind hkind λenv he s1 x=>?_
 subst he
 refine⟨lim.keeps x.toInCall.keep,codeAny_func ?_⟩
 obtain⟨t,ht,hq⟩:=hbody A outer s H vs Q E (hr.deeper _) hsp
 have I:Inv (W7 CX P w K mg base N qual scope f cdv A outer s H E) [] (start N vs) H s1:=cQ1 S hr.hd hr.gd e0 hl r x
 refine jx (ht [] s1 (start N vs) H _ I hq) (λfl s' hs=>?_) λe s' hs=>hs
 have fin:∀ {X1:St} {H':Hp} {v:V} {u:zg},Inv (W7 CX P w K mg base N qual scope f cdv A outer s H E) [] X1 H' s'->u5 v u->Q v H'->CE outer P w H s Q u s':=
  λ{X1 H' v u} J rv q=>⟨v,H',J.os,J.bare,J.base,J.hok,rv,q⟩
 cases fl with
 |ret u=>
   obtain⟨v,X1,H',J,rv,q⟩:=hs
   exact fin J rv q
 |next=>
   obtain⟨X1,H',J,q⟩:=hs
   exact fin (v:=V.non) (u:=Value.none) J rfl q
 |brk=>
   obtain⟨_,_,_,q⟩:=hs
   exact jG q
 |cont=>
   obtain⟨_,_,_,q⟩:=hs
   exact jG q
section
variable{X:Cx}{x:Str}{p pos:Pos}{e:Expr}{es:List Expr}{t:TA}{id T:String}{r:List V->Hp->VK->Prop}
noncomputable def tCB(r:List V->Hp->VK->Prop)(t:TA):TE:=λU H Q=>t U H λvs H1=>r vs H1 Q
theorem cZ2(hc:U7 X (.builtin id) r)(hg:Gl X x)(hm:X.mg x=none)(hv:zK x=some (.builtin id))(ha:PA X (e::es) t)(hn:x≠ "__name__")(hdb:(x==("__debug__" :Str))=false)
 (he:zy (e::es) X.env= (false,eval e X.env)::zy es X.env) (hpl:(yb pos (zy es X.env)).any (·.1)=false):PE X (.Call (.Name x p) (e::es) [] pos) (tCB r t):=by
 intro pins s U H Q I h
 refine yM (aK6 I hg hm hv ?_ hn hdb)
 exact PyProof.Rows.callWith_builtin1 (thn (ha pos pins s U H _ I h) λus s1 hE1=>hE1.elim λvs H1 I1 r1 q1=>hc pins s1 U H1 vs us Q I1 r1 q1) he hpl
theorem cO4(hc:U7 X (.type T) r)(hg:Gl X x)(hm:X.mg x=none)(hv:zK x=some (.type T))(ha:PA X (e::es) t)(hn:x≠ "__name__")(hdb:(x==("__debug__" :Str))=false)
 (he:zy (e::es) X.env= (false,eval e X.env)::zy es X.env) (hpl:(yb pos (zy es X.env)).any (·.1)=false):PE X (.Call (.Name x p) (e::es) [] pos) (tCB r t):=by
 intro pins s U H Q I h
 refine yM (aK6 I hg hm hv ?_ hn hdb)
 exact jB (thn (ha pos pins s U H _ I h) λus s1 hE1=>hE1.elim λvs H1 I1 r1 q1=>hc pins s1 U H1 vs us Q I1 r1 q1) he hpl
end
end L2
namespace HT
open PySem PyProof.Rows
section
open PySem.SeqAt
open PySem.AutoSeq1 (wpAny_loadPart')
open PySem.MeetsSeq PySem.MeetsSeq2 PySem.MeetsSeq3
end
section
theorem cat_tup(ht:XM s.heap t vs.toArray)(hb:XM s.heap b ws.toArray)(hv:vs≠ [])
 (h1:ws= []->Q (.ref t) s) (h2:ws≠ []->Q (.ref s.heap.objs.size) {s with heap:=s.heap.push {cls:=.type "tuple",data:=.seq (vs++ws).toArray}})
 (hsz:vs.length+ws.length<=zd):zt (zB prog w) A (jL .Add (.ref t) (.ref b)) Q E s:=by
 obtain⟨⟨cls,dd,data,sl⟩,ho,hc,n,hd⟩:=id ht
 obtain⟨⟨cls2,dd2,data2,sl2⟩,ho2,hc2,n2,hd2⟩:=id hb
 simp only at hc hd hc2 hd2
 subst hc hd hc2 hd2
 have e:vs.toArray++ws.toArray= (vs++ws).toArray:=by simp
 by_cases hw:ws= []
 · exact JP ⟨_,ho,rfl⟩ ⟨_,ho2,rfl⟩ YU Jh xZ xT (xP _ _)
    (tuple_addW1 t b vs.toArray ws.toArray n n2 dd dd2 sl sl2 (by simpa using hv) (by simp[hw])) ⟨ho,ho2,h1 hw⟩
 · refine JP ⟨_,ho,rfl⟩ ⟨_,ho2,rfl⟩ YU Jh xZ xT (xP _ _)
    (tuple_addW2 t b vs.toArray ws.toArray n n2 dd dd2 sl sl2 (by simpa using hv) (by simpa using hw) (by rw[zk,zk];exact hsz)) ⟨ho,ho2,?_⟩
   rw[e]
   exact h2 hw
noncomputable def sIx(n d:Nat):Option Int->Nat
 |none=>d
 |some v=>if v<0 then (v+(n:Int)).toNat else min v.toNat n
theorem sIx_none(n d:Nat):sIx n d none=d:=rfl
theorem sIx_nat(n d k:Nat):sIx n d (some (k:Int))=min k n:=by
 show (if (k:Int)<0 then ((k:Int)+(n:Int)).toNat else min (k:Int).toNat n)=min k n
 rw[if_neg (by lia),jA]
theorem eI3(n d:Nat)(hd:d<=n)(o:Option Int):sIx n d o<=n:=by
 cases o with
 |none=>exact hd
 |some v=>
   show (if v<0 then (v+(n:Int)).toNat else min v.toNat n)<=n
   by_cases hv:v<0
   ·rw[if_pos hv];lia
   ·rw[if_neg hv];exact Nat.min_le_right _ _
theorem cL9(v:Int)(n d:Nat):(if v<0 then max (v+(n:Int)) 0 else min v (n:Int))= ((sIx n d (some v):Nat):Int):=by
 show (if v<0 then max (v+(n:Int)) 0 else min v (n:Int))= (((if v<0 then (v+(n:Int)).toNat else min v.toNat n):Nat):Int)
 by_cases hv:v<0
 ·simp only[if_pos hv];lia
 ·simp only[if_neg hv];lia
theorem bZ1(lo hi:Option Int)(n:Nat):jD lo hi 1 (n:Int)= (((sIx n 0 lo:Nat):Int),((sIx n n hi:Nat):Int)):=by
 have h1:¬((1:Int)<0):=by lia
 unfold jD
 simp only[h1,if_false]
 refine Prod.ext ?_ ?_
 · cases lo with
   |none=>rfl
   |some v=>exact cL9 v n 0
 · cases hi with
   |none=>rfl
   |some v=>exact cL9 v n n
theorem cB3(i j:Nat):jj (i:Int) (j:Int) 1=j-i:=by
 unfold jj
 have h1:(1:Int)>0:=by lia
 simp only[h1,if_true,XU]
 split<;>lia
theorem bC8(p:IsPart v o)(h:Q o s):zt (zB prog w) A (Builtin.Slice.slicePartIndex v) Q E s:=by
 cases p with
 |none=>exact ZS h
 |int i t=>exact slicePart_int h
theorem sliceApplied_gen{sl:Addr}{vl vu:zg}{lo hi:Option Int}{n:Nat}(hs:s.heap.IsSliceOf sl vl vu .none)(pl:IsPart vl lo)(pu:IsPart vu hi)
 (h:Q (((sIx n 0 lo:Nat):Int),1,sIx n n hi-sIx n 0 lo) s):zt (zB prog w) A (yA (.ref sl) (pure (n:Int))) Q E s:=by
 obtain⟨os,hos,hcs,hds⟩:=id hs
 unfold yA ZM
 refine za (za (zV hos hds (x:=vl) rfl (za (zV hos hds (x:=vu) rfl (za (zV hos hds (x:=.none) rfl (zo ?_)))))))
 refine za (ZS ?_)
 show zt _ _ (if ((1:Int)==0)=true then _ else _) _ _ s
 rw[if_neg (by decide)]
 refine za (bC8 pl (za (bC8 pu (za (zo ?_)))))
 show zt _ _ (match jD lo hi 1 (n:Int) with|(lo,hi)=>pure (lo,(1:Int),jj lo hi 1)) _ _ s
 rw[bZ1 lo hi n]
 show zt _ _ (pure (((sIx n 0 lo:Nat):Int),(1:Int),jj ((sIx n 0 lo:Nat):Int) ((sIx n n hi:Nat):Int) 1)) _ _ s
 rw[cB3]
 exact zo h
theorem dF8(xs:Array zg)(i k:Nat):((ja k).filterMap fun(m:Nat)=>xs[((i:Int)+(m:Int)*1).toNat]?).toArray= ((xs.toList.drop i).take k).toArray:=by
 have e:(fun(m:Nat)=>xs[((i:Int)+(m:Int)*1).toNat]?)=λm=>xs[i+m]? :=by
  funext m
  have:((i:Int)+(m:Int)*1).toNat=i+m:=by lia
  rw[this]
 rw[e]
 have:=pick_run xs i k
 rw[JK]at this
 have e2:((λx=>xs[x]?)∘λx=>i+x)=λm=>xs[i+m]? :=rfl
 rw[e2]at this
 rw[this]
theorem getItem_tuple_cut{t sl:Addr}{vl vu:zg}{lo hi:Option Int}(ht:XM s.heap t items)(hs:s.heap.IsSliceOf sl vl vu .none)(pl:IsPart vl lo)(pu:IsPart vu hi)
 (hw:¬(sIx items.size 0 lo=0/\sIx items.size items.size hi=items.size))
 (h:Q (.ref s.heap.objs.size) {s with heap:=s.heap.push {cls:=.type "tuple",data:=.seq ((items.toList.drop (sIx items.size 0 lo)).take (sIx items.size items.size hi-sIx items.size 0 lo)).toArray}})
 (hsz:items.size<=zd):zt (zB prog w) A (Zw (.ref t) (.ref sl)) Q E s:=by
 have htake:sizeOk (.seq ((items.toList.drop (sIx items.size 0 lo)).take (sIx items.size items.size hi-sIx items.size 0 lo)).toArray):=by
  show ((items.toList.drop (sIx items.size 0 lo)).take (sIx items.size items.size hi-sIx items.size 0 lo)).toArray.size<=zd
  rw[zk,yT,Za,jZ]
  lia
 have hj:sIx items.size items.size hi<=items.size:=eI3 _ _ (zj _) hi
 obtain⟨os,hos,hcs,hds⟩:=id hs
 have hTs:s.TypeIs (.ref sl) "slice":=⟨os,hos,hcs⟩
 unfold Zw
 try with_reducible refine yt ?_
 first|refine za (zo ?_)|skip
 refine za (Yy ht.typeIs (by decide) ?_)
 refine za (jF (name:=jI "__getitem__") ht.typeIs zO
  (jU zO ht.typeIs Yc ?_ (Yr _ _)))
 show zt _ _ (xw (.ref t) >>= _) _ _ s
 refine za (Jn ht ?_)
 refine za (Zu hTs ?_)
 rw[if_pos (by decide)]
 refine za (sliceApplied_gen hs pl pu ?_)
 have hno:¬((((sIx items.size 0 lo:Nat):Int)==0&&(1:Int)==1&&(sIx items.size items.size hi-sIx items.size 0 lo)==items.size)=true):=by
  intro q
  rw[zQ,zQ]at q
  have q1:((sIx items.size 0 lo:Nat):Int)=0:=eq_of_beq q.1.1
  have q2:sIx items.size items.size hi-sIx items.size 0 lo=items.size:=eq_of_beq q.2
  exact hw ⟨by lia,by lia⟩
 show zt _ _ (if (((sIx items.size 0 lo:Nat):Int)==0&&(1:Int)==1&&(sIx items.size items.size hi-sIx items.size 0 lo)==items.size)=true then _ else _) _ _ s
 rw[if_neg hno,dF8]
 first
  |exact za (m:=yO _) (jq (zo ⟨_,rfl,zo h⟩) htake)
  |exact za (m:=yO _) (jq (za (zo (zo ⟨_,rfl,zo h⟩))) htake)
  |exact za (za (m:=yO _) (jq (zo (zo ⟨_,rfl,zo h⟩)) htake))
  |exact za (za (m:=yO _) (jq (zo ⟨_,rfl,zo h⟩) htake))
end
end HT
namespace L2
open PySem PySem.Spec PyProof.Rows
noncomputable abbrev TO:=St->Hp->(Option Int->Hp->Prop)->Prop
noncomputable def PO(X:Cx)(e:Option Expr)(t:TO):Prop:=
 ∀(pins:PNS) (s:zm) (U:St) (H:Hp) (Q:Option Int->Hp->Prop),Inv X pins U H s->t U H Q->
  zt (zB X.prog X.w) X.A (evalPart e X.env) (λu s'=>∃o H',Inv X pins U H' s'/\IsPart u o/\Q o H') X.xe s
noncomputable def dR1:TO:=λ_ H Q=>Q none H
noncomputable def eW0(t:TE):TO:=λU H Q=>t U H λx H1=>∃i,x= .int i/\Q (some i) H1
section
variable{X:Cx}{e:Expr}{te:TE}{lo hi:Option Expr}{tl th:TO}{pos p2:Pos}
theorem dP3:PO X none dR1:=by
 intro pins s U H Q I h
 rw[Jj]
 exact zo ⟨none,H,I,.none,h⟩
theorem dR9(h:PE X e te):PO X (some e) (eW0 te):=by
 intro pins s U H Q I hw
 rw[evalPart_some]
 refine thn (h pins s U H _ I hw) λu s1 hE1=>hE1.elim λx H1 I1 r1 q1=>?_
 obtain⟨i,rfl,q⟩:=q1
 obtain⟨t,rfl⟩:=r1
 exact⟨some i,H1,I1,.int i t,q⟩
def SlR(X:Cx)(r:V->Option Int->Option Int->Hp->VK->Prop):Prop:=
 ∀(pins:PNS) (s:zm) (U:St) (H:Hp) (x:V) (v vl vu:zg) (lo hi:Option Int) (sl:Addr) (Q:VK),Inv X pins U H s->u5 x v->s.heap.IsSliceOf sl vl vu .none->IsPart vl lo->IsPart vu hi->r x lo hi H Q->
  ∃T id,typeLookup (.type T) "__getitem__" =pure (some (.builtin id))/\s.TypeIs v T/\zt (zB X.prog X.w) X.A (Zw v (.ref sl)) (EP X pins U Q) X.xe s
theorem SlR.or(h:SlR X r)(h':SlR X r'):SlR X (λx lo hi H Q=>r x lo hi H Q\/r' x lo hi H Q):=by
 intro pins s U H x v vl vu lo hi sl Q I rx hs pl pu q
 rcases q with q|q
 ·exact h pins s U H x v vl vu lo hi sl Q I rx hs pl pu q
 ·exact h' pins s U H x v vl vu lo hi sl Q I rx hs pl pu q
noncomputable def tSl(r:V->Option Int->Option Int->Hp->VK->Prop)(te:TE)(tl th:TO):TE:=λU H Q=>te U H λx H1=>tl U H1 λl H2=>th U H2 λu H3=>r x l u H3 Q
theorem dK0(hr:SlR X r)(he:PE X e te)(hl:PO X lo tl)(hu:PO X hi th):PE X (.Subscript e (.Slice lo hi none p2) pos) (tSl r te tl th):=by
 intro pins s U H Q I h
 refine Subscript_ (thn (he pins s U H _ I h) λv s1 hE1=>hE1.elim λx H1 I1 r1 q1=>?_)
 refine wpAny_Slice (thn (hl pins s1 U H1 _ I1 q1) λvl s2 ⟨l,H2,I2,pl,q2⟩=>thn (hu pins s2 U H2 _ I2 q2) λvu s3 ⟨u,H3,I3,pu,q3⟩=>?_)
 rw[Jj]
 refine zo ?_
 have I4:Inv X pins U H3 {s3 with heap:=s3.heap.push {cls:=.type "slice",data:=.fields #[vl,vu,.none]}}:=I3.kept (t':=s3.toks) λb ob q=>zf _ q
 obtain⟨T,id,hT,ht,hg⟩:=hr pins {s3 with heap:=s3.heap.push {cls:=.type "slice",data:=.fields #[vl,vu,.none]}} U H3 x v vl vu l u s3.heap.objs.size Q I4 r1 (Ys ..) pl pu q3
 show zt (zB X.prog X.w) X.A (subscriptTail e (.Slice lo hi none p2) v (.ref s3.heap.objs.size)) (EP X pins U Q) X.xe {s3 with heap:=s3.heap.push {cls:=.type "slice",data:=.fields #[vl,vu,.none]}}
 exact XL (ops:= [.ref s3.heap.objs.size,v]) ht hT hg (by with_unfolding_all rfl)
def bG6(xs:List V)(lo hi:Option Int):List V:=(xs.drop (HT.sIx xs.length 0 lo)).take (HT.sIx xs.length xs.length hi-HT.sIx xs.length 0 lo)
theorem aW6(xs:List V)(lo hi:Option Int):(bG6 xs lo hi).length<=xs.length:=by
 unfold bG6
 rw[yT,Za]
 lia
def fB0(K:zc):V->Option Int->Option Int->Hp->VK->Prop:=λx lo hi H Q=>∃a xs,x= .ref a/\SqT K H a xs/\
 ¬(HT.sIx xs.length 0 lo=0/\HT.sIx xs.length xs.length hi=xs.length)/\∀p,H p=none->Q (.ref p) (upd H p (.tup (bG6 xs lo hi)))
theorem sl_tup:SlR X (fB0 X.K):=by
 intro pins s U H x v vl vu lo hi sl Q I rx hs pl pu h
 obtain⟨a,xs,rfl,hx,hw,q⟩:=h
 cases rx
 obtain⟨its,r,ht,hz⟩:=I.tuple hx
 have hlen:its.toArray.size=xs.length:=by rw[zk];exact r.length.symm
 refine⟨"tuple",_,zO.lookup,ht.typeIs,?_⟩
 refine HT.getItem_tuple_cut ht hs pl pu (by rw[hlen];exact hw) ?_ (by rw[hlen];exact hz)
 rw[hlen]
 refine⟨.ref s.heap.objs.size,_,I.laid (t':=s.toks) (o:=.tup (bG6 xs lo hi)) (λb ob q=>zf _ q) (zj _) ?_,rfl,q _ (I.hok.fresh (zj _))⟩
 exact⟨zu (aW6 xs lo hi) hz,_,(r.drop (HT.sIx xs.length 0 lo)).take (HT.sIx xs.length xs.length hi-HT.sIx xs.length 0 lo),W8.new _ _⟩
def eY2(K:zc):R2:=λx y H Q=>∃a b xs ys,x= .ref a/\y= .ref b/\SqT K H a xs/\SqT K H b ys/\xs≠ []/\xs.length+ys.length<=zd/\
 (ys= []->Q (.ref a) H)/\(ys≠ []->∀p,H p=none->Q (.ref p) (upd H p (.tup (xs++ys))))
theorem o6.nil_iff(r:o6 xs us):us= []↔xs= []:=by
 cases r with
 |nil=>simp
 |cons _ _=>simp
theorem dR5:OpR X (jL .Add) (eY2 X.K):=by
 intro pins s U H x y v u Q I rx ry h
 obtain⟨a,b,xs,ys,rfl,rfl,ha,hb,hx,hz,q1,q2⟩:=h
 cases rx
 cases ry
 obtain⟨its,r1,p1,_⟩:=I.tuple ha
 obtain⟨its2,r2,p2,_⟩:=I.tuple hb
 refine HT.cat_tup p1 p2 (λz=>hx (r1.nil_iff.mp z)) (λz=>⟨.ref a,H,I,rfl,q1 (r2.nil_iff.mp z)⟩) (λz=>?_) (by rw[<-r1.length,<-r2.length];exact hz)
 refine⟨.ref s.heap.objs.size,_,I.laid (t':=s.toks) (o:=.tup (xs++ys)) (λb ob q=>zf _ q) (zj _) ?_,rfl,q2 (λw=>z (r2.nil_iff.mpr w)) _ (I.hok.fresh (zj _))⟩
 exact⟨by rw[ze];exact hz,_,r1.append r2,W8.new _ _⟩
end
noncomputable def ixN(n:Nat)(i:Int):Option Nat:=if 0<=i then (if i<n then some i.toNat else none)else if -(n:Int)<=i then some (i+n).toNat else none
def atI{α:Type}(xs:List α)(i:Int):Option α:=(ixN xs.length i).bind λj=>xs[j]?
theorem cN4(h:ixN n i=some j):seqIndex? i n=some j/\j<n/\ -(n:Int)<=i/\i<n:=by
 unfold ixN at h
 by_cases h0:0<=i
 · rw[if_pos h0]at h
   by_cases h1:i<n
   · rw[if_pos h1]at h
     have e:i.toNat=j:=jm h
     exact⟨by rw[seqIndex_of h0 h1,e],by lia,by lia,h1⟩
   ·rw[if_neg h1]at h;cases h
 · rw[if_neg h0]at h
   by_cases h1: -(n:Int)<=i
   · rw[if_pos h1]at h
     have e:(i+n).toNat=j:=jm h
     exact⟨by rw[JL (by lia) h1,e],by lia,h1,by lia⟩
   ·rw[if_neg h1]at h;cases h
theorem bQ0(h:atI xs i=some v):∃j,seqIndex? i xs.length=some j/\xs[j]? =some v/\j<xs.length/\ -(xs.length:Int)<=i/\i<xs.length:=by
 unfold atI at h
 cases e:ixN xs.length i with
 |none=>rw[e]at h;cases h
 |some j=>
   rw[e]at h
   obtain⟨h1,h2,h3,h4⟩:=cN4 e
   exact⟨j,h1,h,h2,h3,h4⟩
theorem atI_nat{xs:List α}{j:Nat}{v:α}(h:xs[j]? =some v):atI xs (j:Int)=some v:=by
 have hj:j<xs.length:=(jM.mp h).1
 have e:ixN xs.length (j:Int)=some j:=by
  unfold ixN
  rw[if_pos (by lia),if_pos (by lia)];simp
 unfold atI;rw[e];exact h
noncomputable def bQ8(b:Expr):Prop:=∀o i,subscripted b false o i=operate [o,i] (Zw o i)
def IxR(X:Cx)(r:R2):Prop:=
 ∀(value slice:Expr) (pins:PNS) (s:zm) (U:St) (H:Hp) (x y:V) (v u:zg) (Q:VK),Inv X pins U H s->u5 x v->u5 y u->r x y H Q->
  subscripted slice false v u=operate [v,u] (Zw v u)->zt (zB X.prog X.w) X.A (subscriptTail value slice v u) (EP X pins U Q) X.xe s
def MtR(X:Cx)(id:String)(r:V->List V->Hp->VK->Prop):Prop:=
 ∀(pins:PNS) (s:zm) (U:St) (H:Hp) (x:V) (xs:List V) (v:zg) (us:List zg) (Q:VK),Inv X pins U H s->u5 x v->o6 xs us->r x xs H Q->
  zt (zB X.prog X.w) X.A (call (.builtin id) (v::us)) (EP X pins U Q) X.xe s
section
variable{X:Cx}
theorem IxR.or(h:IxR X r)(h':IxR X r'):IxR X (λx y H Q=>r x y H Q\/r' x y H Q):=by
 intro value slice pins s U H x y v u Q I rx ry q hs
 rcases q with q|q
 ·exact h value slice pins s U H x y v u Q I rx ry q hs
 ·exact h' value slice pins s U H x y v u Q I rx ry q hs
theorem MtR.or{id:String}(h:MtR X id r)(h':MtR X id r'):MtR X id (λx xs H Q=>r x xs H Q\/r' x xs H Q):=by
 intro pins s U H x xs v us Q I rx rs q
 rcases q with q|q
 ·exact h pins s U H x xs v us Q I rx rs q
 ·exact h' pins s U H x xs v us Q I rx rs q
theorem eO4(hr:IxR X r)(ha:PE X a ta)(hb:PE X b tb)(hs:bQ8 b):PE X (.Subscript a b pos) (tOp r ta tb):=by
 intro pins s U H Q I h
 exact Subscript_ (eI7 ha hb I h λv u s2 x y H2 I2 rx ry q=>hr a b pins s2 U H2 x y v u Q I2 rx ry q (hs _ _))
def eZ1(K:zc):R2:=λx y H Q=>∃p xs i v,x= .ref p/\y= .int i/\SqL K H p xs/\atI xs i=some v/\Q v H
def eY9(K:zc):R2:=λx y H Q=>∃p xs i v,x= .ref p/\y= .int i/\SqT K H p xs/\atI xs i=some v/\Q v H
def eZ3:R2:=λx y H Q=>∃z i c,x= .str z/\y= .int i/\z.length<=zd/\atI z.cps.toList i=some c/\Q (.str ⟨#[c]⟩) H
theorem dT0:IxR X (eZ1 X.K):=by
 intro value slice pins s U H x y v u Q I rx ry h hs
 obtain⟨p,xs,i,z,rfl,rfl,hq,he,q⟩:=h
 cases rx
 obtain⟨t,rfl⟩:=ry
 obtain⟨its,r,pl,hz⟩:=I.list hq
 obtain⟨j,h1,h2,h3,h4,h5⟩:=bQ0 he
 obtain⟨w,ew,rw'⟩:=r.get h2
 have hl:=r.length
 have hn:=aP9
 have fin:EP X pins U Q w s:=⟨z,H,I,rw',q⟩
 by_cases h0:0<=i
 · have hj:i.toNat=j:=by
    rw[seqIndex_of h0 h5]at h1
    exact jm h1
   exact item_listR pl.isList h0 (by lia) (by rw[hj];simpa using ew) fin hs
 · have hj:(i+(its.toArray.size:Int)).toNat=j:=by
    rw[JL (by lia) h4]at h1
    rw[zk,<-hl]
    exact jm h1
   exact JT (x:=w) pl.isList.typeIs YA.lookup
    (wpAny_getItem_list_neg (Q:=λr s'=>r=w/\EP X pins U Q r s') pl.isList (by lia) (by rw[zk]<;>lia) (by lia) (by rw[hj];simpa using ew) ⟨rfl,fin⟩) hs
theorem ix_tup:IxR X (eY9 X.K):=by
 intro value slice pins s U H x y v u Q I rx ry h hs
 obtain⟨p,xs,i,z,rfl,rfl,hq,he,q⟩:=h
 cases rx
 obtain⟨t,rfl⟩:=ry
 obtain⟨its,r,pl,hz⟩:=I.tuple hq
 obtain⟨j,h1,h2,h3,h4,h5⟩:=bQ0 he
 obtain⟨w,ew,rw'⟩:=r.get h2
 have hl:=r.length
 have hn:=aP9
 have fin:EP X pins U Q w s:=⟨z,H,I,rw',q⟩
 exact JT (x:=w) pl.typeIs zO.lookup
  (getItem_tuple (j:=j) (Q:=λr s'=>r=w/\EP X pins U Q r s') pl (by lia) (by lia) (by rw[zk,<-hl];exact h1) (by simpa using ew) ⟨rfl,fin⟩) hs
theorem ix_str:IxR X eZ3:=by
 intro value slice pins s U H x y v u Q I rx ry h hs
 obtain⟨z,i,c,rfl,rfl,hz,he,q⟩:=h
 obtain⟨t,rfl⟩:=rx
 obtain⟨t',rfl⟩:=ry
 obtain⟨j,h1,h2,h3,h4,h5⟩:=bQ0 he
 have hl:z.cps.toList.length=z.length:=by simp[Str.length]
 rw[hl]at h1 h4 h5
 have hn:=aP9
 exact XL (Zv s z t) slot_str_getitem.lookup (getItem_str (c:=c) (by
  have e1:decide (i < -(2 ^ 63:Int))=false:=decide_eq_false (by lia)
  have e2:decide (i>=2 ^ 63)=false:=decide_eq_false (by lia)
  rw[e1,e2,ZJ]) (by rw[h1];simpa using h2) ⟨.str ⟨#[c]⟩,H,I.tok _,⟨_,rfl⟩,q⟩) hs
theorem cB6(its:List zg)(n j:Nat)(u:zg):xO (·.setIfInBounds j u) {cls:=.type "list",data:=.seq its.toArray n}= {cls:=.type "list",data:=.seq (its.set j u).toArray n}:=by
 simp[xO]
theorem Inv.lst(I:Inv X pins U H s)(h:H p=some (.lst xs)):
 ∃(its:List zg) (n:Nat),o6 xs its/\s.heap.get? p=some {cls:=.type "list",data:=.seq its.toArray n}/\xs.length<=zd:=by
 obtain⟨z,its,n,r,e⟩:=I.hok p _ h
 exact⟨its,n,r,e,z⟩
theorem Inv.lstUpd{U:St}{H:Hp}{s:zm}{p:Addr}{xs ys:List V}{its its':List zg}{n n':Nat}{f:Obj->Obj}(I:Inv X pins U H s)(h:H p=some (.lst xs))
 (ho:s.heap.get? p=some {cls:=.type "list",data:=.seq its.toArray n}) (hf:f {cls:=.type "list",data:=.seq its.toArray n}= {cls:=.type "list",data:=.seq its'.toArray n'}) (r:o6 ys its') (hz:ys.length<=zd) (t:Nat):
 Inv X pins U (upd H p (.lst ys)) {s with heap:=s.heap.update p f,toks:=t}:=by
 have e:(s.heap.update p f).get? p=some {cls:=.type "list",data:=.seq its'.toArray n'}:=by
  rw[yi f ho (by rw[hf]<;>rfl),hf]
 refine I.write (x:=p) (e:=p) (by rw[h];trivial) (.inl rfl) (λb u hb q=>(jf _ _ (Ne.symm hb)).trans q) ⟨_,e⟩ ?_
 exact⟨hz,its',n',r,e⟩
def eT6:V->V->V->Hp->(Hp->Prop)->Prop:=λo i v H Q=>∃p xs k j,o= .ref p/\i= .int k/\H p=some (.lst xs)/\ixN xs.length k=some j/\Q (upd H p (.lst (xs.set j v)))
theorem dH7:eJ3 X eT6:=by
 intro pins s U H o i v ov iv u Q I ro ri rv h
 obtain⟨p,xs,k,j,rfl,rfl,hp,hj,q⟩:=h
 cases ro
 obtain⟨t,rfl⟩:=ri
 obtain⟨its,n,r,ho,hz⟩:=I.lst hp
 obtain⟨h1,h2,h3,h4⟩:=cN4 hj
 have hl:=r.length
 have hn:=aP9
 have I':Inv X pins U (upd H p (.lst (xs.set j v))) {s with heap:=s.heap.update p (xO (·.setIfInBounds j u))}:=
  I.lstUpd hp ho (cB6 its n j u) (r.set rv j) (by rw[List.length_set];exact hz) s.toks
 by_cases h0:0<=k
 · have hk:k.toNat=j:=by
    rw[seqIndex_of h0 h4]at h1
    exact jm h1
   exact PySem.W.ki_setAt ho h0 (by lia) (by rw[zk,<-hl];exact h4) (by rw[hk];exact⟨_,I',q⟩)
 · have hk:(k+(its.toArray.size:Int)).toNat=j:=by
    rw[JL (by lia) h3]at h1
    rw[zk,<-hl]
    exact jm h1
   exact PySem.W.ki_setBack ho (by lia) (by rw[zk,<-hl];exact h3) (by lia) (by rw[hk];exact⟨_,I',q⟩)
theorem bO6(lo hi:Option Int)(n:Nat):(xJ lo hi none n).1= ((HT.sIx n 0 lo:Nat):Int)/\(xJ lo hi none n).2.1= ((HT.sIx n n hi:Nat):Int)/\(xJ lo hi none n).2.2=1:=by
 refine⟨?_,?_,rfl⟩
 · cases lo with
   |none=>simp[xJ,HT.sIx]
   |some i=>
     simp only[xJ,HT.sIx,JH,show (1:Int)>0 by decide,if_true]
     by_cases h:i<0
     ·simp only[h,if_true]<;>lia
     ·simp only[h,if_false]<;>lia
 · cases hi with
   |none=>simp[xJ,HT.sIx]
   |some i=>
     simp only[xJ,HT.sIx,JH,show (1:Int)>0 by decide,if_true]
     by_cases h:i<0
     ·simp only[h,if_true]<;>lia
     ·simp only[h,if_false]<;>lia
theorem bH9(its:List zg)(lo hi:Option Int):slicePick its.toArray lo hi none= ((its.drop (HT.sIx its.length 0 lo)).take (HT.sIx its.length its.length hi-HT.sIx its.length 0 lo)).toArray:=by
 obtain⟨h1,h2,h3⟩:=bO6 lo hi its.toArray.size
 unfold slicePick
 rw[h1,h2,h3]
 simp only[sliceRange_one,pick_run,zk]<;>rfl
def fC3(K:zc):V->Option Int->Option Int->Hp->VK->Prop:=λx lo hi H Q=>∃a xs,x= .ref a/\SqL K H a xs/\∀p,H p=none->Q (.ref p) (upd H p (.lst (bG6 xs lo hi)))
theorem dS1:SlR X (fC3 X.K):=by
 intro pins s U H x v vl vu lo hi sl Q I rx hs pl pu h
 obtain⟨a,xs,rfl,hx,q⟩:=h
 cases rx
 obtain⟨its,r,ht,hz⟩:=I.list hx
 have hlen:=r.length
 refine⟨"list",_,YA.lookup,ht.isList.typeIs,?_⟩
 refine Je ht.isList hs pl pu .none (by simp) ?_ (by rw[zk]<;>lia)
 rw[bH9,<-hlen]
 refine⟨.ref s.heap.objs.size,_,I.laid (t':=s.toks) (o:=.lst (bG6 xs lo hi)) (λb ob q=>zf _ q) (zj _) ?_,rfl,q _ (I.hok.fresh (zj _))⟩
 exact⟨zu (aW6 xs lo hi) hz,_,0,(r.drop (HT.sIx xs.length 0 lo)).take (HT.sIx xs.length xs.length hi-HT.sIx xs.length 0 lo),zq _ rfl⟩
noncomputable def aO6:V->Bool
 | .non=>true
 | .bl _=>true
 | .int _=>true
 | .str _=>true
 |_=>false
noncomputable def eqV:V->V->Bool
 | .non,.non=>true
 | .bl a,.bl b=>a==b
 | .bl a,.int b=>(if a then 1 else 0)==b
 | .int a,.bl b=>a==(if b then 1 else 0)
 | .int a,.int b=>a==b
 | .str a,.str b=>a==b
 |_,_=>false
theorem eM7(ry:u5 y u)(rx:u5 x v)(fy:aO6 y=true)(fx:aO6 x=true):ym A s u v (eqV y x):=by
 cases y with
 |non=>
   cases ry
   cases x with
   |non=>cases rx;exact ZL _
   |bl b=>cases rx;exact YI b
   |int b=>obtain⟨t,rfl⟩:=rx;exact YZ b t
   |str b=>obtain⟨t,rfl⟩:=rx;exact YY b t
   |_=>exact absurd (show false=true from fx) zJ
 |bl a=>
   cases ry
   cases x with
   |non=>cases rx;exact YJ a
   |bl b=>cases rx;exact YK a b
   |int b=>obtain⟨t,rfl⟩:=rx;exact Xd a b t
   |str b=>obtain⟨t,rfl⟩:=rx;exact Xc a b t
   |_=>exact absurd (show false=true from fx) zJ
 |int a=>
   obtain⟨t',rfl⟩:=ry
   cases x with
   |non=>cases rx;exact Xa a t'
   |bl b=>cases rx;exact Xb a t' b
   |int b=>obtain⟨t,rfl⟩:=rx;exact Xj a t' b t
   |str b=>obtain⟨t,rfl⟩:=rx;exact Zm a t' b t
   |_=>exact absurd (show false=true from fx) zJ
 |str a=>
   obtain⟨t',rfl⟩:=ry
   cases x with
   |non=>cases rx;exact YW a t'
   |bl b=>cases rx;exact YX a t' b
   |int b=>obtain⟨t,rfl⟩:=rx;exact Zl a t' b t
   |str b=>obtain⟨t,rfl⟩:=rx;exact Xi a t' b t
   |_=>exact absurd (show false=true from fx) zJ
 |_=>exact absurd (show false=true from fy) zJ
def eqU(x:V)(u:zg):Bool:=match u with
 | .none=>eqV .non x
 | .bool b=>eqV (.bl b) x
 | .int i _=>eqV (.int i) x
 | .str z _=>eqV (.str z) x
 |_=>false
theorem dE5(r:u5 y u)(f:aO6 y=true):eqU x u=eqV y x:=by
 cases y with
 |non=>cases r;rfl
 |bl b=>cases r;rfl
 |int i=>obtain⟨t,rfl⟩:=r;rfl
 |str z=>obtain⟨t,rfl⟩:=r;rfl
 |_=>exact absurd (show false=true from f) zJ
theorem aZ5(h:o6 xs us)(f:xs.all aO6=true):us.any (eqU x)=xs.any λy=>eqV y x:=by
 induction h with
 |nil=>rfl
 |cons r t ih=>
   rw[jl,zQ]at f
   rw[yc,yc,dE5 r f.1,ih f.2]
theorem aL1(rx:u5 x v)(fx:aO6 x=true):∀ {xs} {us},o6 xs us->xs.all aO6=true->∀u∈us,ym A s u v (eqU x u)
 |_,_,.nil,_=>λu hu=>by cases hu
 |y::xs,u::us,.cons r t,f=>λu' hu=>by
   rw[jl,zQ]at f
   rcases zi.mp hu with rfl|hu
   ·rw[dE5 r f.1];exact eM7 r rx f.1 fx
   ·exact aL1 rx fx t f.2 u' hu
def inV(x:V)(xs:List V):Bool:=xs.any λy=>eqV y x
def rIn(K:zc)(neg:Bool):R2:=λx y H Q=>∃p xs,y= .ref p/\(SqL K H p xs\/SqT K H p xs)/\aO6 x=true/\xs.all aO6=true/\Q (.bl (if neg then !inV x xs else inV x xs)) H
theorem cQ8:OpR X (zL .In) (rIn X.K false):=by
 intro pins s U H x y v u Q I rx ry h
 obtain⟨p,xs,rfl,hq,fx,fs,q⟩:=h
 cases ry
 rcases hq with hq|hq
 · obtain⟨its,r,pl,hz⟩:=I.list hq
   refine SeqAt.in_listAt (eqU x) pl.isList (λw hw=>aL1 rx fx r fs w (by simpa using hw)) ⟨.bl _,H,I,rfl,?_⟩
   rw[show its.toArray.any (eqU x)=its.any (eqU x) by simp,aZ5 r fs]
   exact q
 · obtain⟨its,r,pl,hz⟩:=I.tuple hq
   refine SeqAt.in_tupleAt (eqU x) pl (λw hw=>aL1 rx fx r fs w (by simpa using hw)) ⟨.bl _,H,I,rfl,?_⟩
   rw[show its.toArray.any (eqU x)=its.any (eqU x) by simp,aZ5 r fs]
   exact q
theorem bR1:OpR X (zL .NotIn) (rIn X.K true):=by
 intro pins s U H x y v u Q I rx ry h
 obtain⟨p,xs,rfl,hq,fx,fs,q⟩:=h
 cases ry
 rcases hq with hq|hq
 · obtain⟨its,r,pl,hz⟩:=I.list hq
   refine SeqAt.notIn_listAt (eqU x) pl.isList (λw hw=>aL1 rx fx r fs w (by simpa using hw)) ⟨.bl _,H,I,rfl,?_⟩
   rw[show its.toArray.any (eqU x)=its.any (eqU x) by simp,aZ5 r fs]
   exact q
 · obtain⟨its,r,pl,hz⟩:=I.tuple hq
   refine SeqAt.notIn_tupleAt (eqU x) pl (λw hw=>aL1 rx fx r fs w (by simpa using hw)) ⟨.bl _,H,I,rfl,?_⟩
   rw[show its.toArray.any (eqU x)=its.any (eqU x) by simp,aZ5 r fs]
   exact q
theorem bS2:OpR X (zL .NotIn) (λx y H Q=>∃i j,x= .str i/\y= .str j/\Q (.bl (!(!(xK j i 0 j.length 1).isEmpty))) H):=by
 intro pins s U H x y v u Q I rx ry h
 obtain⟨i,j,rfl,rfl,q⟩:=h
 obtain⟨t,rfl⟩:=rx
 obtain⟨t',rfl⟩:=ry
 exact notIn_str ⟨.bl _,H,I,rfl,q⟩
theorem bS4:U7 X (.builtin "len") (λxs H Q=>∃p ys,xs= [.ref p]/\(SqL X.K H p ys\/SqT X.K H p ys)/\Q (.int ys.length) H):=by
 intro pins s U H xs us Q I r h
 obtain⟨p,ys,rfl,hq,q⟩:=h
 obtain⟨u,rfl,rx⟩:=W5 r
 cases rx
 have hn:=aP9
 rcases hq with hq|hq
 · obtain⟨its,r',pl,hz⟩:=I.list hq
   have hlen:=r'.length
   exact Calls.call_len_list pl.isList (by simp only[zk]<;>lia) ⟨.int ys.length,H,I.tok _,⟨s.toks+1,by rw[zk,hlen]⟩,q⟩
 · obtain⟨its,r',pl,hz⟩:=I.tuple hq
   have hlen:=r'.length
   exact len_tuple pl (by simp only[zk]<;>lia) ⟨.int ys.length,H,I.tok _,⟨s.toks+1,by rw[zk,hlen]⟩,q⟩
theorem bO0:U7 X (.builtin "len") (λxs H Q=>∃z,xs= [.str z]/\z.length<=zd/\Q (.int z.length) H):=by
 intro pins s U H xs us Q I r h
 obtain⟨z,rfl,hz,q⟩:=h
 obtain⟨u,rfl,t,rfl⟩:=W5 r
 have hn:=aP9
 exact len_str (by lia) ⟨.int z.length,H,I.tok _,⟨_,rfl⟩,q⟩
theorem U7.or(h:U7 X f r)(h':U7 X f r'):U7 X f (λxs H Q=>r xs H Q\/r' xs H Q):=by
 intro pins s U H xs us Q I rs q
 rcases q with q|q
 ·exact h pins s U H xs us Q I rs q
 ·exact h' pins s U H xs us Q I rs q
theorem bR8:U7 X (.type "list") (λxs H Q=>∃p ys,xs= [.ref p]/\(SqL X.K H p ys\/SqT X.K H p ys)/\∀l,H l=none->Q (.ref l) (upd H l (.lst ys))):=by
 intro pins s U H xs us Q I r h
 obtain⟨p,ys,rfl,hq,q⟩:=h
 obtain⟨u,rfl,rx⟩:=W5 r
 cases rx
 have fin:∀(its:List zg),o6 ys its->ys.length<=zd->∀(h':Heap) (c':Nat),(∀b o',s.heap.get? b=some o'->h'.get? b=some o')->
  h'.get? s.heap.objs.size=some {cls:=.type "list",dict:=none,data:=.seq its.toArray c',slots:= #[]}->EP X pins U Q (.ref s.heap.objs.size) {s with heap:=h'}:=λits r' hz h' c' kp e=>
  ⟨.ref s.heap.objs.size,_,I.laid (t':=s.toks) kp (zj _) (show O7 X.prog X.w _ h' _ (.lst ys) from⟨hz,its,c',r',e⟩),rfl,q _ (I.hok.fresh (zj _))⟩
 rcases hq with hq|hq
 · obtain⟨its,r',pl,hz⟩:=I.list hq
   have hlen:=r'.length
   obtain⟨o,ho,hc,n,hd⟩:=pl.isList
   exact call_list_seq p (.inl rfl) ho hc hd (λh' c' kp e=>fin its r' hz h' c' kp e) (by simp only[zk]<;>lia)
 · obtain⟨its,r',pl,hz⟩:=I.tuple hq
   have hlen:=r'.length
   obtain⟨o,ho,hc,n,hd⟩:=pl
   exact call_list_seq p (.inr rfl) ho hc hd (λh' c' kp e=>fin its r' hz h' c' kp e) (by simp only[zk]<;>lia)
theorem bH0:U7 X (.type "tuple") (λxs H Q=>∃p ys,xs= [.ref p]/\((SqL X.K H p ys/\∀l,H l=none->Q (.ref l) (upd H l (.tup ys)))\/(SqT X.K H p ys/\Q (.ref p) H))):=by
 intro pins s U H xs us Q I r h
 obtain⟨p,ys,rfl,h⟩:=h
 obtain⟨u,rfl,rx⟩:=W5 r
 cases rx
 rcases h with⟨hq,q⟩|⟨hq,q⟩
 · obtain⟨its,r',pl,hz⟩:=I.list hq
   have hlen:=r'.length
   refine call_tuple_list pl.isList (λh' kp=>?_) (by simp only[zk]<;>lia)
   have I1:Inv X pins U H {s with heap:=h'}:=I.kept (t':=s.toks) kp
   have I2:Inv X pins U (upd H h'.objs.size (.tup ys)) {s with heap:=h'.push {cls:=.type "tuple",data:=.seq its.toArray}}:=
    I1.laid (t':=s.toks) (λb o e=>zf _ e) (zj _) (show O7 X.prog X.w _ _ _ (.tup ys) from⟨hz,its,r',W8.new _ _⟩)
   exact⟨.ref h'.objs.size,_,I2,rfl,q _ (I1.hok.fresh (zj _))⟩
 · obtain⟨its,r',pl,hz⟩:=I.tuple hq
   exact call_tuple_same pl ⟨.ref p,H,I,rfl,q⟩
def tyV(K:zc)(T:String)(x:V)(H:Hp):Prop:=match x with
 | .str _=>T= "str"
 | .int _=>T= "int"
 | .ref p=>(T= "list"/\∃xs,SqL K H p xs)\/(T= "tuple"/\∃o,K.lookup p=some o/\o.cls= .type "tuple"/\o.dict=none)\/
    (T= "dict"/\((∃kvs,H p=some (.dK kvs))\/∃kvs,H p=some (.dT kvs)))\/(T= "set"/\∃S n,H p=some (.set S n))
 |_=>False
theorem cY4(I:Inv X pins U H s)(r:u5 x v)(ty:tyV X.K T x H):
 s.TypeIs v T/\∀a,v= .ref a->∃ob,s.heap.get? a=some ob/\ob.dict=none:=by
 cases x with
 |str z=>
   obtain⟨t,rfl⟩:=r
   cases (show T= "str" from ty)
   exact⟨Zv s z t,λ_ e=>nomatch e⟩
 |int i=>
   obtain⟨t,rfl⟩:=r
   cases (show T= "int" from ty)
   exact⟨typeIs_int s i t,λ_ e=>nomatch e⟩
 |ref p=>
   cases r
   rcases ty with⟨rfl,xs,hq⟩|⟨rfl,o,hk,hc,hd⟩|⟨rfl,hk⟩|⟨rfl,S,n,hk⟩
   · obtain⟨its,_,pl,_⟩:=I.list hq
     refine⟨pl.isList.typeIs,λa e=>?_⟩
     cases e
     obtain⟨o,n,e,c,hd,_⟩:=pl
     exact⟨o,e,hd⟩
   · refine⟨⟨o,I.kIn p o hk,hc⟩,λa e=>?_⟩
     cases e
     exact⟨o,I.kIn _ o hk,hd⟩
   · have z:∃o,s.heap.get? p=some o/\o.ExactDict:=by
      rcases hk with⟨kvs,hk⟩|⟨kvs,hk⟩
      · obtain⟨_,_,_,_,o,_,_,e,ex,_⟩:=I.hok p _ hk
        exact⟨o,e,ex⟩
      · obtain⟨_,_,_,_,o,_,_,e,ex,_⟩:=I.hok p _ hk
        exact⟨o,e,ex⟩
     obtain⟨o,e,ex⟩:=z
     refine⟨⟨o,e,ex.1⟩,λa e2=>?_⟩
     cases e2
     exact⟨o,e,ex.2.1⟩
   · obtain⟨o,_,_,_,e,ex,_⟩:=I.hok p _ hk
     refine⟨⟨o,e,ex.1⟩,λa e2=>?_⟩
     cases e2
     exact⟨o,e,ex.2.1⟩
 |_=>exact jG ty
def fB7(K:zc)(T:String)(r:V->List V->Hp->VK->Prop)(to:TE):TE:=λU H Q=>to U H λx H1=>tyV K T x H1/\r x [] H1 Q
def tBM(K:zc)(T:String)(r:V->List V->Hp->VK->Prop)(to:TE)(t:TA):TE:=λU H Q=>to U H λx H1=>tyV K T x H1/\t U H1 λxs H2=>r x xs H2 Q
variable{o e:Expr}{es:List Expr}{to:TE}{t:TA}{name:Str}{apos cpos:Pos}{T id:String}{r:V->List V->Hp->VK->Prop}
theorem eG2(pa:PlainAttrs T)(slot:Slot T name id)(hty:typeOf (.builtin id)=pure (.type "method_descriptor"))(hm:MtR X id r)(ho:PE X o to)
 (hbase:xl o name X.env (eval o X.env)=eval o X.env) (hline:(apos.endLine==cpos.line)=true):PE X (.Call (.Attribute o name apos) [] [] cpos) (fB7 X.K T r to):=by
 intro pins s U H Q I h
 refine wpAny_Call_method0_late hbase hline (thn (ho pins s U H _ I h) λv s1 ⟨x,H1,I1,r1,ty,q1⟩=>?_)
 obtain⟨h1,h2⟩:=cY4 I1 r1 ty
 exact⟨T,id,pa,slot,hty,h1,h2,Xo rfl (PySem.evalArgs_none (hm pins s1 U H1 x [] v [] Q I1 r1 .nil q1))⟩
theorem dZ3(pa:PlainAttrs T)(slot:Slot T name id)(hty:typeOf (.builtin id)=pure (.type "method_descriptor"))(hm:MtR X id r)(ho:PE X o to)(ha:PA X (e::es) t)
 (hbase:xl o name X.env (eval o X.env)=eval o X.env)
 (hfew:((yb cpos (zy (e::es) X.env)).all (λx=> !x.1)&&(XE cpos (ZQ [] X.env)).all (λx=>x.1.isSome)
   && decide ((e::es).length+([]:List Keyword).length+(if ([]:List Keyword).isEmpty then 0 else 1)<30))=true)
 (hline:(apos.endLine==cpos.line)=true) (hs:zy (e::es) X.env= (false,eval e X.env)::zy es X.env) (hplain:(yb cpos (zy es X.env)).any (·.1)=false):
 PE X (.Call (.Attribute o name apos) (e::es) [] cpos) (tBM X.K T r to t):=by
 intro pins s U H Q I h
 refine wpAny_Call_method_late hbase hfew hline rfl (thn (ho pins s U H _ I h) λv s1 ⟨x,H1,I1,r1,ty,q1⟩=>?_)
 obtain⟨h1,h2⟩:=cY4 I1 r1 ty
 refine⟨T,id,pa,slot,hty,h1,h2,?_⟩
 have hA:=ha cpos pins s1 U H1 _ I1 q1
 rw[hs]at hA ⊢
 refine Xo (by show (false||(yb cpos (zy es X.env)).any (·.1))=false;rw[hplain]<;>rfl) (XH ?_)
 exact thn hA λus s2 hE1=>hE1.elim λvs H2 I2 r2 q2=>hm pins s2 U H2 x vs v us Q I2 r1 r2 q2
end
def MtM(X:Cx)(id:String)(r:V->List V->Hp->VK->Prop):Prop:=
 ∀(pins:PNS) (s:zm) (U:St) (H:Hp) (x:V) (xs:List V) (v:zg) (us:List zg) (Q:VK),Inv X pins U H s->u5 x v->o6 xs us->r x xs H Q->
  zt (zB X.prog X.w) X.A (call (.builtin id) (v::us)) (EP X pins U Q) X.xe s
theorem o6.one(h:o6 [x] us):∃u,us= [u]/\u5 x u:=by
 cases h with
 |cons r t=>cases t;exact⟨_,rfl,r⟩
theorem o6.two(h:o6 [x,y] us):∃u v,us= [u,v]/\u5 x u/\u5 y v:=by
 cases h with
 |cons r t=>
   obtain⟨v,rfl,q⟩:=o6.one t
   exact⟨_,v,rfl,r,q⟩
theorem o6.zero:∀ {us},o6 [] us->us= []
 |_,.nil=>rfl
theorem o6.dropLast(h:o6 xs us):o6 xs.dropLast us.dropLast:=by
 induction h with
 |nil=>exact .nil
 |cons r t ih=>
   cases t with
   |nil=>exact .nil
   |cons q t'=>exact .cons r ih
theorem o6.eraseIdx:∀ {xs} {us} i,o6 xs us->o6 (xs.eraseIdx i) (us.eraseIdx i)
 |_,_,_,.nil=>.nil
 |_,_,0,.cons _ t=>t
 |_,_,i+1,.cons r t=>.cons r (o6.eraseIdx i t)
theorem o6.reverse(h:o6 xs us):o6 xs.reverse us.reverse:=by
 induction h with
 |nil=>exact .nil
 |cons r t ih=>rw[yP,yP];exact o6.append ih (.cons r .nil)
theorem cA4(l:List α):l.eraseIdx (l.length-1)=l.dropLast:=by
 induction l with
 |nil=>rfl
 |cons a r ih=>
   cases r with
   |nil=>rfl
   |cons b r=>
     have e:(a::b::r).length-1= ((b::r).length-1)+1:=by
      have h1:(a::b::r).length=r.length+2:=rfl
      have h2:(b::r).length=r.length+1:=rfl
      lia
     rw[e,List.eraseIdx_cons_succ,ih]
     all_goals rfl
section
theorem Inv.lset{its its':List zg}{n:Nat}{t':Nat}(I:Inv X pins U H s)(hH:H l=some (.lst xs))
 (e:s.heap.get? l=some {cls:=.type "list",data:=.seq its.toArray n}) (hf:f its.toArray=its'.toArray) (hv:o6 ys its') (hz:ys.length<=zd):
 Inv X pins U (upd H l (.lst ys)) {s with heap:=s.heap.update l (xO f),toks:=t'}:=by
 have q:=PySem.IsL.update e f
 rw[hf]at q
 refine I.write (x:=l) (e:=l) (by rw[hH];exact trivial) (.inl rfl) (λb' u hb hu=>(jf s.heap (xO f) (Ne.symm hb)).trans hu) ⟨_,q⟩ ?_
 exact⟨hz,its',_,hv,q⟩
theorem Inv.lnew(I:Inv X pins U H s)(hv:o6 ys its)(hz:ys.length<=zd):
 Inv X pins U (upd H s.heap.objs.size (.lst ys)) {s with heap:=s.heap.push {cls:=.type "list",data:=.seq its.toArray},toks:=t'}:=
 I.laid (λ_ _ q=>zf _ q) (zj _) ⟨hz,its,0,hv,zq _ rfl⟩
theorem Inv.fresh(I:Inv X pins U H s):H s.heap.objs.size=none:=I.hok.fresh (zj _)
theorem Inv.lstM(I:Inv X pins U H s)(hH:H l=some (.lst xs)):xs.length<=zd/\∃(its:List zg) (n:Nat),o6 xs its/\xs.length=its.length/\s.heap.get? l=some {cls:=.type "list",data:=.seq its.toArray n}:=by
 obtain⟨z,its,n,r,e⟩:=I.hok l _ hH
 exact⟨z,its,n,r,r.length,e⟩
theorem dA4(h:n<=zd):xD n=false:=by
 unfold xD
 exact decide_eq_false (by lia)
end
section
def dO9:V->List V->Hp->VK->Prop:=λx vs H Q=>∃l xs y,x= .ref l/\vs= [y]/\H l=some (.lst xs)/\xs.length<zd/\Q .non (upd H l (.lst (xs++[y])))
theorem bI6:MtM X "list.append" dO9:=by
 intro pins s U H x vs v us Q I rx rv h
 obtain⟨l,xs,y,rfl,rfl,hH,hz,q⟩:=h
 cases rx
 obtain⟨u,rfl,ru⟩:=rv.one
 obtain⟨z,its,n,r,hl,e⟩:=I.lstM hH
 refine call_meets XG ⟨_,e,rfl⟩ F.entry_list_append (F.args_list_append_2 _ _) (PySem.list_append l its.toArray n u (by rw[zk];lia)) ⟨e,?_⟩
 refine⟨.non,_,I.lset (its':=its++[u]) hH e (by simp) (r.append (.cons ru .nil)) ?_,rfl,q⟩
 rw[ze,xx]
 lia
def dO0:V->List V->Hp->VK->Prop:=λx vs H Q=>∃l b xs zs,x= .ref l/\vs= [.ref b]/\H l=some (.lst xs)/\H b=some (.lst zs)/\xs.length+zs.length<=zd/\Q .non (upd H l (.lst (xs++zs)))
theorem cQ0:MtM X "list.extend" dO0:=by
 intro pins s U H x vs v us Q I rx rv h
 obtain⟨l,b,xs,zs,rfl,rfl,hH,hB,hz,q⟩:=h
 cases rx
 obtain⟨u,rfl,ru⟩:=rv.one
 cases ru
 obtain⟨z,its,n,r,hl,e⟩:=I.lstM hH
 obtain⟨z2,its2,n2,r2,hl2,e2⟩:=I.lstM hB
 have hsz:its.toArray.size+its2.toArray.size<=zd:=by rw[zk,zk];lia
 have hlong:¬(!its.toArray.isEmpty&&xD (its.toArray.size+its2.toArray.size))=true:=by
  rw[dA4 hsz,Bool.and_false]
  exact zJ
 refine call_meets XF ⟨_,e,rfl⟩ F.entry_list_extend (F.args_list_extend_2 _ _)
  (AutoSeq1.list_extend_list_list_0 l its.toArray n b its2.toArray n2 hlong (by rw[zk];lia) (by lia)) ⟨e,e2,?_⟩
 refine⟨.non,_,I.lset (its':=its++its2) hH e (by simp) (r.append r2) ?_,rfl,q⟩
 rw[ze]
 lia
def eZ6:V->List V->Hp->VK->Prop:=λx vs H Q=>∃l xs y,x= .ref l/\vs= []/\H l=some (.lst xs)/\xs[xs.length-1]? =some y/\Q y (upd H l (.lst xs.dropLast))
theorem eL9:MtM X "list.pop" eZ6:=by
 intro pins s U H x vs v us Q I rx rv h
 obtain⟨l,xs,y,rfl,rfl,hH,hy,q⟩:=h
 cases rx
 have hus:=rv.zero
 subst hus
 obtain⟨z,its,n,r,hl,e⟩:=I.lstM hH
 obtain⟨u,hu,ru⟩:=r.get hy
 have hy':its.toArray[its.toArray.size-1]? =some u:=by
  show its.toArray[its.length-1]? =some u
  rw[<-jb,<-hl]
  exact hu
 refine call_meets Jz ⟨_,e,rfl⟩ F.entry_list_pop (F.args_list_pop_1 _) (MeetsSeq.list_pop_last l its.toArray n u hy' (by rw[zk];lia)) ⟨e,?_⟩
 refine⟨y,_,I.lset (its':=its.dropLast) hH e ?_ r.dropLast ?_,ru,q⟩
 · show its.toArray.eraseIdxIfInBounds (its.toArray.size-1)=its.dropLast.toArray
   rw[zk,List.eraseIdxIfInBounds_toArray,cA4]
 · rw[List.length_dropLast]
   lia
def fA4:R2:=λx y H Q=>∃l b xs zs,x= .ref l/\y= .ref b/\H l=some (.lst xs)/\H b=some (.lst zs)/\xs.length+zs.length<=zd/\∀p,H p=none->Q (.ref p) (upd H p (.lst (xs++zs)))
theorem eC8:OpR X (jL .Add) fA4:=by
 intro pins s U H x y v u Q I rx ry h
 obtain⟨l,b,xs,zs,rfl,rfl,hH,hB,hz,q⟩:=h
 cases rx
 cases ry
 obtain⟨z,its,n,r,hl,e⟩:=I.lstM hH
 obtain⟨z2,its2,n2,r2,hl2,e2⟩:=I.lstM hB
 refine PySem.P.add_list e e2 ?_ (by rw[zk,zk];lia)
 have ea:its.toArray++its2.toArray= (its++its2).toArray:=by simp
 rw[ea]
 exact⟨.ref _,_,I.lnew (t':=s.toks) (r.append r2) (by rw[ze];lia),rfl,q _ I.fresh⟩
end
section
end
section
end
end L2
namespace Att
open PySem PySem.W PySem.Calls PyProof.Rows
theorem aZ1:∀ns vs,WellAll P h vs (ns.map WData.int)->IntsAre vs ns:=by
 intro ns
 induction ns with
 |nil=>
   intro vs w
   rw[Xx]at w
   cases w
   exact .nil
 |cons n ns ih=>
   intro vs w
   rw[zA]at w
   cases w with
   |cons a b=>
     cases a
     exact .cons _ _ (ih _ b)
theorem cP1{l:OpenLaw}{n:Nat}(hn:l.most=some n){P:Params}{h:Heap}
 (hpre:l.row.toRowW.claim.pre args=true) (hwl:WellAll P h vals args):
 ∃a vs ns,vals= [Value.ref a]/\args= [WData.list (ns.map WData.int)]/\h.get? a=some {cls:=.type "list",data:=.seq vs.toArray}/\IntsAre vs ns/\ns.length<=n:=by
 have hsh:WShape.hasAll [] args [.list .int]=true:=(pre_splitW hpre).1
 have hc:l.pre.holds [] {args:=args}=true:=(pre_splitW hpre).2
 obtain⟨d,r,rfl,h1,h2⟩:=hasAllW_cons hsh
 obtain rfl:=hasAllW_nil h2
 obtain⟨xs,rfl,h3⟩:=hasW_list h1
 obtain⟨ns,rfl⟩:=items_int h3
 have hlen:ns.length<=n:=by
  unfold OpenLaw.pre at hc
  have h4:(WTm.not (.lt (.lit (.int (n:Int))) (.len (.arg 0)))).holds [] {args:= [.list (ns.map .int)]}=true:=by
   have h4:=(holds_andW hc).1
   rw[hn]at h4
   exact h4
  have h5:=condW_of h4 (w_not (w_lt w_lit (w_len_list (w_arg rfl))))
  rw[zh]at h5
  refine Nat.le_of_not_lt λq=>?_
  have q':(n:Int)<((ns.length:Nat):Int):=by lia
  first
   |(rw[decide_eq_true q']at h5;exact absurd h5 (by decide))
   |(simp at h5;lia)
 cases hwl with
 |cons w1 w2=>
   cases w2
   cases w1 with
   |list ho hall=>exact⟨_,_,ns,rfl,rfl,ho,aZ1 ns _ hall,hlen⟩
theorem cS1(l:OpenLaw)(args:List WData):l.row.toRowW.claim.post args (.bool true) args=true:=
 postW_of (r:=l.row.toRowW) (X:=(true==true))
  (show WShape.has [] (.bool true) .bool=true by first|rfl|decide|simp[WShape.has,WShape.arms,WShape.armsAll])
  (show (WTm.eq .res (.lit (.bool true))).value [] {args:=args,res:=some (.bool true),after:=args}=some (.bool (true==true))from w_eq_bool (w_res rfl) w_lit) rfl
theorem attach_call{l:OpenLaw}{n:Nat}{q:zC}{loose:List Str}{d:DefRec}
 (hn:l.most=some n) (hdf:d.params.defaults= [])
 (call:∀(w:zN) (WY W1:zm) (mg mb:Str->Option zg) (fa:Addr) (o:Obj) (pm cd doc:zg) (a:Addr) (vs:List zg) (ns:List Int),
   Ground q loose [] XP w WY mg mb W1.heap->YP w W1.heap->
   W1.heap.get? fa=some o->o.data= .func (docDef d.name d.params d.body d.scope pm cd doc)->W1.heap.CodeRec cd d.name->mg d.name=some (.ref fa)->
   W1.heap.get? a=some {cls:=.type "list",data:=.seq vs.toArray}->IntsAre vs ns->ns.length<=n->W1.gens= #[]->
   ZW (zB l.prog w) ZX (.call (.ref fa) ⟨[.ref a], []⟩) (λr s'=>r= .ok (.ret (.bool true))/\OldK W1.heap s'.heap/\s'.os=W1.os/\xU s'.gens) W1):
 WalkO q loose XP YP l.row.toRowW d [] (λf vs=>Jk f vs):=by
 intro w WY W1 mg mb G Y fa o pm cd doc dV kV ho hd hcd hD hmg hg args vals as hpre hlay hrd hwl hlo
 obtain rfl:dV= .none:=Dflts.none hD hdf
 obtain rfl:kV= .none:=Dflts.noKw hD
 obtain⟨a,vs,ns,rfl,rfl,hobj,hints,hlen⟩:=cP1 hn hpre hwl
 refine enter_call (YB (call w WY W1 mg mb fa o pm cd doc a vs ns G Y ho (fd_plain hd) hcd hmg hobj hints hlen hg) λr s' hq=>?_)
 obtain⟨rfl,h2,h3,h4⟩:=hq
 exact⟨.inl ⟨.bool true,.bool true, [],rfl,λ_=>rfl,.bool true,cS1 l _,λ_=>⟨List.Pairwise.nil,λ_ hm=>(nomatch hm)⟩⟩,h2,h3,h4⟩
section
variable{prog:zC}{w:zN}{A:zT}{s:zm}{K:Frag}
end
end Att
namespace L2
open PySem PySem.Spec PyProof.Rows
theorem bL2:∀ {vs} {ns},IntsAre vs ns->o6 (ns.map V.int) vs
 |_,_,.nil=>.nil
 |_,_,.cons n t h=>.cons ⟨t,rfl⟩ (bL2 h)
noncomputable def dR8(H:Hp):Prop:=∀b,H b=none\/∃o xs,H b=some (.frz o (.lst xs))
theorem dC2{P:zC}{w:zN}{K:zc}{CX:CXT}{k:Nat}{fa a:Addr}{fd:yF}{x:Str}{sp:Sp}{W1:zm}{vs:List zg}{ns:List Int}
 (KX:K.In W1.heap) (hns:W1.heap.Ns zS mg) (hb:W1.heap.Ns builtinsNs mb) (hbb:∀x:Str,x≠ "__name__"->mb x=zK x) (hlim:W1.heap.NoLimit) (hg:W1.gens= #[])
 (ha:W1.heap.get? a=some {cls:=.type "list",data:=.seq vs.toArray}) (hi:IntsAre vs ns) (hl:ns.length<=zd) (hr:N8 k ZX)
 (F:∀base:Heap,K.In base->base.Ns zS mg->X3 P w K mg base CX k fa fd [x] sp) (hbind:∀(s:zm) (u:zg),Zy s fd ⟨[u], []⟩ [(x,u)])
 (hsp:∀H:Hp,dR8 H->SqL K H a (ns.map V.int)->sp [.ref a] H (λv _=>v= .bl true) λ_ _ _=>False)
 (hCX:∀H e s',CX [] H W1 (λ_ _ _=>False) e s'->False):
 ZW (zB P w) ZX (.call (.ref fa) ⟨[.ref a], []⟩) (λr s'=>r= .ok (.ret (.bool true))/\OldK W1.heap s'.heap/\s'.os=W1.os/\xU s'.gens) W1:=by
 have rv:=bL2 hi
 have lenV:=hi.length
 -- from an abstract heap in which nothing but the script may be tracked
 have core:∀H:Hp,dR8 H->SqL K H a (ns.map V.int)->HOk P w H W1.heap->(∀b,H b≠none->b=a)->(H a≠none->K.lookup a=none)->
  ZW (zB P w) ZX (.call (.ref fa) ⟨[.ref a], []⟩) (λr s'=>r= .ok (.ret (.bool true))/\OldK W1.heap s'.heap/\s'.os=W1.os/\xU s'.gens) W1:=by
  intro H hO hS hok hA hK
  have base_of:∀ {b:Addr} {o:Obj},W1.heap.get? b=some o->H b=none->(bQ3 W1.heap H).get? b=some o:=λe n=>dG4 e n
  have noA:∀ {b:Addr} {o:Obj} {es:Array DictEntry} {ep:Nat},W1.heap.get? b=some o->o.data= .dict es ep->H b=none:=λ{b o es ep} e d=>by
   cases q:H b with
   |none=>rfl
   |some u=>
     have e':b=a:=hA b (by rw[q];simp)
     subst e'
     rw[ha]at e;cases e
     have d':Data.seq vs.toArray _=Data.dict es ep:=d
     cases d'
  have nsK:∀ {b:Addr} {m:Str->Option zg},W1.heap.Ns b m->(bQ3 W1.heap H).Ns b m:=λ{b m} ⟨o,es,ep,e,d,r⟩=>⟨o,es,ep,base_of e (noA e d),d,r⟩
  have hKb:K.In (bQ3 W1.heap H):=λb o e=>base_of (KX b o e) (by
   cases q:H b with
   |none=>rfl
   |some u=>
     have e':b=a:=hA b (by rw[q];simp)
     subst e'
     rw[hK (by rw[q];simp)]at e;cases e)
  have hM:Mod K mg (bQ3 W1.heap H):=⟨hKb,nsK hns,⟨mb,nsK hb,hbb⟩,let ⟨mc,h1,h2⟩:=hlim;⟨mc,nsK h1,h2⟩⟩
  have e0:cD0 P w K mg (bQ3 W1.heap H) ZX [] W1 H:=⟨rfl,hM,λb o e=>dQ7 e,Nat.le_of_eq (cR9 _ _),trivial,λb hb=>absurd (show b∈([]:List Addr)from hb) (by simp),hok,.of_eq hg⟩
  refine YB ((F _ hKb (nsK hns)).run ZX [] W1 H ⟨[.ref a], []⟩ [.ref a] [.ref a] _ _ hr e0 (hbind W1 (.ref a)) (.cons rfl .nil) (hsp H hO hS)) λr s' h=>?_
  cases r with
  |error e=>exact(hCX H e s' h).elim
  |ok fl=>
    cases fl with
    |next=>exact jG h
    |brk=>exact jG h
    |cont=>exact jG h
    |ret u=>
      obtain⟨v,H',os,bare,un,hok',r',q⟩:=h
      have q':v= .bl true:=q
      subst q'
      obtain rfl:u=Value.bool true:=r'
      refine⟨rfl,OldK.of_keep λb o e=>?_,os,bare⟩
      cases q:H b with
      |none=>exact un.keep b o e q (by intro z;exact absurd (show b∈([]:List Addr)from z) (by simp)) (by simp)
      |some u=>
        rcases hO b with z|⟨ob,xs,z⟩
        ·rw[q]at z;cases z
        · have z2:=un.frzs b ob _ z
          obtain⟨e1,_⟩:=hok b _ z
          obtain⟨e2,_⟩:=hok' b _ z2
          rw[e]at e1;cases e1
          exact e2
 cases hk:K.lookup a with
 |some o=>
   -- the script is one of the module's own objects
   have e:=KX a o hk
   rw[ha]at e
   cases e
   refine core (λ_=>none) (λ_=>.inl rfl) (.inr ⟨_,vs.toArray,_,hk,rfl,rfl,rfl,by rw[zk,lenV];exact hl,by simpa using rv⟩) (λb u z=>by have z':(none:Option HO)=some u:=z;cases z') (λb z=>absurd rfl z) λz=>absurd rfl z
 |none=>
   refine core (λb=>if b=a then some (.frz {cls:=.type "list",data:=.seq vs.toArray} (.lst (ns.map V.int)))else none) (λb=>?_) (.inl (.inr ⟨{cls:=.type "list",data:=.seq vs.toArray},if_pos rfl⟩)) (λb u z=>?_) (λb z=>?_) λ_=>hk
   · by_cases hb:b=a
     ·exact .inr ⟨_,_,if_pos hb⟩
     ·exact .inl (if_neg hb)
   · by_cases hb:b=a
     · have z':=(if_pos hb).symm.trans z
       cases z'
       subst hb
       exact⟨ha,by rw[zh];exact hl,vs,_,rv,ha⟩
     · have z':=(if_neg hb).symm.trans z
       cases z'
   · by_cases hb:b=a
     ·exact hb
     ·exact absurd (if_neg hb) z
theorem walk_of{l:PySem.W.OpenLaw}{n k:Nat}{q:zC}{loose:List Str}{YP:zN->Heap->Prop}{d:DefRec}{K:Params->zc}{CX:zN->CXT}{sp:zN->Sp}{x:Str}
 (hn:l.most=some n) (hn2:n<=zd) (hdf:d.params.defaults= []) (hr:N8 k ZX)
 (hY:∀(w:zN) (h:Heap),YP w h->(K w.params).In h)
 (F:∀(w:zN) (mg:Str->Option zg) (fa:Addr) (h:Heap),(K w.params).In h->h.Ns zS mg->mg d.name=some (.ref fa)->
   ∃fd:yF,(∀(s:zm) (u:zg),Zy s fd ⟨[u], []⟩ [(x,u)])/\
    ∀base:Heap,(K w.params).In base->base.Ns zS mg->X3 l.prog w (K w.params) mg base (CX w) k fa fd [x] (sp w))
 (hsp:∀(w:zN) (H:Hp) (a:Addr) (ns:List Int),ns.length<=n->dR8 H->SqL (K w.params) H a (ns.map V.int)->sp w [.ref a] H (λv _=>v= .bl true) λ_ _ _=>False)
 (hCX:∀(w:zN) (H:Hp) (s:zm) (e:zg) (s':zm),CX w [] H s (λ_ _ _=>False) e s'->False):
 PySem.W.WalkO q loose XP YP l.row.toRowW d [] (λf vs=>Jk f vs):=by
 refine Att.attach_call hn hdf λw WY W1 mg mb fa o pm cd doc a vs ns G Y ho hd hcd hmg hobj hints hlen hg=>?_
 have KX:=hY w _ Y
 obtain⟨fd,hb,hF⟩:=F w mg fa _ KX G.T.g hmg
 exact dC2 KX G.T.g G.T.b G.T.builtins G.T.nolimit hg hobj hints (zu hlen hn2) hr hF hb (λH hO hS=>hsp w H a ns hlen hO hS) λH e s'=>hCX w H W1 e s'
noncomputable def aB7(s:Stmt):Arguments:=match s with
 | .FunctionDef _ a _ _ _ _ _ _ _ _=>a
 |_=>{posonlyargs:= [],args:= [],vararg:=none,kwonlyargs:= [],kw_defaults:= [],kwarg:=none,defaults:= []}
noncomputable def O4(s:Stmt):List Stmt:=match s with
 | .FunctionDef _ _ b _ _ _ _ _ _ _=>b
 |_=> []
noncomputable def o4(s:Stmt):Scope:=match s with
 | .FunctionDef _ _ _ _ _ _ sc _ _ _=>sc
 |_=>{kind:=.function,names:= [],isGenerator:=false,isCoroutine:=false}
noncomputable abbrev CX0:CXT:=λ_ _ _ _ _ _=>False
noncomputable abbrev E0:XK:=λ_ _ _=>False
theorem dY8:bE0 CX0 X E0:=λ_ _ _ _ _ _ _ h=>h.elim
structure Fun(K:zc)(x qual:Str)(st:Stmt)(f:Addr)(fd:yF):Prop where
 ex:∃(oc:zg) (od:Option Addr) (kV doc pm:zg) (an:Option Addr) (cdv ct:zg) (osl:Array (Option zg)),
  fd=jX x qual (aB7 st) (O4 st) (o4 st) .none kV doc pm an cdv ct/\K.lookup f=some ⟨oc,od,.func fd,osl⟩/\xF K cdv qual=true
 kp:jE K (.ref f)=true
section
variable{P:zC}{w:zN}{K:zc}{mg:Str->Option zg}{base:Heap}
theorem Fun.ok{x qual:Str}{st:Stmt}{f:Addr}{k:Nat}{sp:Sp}(F:Fun K x qual st f fd)(S:O5 N ps (o4 st))(len:∀vs H Q E,sp vs H Q E->vs.length=ps.length)
 (hbody:∀(cdv:zg) (A:zT) (outer:List Env) (s:zm) (H:Hp) (vs:List V) (Q:VK) (E:XK),N8 k (A.deeper (jJ qual (o4 st) s.heap.objs.size f cdv))->sp vs H Q E->
   ∃t,PSs (W7 CX0 P w K mg base N qual (o4 st) f cdv A outer s H E).nox (O4 st) t/\t {nx:=λ_ H'=>Q .non H',rt:=Q} (start N vs) H):X3 P w K mg base CX0 (k+1) f fd ps sp:=by
 obtain⟨oc,od,kV,doc,pm,an,cdv,ct,osl,rfl,lk,hcd⟩:=F.ex
 refine dW0 lk hcd S len λA outer s H vs Q E hr hsp=>?_
 obtain⟨t,h,q⟩:=hbody cdv A outer s H vs Q E hr hsp
 exact⟨t,h.nox,q⟩
theorem Fun.binds{x qual:Str}{st:Stmt}{f:Addr}(F:Fun K x qual st f fd)
 (h:∀(kV doc pm:zg) (an:Option Addr) (cdv ct:zg) (us:List zg),us.length=ps.length->bindArgs (jX x qual (aB7 st) (O4 st) (o4 st) .none kV doc pm an cdv ct) ⟨us, []⟩=pure (ps.zip us)):aO9 K fd ps []:=by
 obtain⟨oc,od,kV,doc,pm,an,cdv,ct,osl,rfl,lk,hcd⟩:=F.ex
 exact .all (h kV doc pm an cdv ct)
theorem bQ2{x qual:Str}{st:Stmt}{f:Addr}{oc:zg}{od an:Option Addr}{kV doc pm cdv ct:zg}(l:K.lookup f=some ⟨oc,od,.func (jX x qual (aB7 st) (O4 st) (o4 st) .none kV doc pm an cdv ct),osl⟩)
 (c:xF K cdv qual=true) (k:jE K (.ref f)=true):Fun K x qual st f (jX x qual (aB7 st) (O4 st) (o4 st) .none kV doc pm an cdv ct):=⟨⟨oc,od,kV,doc,pm,an,cdv,ct,osl,rfl,l,c⟩,k⟩
end
section
end
noncomputable def Same(H H':Hp):Prop:=∀b o,H b=some o->H' b=some o
theorem Same.refl(H:Hp):Same H H:=λ_ _ h=>h
theorem Same.trans(a:Same H H1)(b:Same H1 H2):Same H H2:=λc o h=>b c o (a c o h)
theorem Same.free(e:Same H H')(h:H' l=Option.none):H l=Option.none:=by
 cases q:H l with
 |none=>rfl
 |some o=>
   rw[e l o q]at h
   cases h
theorem Same.seq{K:zc}{H H':Hp}{a:Addr}(e:Same H H')(h:SqL K H a xs):SqL K H' a xs:=by
 rcases h with(h|⟨o,h⟩)|h
 ·exact .inl (.inl (e _ _ h))
 ·exact .inl (.inr ⟨o,e _ _ h⟩)
 ·exact .inr h
section
variable[DecidableEq κ]
noncomputable def aQ4(kvs:List (κ×V))(k:κ):Option V:=(kvs.find? λkv=>decide (kv.1=k)).map (·.2)
noncomputable def aV8(kvs:List (κ×V))(k:κ)(v:V):List (κ×V):=
 if (kvs.any λkv=>decide (kv.1=k))=true then kvs.map (λkv=>if kv.1=k then (kv.1,v)else kv)else kvs++[(k,v)]
noncomputable def dY2(kvs:List (κ×V))(k:κ):List (κ×V):=kvs.filter λkv=>decide (kv.1≠k)
theorem aS5{k:κ}(e:p.1=k):aQ4 (p::r) k=some p.2:=by simp[aQ4,xh,e]
theorem aS3{k:κ}(e:¬p.1=k):aQ4 (p::r) k=aQ4 r k:=by simp[aQ4,xh,e]
theorem bV4(k:κ):∀kvs:List (κ×V),(kvs.any λkv=>decide (kv.1=k))= (aQ4 kvs k).isSome
 |[]=>rfl
 |p::r=>by
   rw[yc]
   by_cases e:p.1=k
   ·simp only[aS5 e,decide_eq_true e,Xy,Option.isSome_some]
   ·rw[aS3 e,decide_eq_false e,Bool.false_or];exact bV4 k r
theorem aW7(kvs:List (κ×V))(k:κ)(v:V):(aV8 kvs k v).length<=kvs.length+1:=by
 unfold aV8
 split
 ·rw[zh];lia
 ·rw[ze,zp,jw];lia
theorem bH2.isSome_eq(r:bH2 o u):o.isSome=u.isSome:=by
 cases o with
 |none=>cases u with
   |none=>rfl
   |some _=>exact(show False from r).elim
 |some _=>cases u with
   |none=>exact(show False from r).elim
   |some _=>rfl
theorem bH2.getD(r:bH2 o u)(rd:u5 d d'):u5 (o.getD d) (u.getD d'):=by
 cases o with
 |none=>cases u with
   |none=>exact rd
   |some _=>exact(show False from r).elim
 |some _=>cases u with
   |none=>exact(show False from r).elim
   |some _=>exact r
theorem KV.val(r:KV kvs vs)(k:κ):bH2 (aQ4 kvs k) (Xs vs k):=by
 unfold KV at r
 induction r with
 |nil=>exact True.intro
 |@cons p q ps qs h t ih=>
   obtain⟨h1,h2⟩:=h
   by_cases e:p.1=k
   · have e':q.1=k:=h1.symm.trans e
     have b:Xs (q::qs) k=some q.2:=by simp[Xs,xh,e']
     rw[aS5 e,b];exact h2
   · have e':¬q.1=k:=λz=>e (h1.trans z)
     have b:Xs (q::qs) k=Xs qs k:=by simp[Xs,xh,e']
     rw[aS3 e,b];exact ih
theorem KV.any(r:KV kvs vs)(k:κ):(kvs.any λkv=>decide (kv.1=k))=vs.any λkv=>decide (kv.1=k):=by
 unfold KV at r
 induction r with
 |nil=>rfl
 |cons h t ih=>rw[yc,yc,ih,h.1]
theorem KV.repl(r:KV kvs vs)(k:κ)(ry:u5 y u):
 KV (kvs.map λkv=>if kv.1=k then (kv.1,y)else kv) (vs.map λkv=>if kv.1=k then (kv.1,u)else kv):=by
 unfold KV at r ⊢
 induction r with
 |nil=>exact .nil
 |@cons p q ps qs h t ih=>
   rw[zA,zA]
   refine .cons ?_ ih
   obtain⟨h1,h2⟩:=h
   by_cases e:p.1=k
   ·rw[if_pos e,if_pos (h1.symm.trans e)];exact⟨h1,ry⟩
   ·rw[if_neg e,if_neg (λz=>e (h1.trans z))];exact⟨h1,h2⟩
theorem KV.put(r:KV kvs vs)(k:κ)(ry:u5 y u):KV (aV8 kvs k y) (stored vs k u):=by
 unfold aV8 stored
 rw[r.any k]
 by_cases e:(vs.any λkv=>decide (kv.1=k))=true
 ·rw[if_pos e,if_pos e];exact r.repl k ry
 ·rw[if_neg e,if_neg e];exact Paired.snoc r ⟨rfl,ry⟩
theorem KV.drop(r:KV kvs vs)(k:κ):KV (dY2 kvs k) (without vs k):=by
 unfold KV at r ⊢
 unfold dY2 without
 induction r with
 |nil=>exact .nil
 |@cons p q ps qs h t ih=>
   obtain⟨h1,h2⟩:=h
   rw[List.filter_cons,List.filter_cons]
   by_cases e:p.1=k
   · have a:¬decide (p.1≠k)=true:=by simp[e]
     have b:¬decide (q.1≠k)=true:=by simp[h1.symm.trans e]
     rw[if_neg a,if_neg b];exact ih
   · have e':¬q.1=k:=λz=>e (h1.trans z)
     have a:decide (p.1≠k)=true:=by simp[e]
     have b:decide (q.1≠k)=true:=by simp[e']
     rw[if_pos a,if_pos b];exact .cons ⟨h1,h2⟩ ih
theorem KV.length(r:KV kvs vs):kvs.length=vs.length:=yD r
end
theorem cH0(r:u5 (kV k) u):(N6 P w).is k u=true:=by
 cases k with
 |inl i=>obtain⟨t,e⟩:=(show ∃t,u=Value.int i t from r);subst e;exact bW2 P w i t
 |inr x=>obtain⟨t,e⟩:=(show ∃t,u=Value.str x t from r);subst e;exact bV2 P w x t
theorem bJ4:∀ {ks} {us},o6 (ks.map kV) us->ItemsAre (N6 P w) ks us
 |[],_,r=>by rw[Xx]at r;cases r;exact .nil
 |k::ks,_,r=>by
   rw[zA]at r
   cases r with
   |cons h t=>exact .cons (cH0 h) (bJ4 t)
abbrev KT(H:Hp):List (List Key×V)->List (List Key×Addr×zg)->Prop:=Paired λp q=>p.1=q.1/\H q.2.1=some (.tup (p.1.map kV))/\u5 p.2 q.2.2
theorem KT.val{H:Hp}(r:KT H kvs xs)(k:List Key):bH2 (aQ4 kvs k) ((Jw xs k).map (·.2)):=by
 induction r with
 |nil=>exact True.intro
 |@cons p q ps qs h t ih=>
   obtain⟨h1,_,h2⟩:=h
   by_cases e:p.1=k
   · have e':q.1=k:=h1.symm.trans e
     have b:Jw (q::qs) k=some q.2:=by simp[Jw,xh,e']
     rw[aS5 e,b];exact h2
   · have e':¬q.1=k:=λz=>e (h1.trans z)
     have b:Jw (q::qs) k=Jw qs k:=by simp[Jw,xh,e']
     rw[aS3 e,b];exact ih
theorem KT.repl(r:KT H kvs xs)(k:List Key)(ry:u5 y u):
 KT H (kvs.map λkv=>if kv.1=k then (kv.1,y)else kv) (xs.map (putAt k u)):=by
 induction r with
 |nil=>exact .nil
 |@cons p q ps qs h t ih=>
   rw[zA,zA]
   refine .cons ?_ ih
   obtain⟨h1,h2,h3⟩:=h
   unfold putAt
   by_cases e:p.1=k
   ·rw[if_pos e,if_pos (h1.symm.trans e)];exact⟨h1,h2,ry⟩
   ·rw[if_neg e,if_neg (λz=>e (h1.trans z))];exact⟨h1,h2,h3⟩
theorem KT.put(r:KT H kvs xs)(k:List Key)(hb:H b=some (.tup (k.map kV)))(ry:u5 y u):
 KT H (aV8 kvs k y) (storedH xs k b u):=by
 have e:(kvs.any λkv=>decide (kv.1=k))= (Jw xs k).isSome:=by
  rw[bV4,(r.val k).isSome_eq,ZN]
 unfold aV8 storedH
 rw[e]
 by_cases q:(Jw xs k).isSome=true
 ·rw[if_pos q,if_pos q];exact r.repl k ry
 ·rw[if_neg q,if_neg q];exact Paired.snoc r ⟨rfl,hb,ry⟩
theorem KT.keeps(r:KT H kvs xs)(ht:∀b ys,H b=some (.tup ys)->H' b=some (.tup ys)):KT H' kvs xs:=
 Paired.mapP r λ_ _ z=>⟨z.1,ht _ _ z.2.1,z.2.2⟩
section
theorem dI3(ok:HOk P w H h)(e:Rd H a u):O7 P w H h a u:=e.ok ok
theorem cL8(ok:HOk P w H h)(e:Rd H a (.dK kvs)):kvs.length<=zd/\(a==yN)=false/\∃vs,KV kvs vs/\h.DictOf (N6 P w) a vs:=
 show O7 P w H h a (.dK kvs)from dI3 ok e
theorem dB5(ok:HOk P w H h)(e:H a=some (.dK kvs)):kvs.length<=zd/\(a==yN)=false/\∃vs,KV kvs vs/\h.DictOf (N6 P w) a vs:=cL8 ok (.inl e)
theorem bO7(ok:HOk P w H h)(e:H a=some (.tup (ks.map kV))):(YR (N6 P w)).is h ks a:=by
 obtain⟨_,its,r,o,h1,h2,n,h3⟩:=(show O7 P w H h a (.tup (ks.map kV))from ok a _ e)
 exact⟨o,its.toArray,n,h1,h2,(Zh h3).1,by simpa using bJ4 r⟩
theorem dC0(ok:HOk P w H h)(e:Rd H a (.dT kvs)):kvs.length<=zd/\(a==yN)=false/\
 ∃xs,KT H kvs xs/\h.DictOfH (YR (N6 P w)) a xs:=by
 obtain⟨z,y,xs,r,o,es,ep,h1,h2,h3,h4,h5⟩:=(show O7 P w H h a (.dT kvs)from dI3 ok e)
 refine⟨z,y,xs,r,o,es,ep,h1,h2,h3,h4,λx hx=>?_,h5⟩
 have all:∀ {l:List (List Key×V)} {m:List (List Key×Addr×zg)},KT H l m->∀x∈m,(YR (N6 P w)).is h x.1 x.2.1:=by
  intro l m q
  induction q with
  |nil=>intro x hx;exact nomatch hx
  |@cons p q ps qs hq t ih=>
    intro x hx
    rcases zi.mp hx with e|hx
    · subst e
      exact bO7 ok (by rw[<-hq.1];exact hq.2.1)
    ·exact ih x hx
 exact all r x hx
theorem eQ7(ok:HOk P w H h)(e:H a=some (.dT kvs)):kvs.length<=zd/\(a==yN)=false/\
 ∃xs,KT H kvs xs/\h.DictOfH (YR (N6 P w)) a xs:=dC0 ok (.inl e)
end
def cR4(H:Hp)(a:Addr)(y:V)(r:Option V):Prop:=
 (∃kvs k,Rd H a (.dK kvs)/\y=kV k/\r=aQ4 kvs k)\/∃kvs k b,Rd H a (.dT kvs)/\y= .ref b/\H b=some (.tup (k.map kV))/\r=aQ4 kvs k
def dT1(H:Hp)(a:Addr)(y v:V)(H':Hp):Prop:=
 (∃kvs k,H a=some (.dK kvs)/\y=kV k/\kvs.length<zd/\H'=upd H a (.dK (aV8 kvs k v)))\/
 ∃kvs k b,H a=some (.dT kvs)/\y= .ref b/\H b=some (.tup (k.map kV))/\kvs.length<zd/\H'=upd H a (.dT (aV8 kvs k v))
theorem cR4.k{k:Key}(e:H a=some (.dK kvs)):cR4 H a (kV k) (aQ4 kvs k):=.inl ⟨kvs,k,.inl e,rfl,rfl⟩
theorem dT1.k{k:Key}(e:H a=some (.dK kvs))(hl:kvs.length<zd):dT1 H a (kV k) v (upd H a (.dK (aV8 kvs k v))):=.inl ⟨kvs,k,e,rfl,hl,rfl⟩
section
theorem Inv.big(I:Inv X pins U H s):yN<s.heap.objs.size:=by
 have h:zS<s.heap.objs.size:=(I.mod.glob.keeps I.bk).lt
 exact Ye (by decide) h
theorem fA8(hu:A.units+1<xz)(I:Inv X pins U H s)(g:cR4 H a y o)(ry:u5 y u)(h:∀s',Inv X pins U H s'->Q (.bool o.isSome) s'):
 zt (zB X.prog X.w) A (zL .In u (.ref a)) Q E s:=by
 rcases g with⟨kvs,k,e,ey,l⟩|⟨kvs,k,b,e,ey,eb,l⟩
 · subst ey
   obtain⟨z,hd,vs,rel,dd⟩:=cL8 I.hok e
   refine wpAny_in_of (cH0 ry) hd dd.mapOf ?_
   rw[<-(rel.val k).isSome_eq,<-l]
   exact h _ (I.tok _)
 · subst ey
   cases (show u=Value.ref b from ry)
   obtain⟨z,hd,xs,rel,dd⟩:=dC0 I.hok e
   refine wpAny_in_heap (Yp hu) (bO7 I.hok eb) hd dd ?_
   have q:=(rel.val k).isSome_eq
   rw[ZN]at q
   rw[<-q,<-l]
   exact h _ (I.tok _)
theorem dL8(hu:A.units+1<xz)(I:Inv X pins U H s)(g:cR4 H a y o)(ry:u5 y u)(h:∀s',Inv X pins U H s'->Q (.bool (!o.isSome)) s'):
 zt (zB X.prog X.w) A (zL .NotIn u (.ref a)) Q E s:=by
 rcases g with⟨kvs,k,e,ey,l⟩|⟨kvs,k,b,e,ey,eb,l⟩
 · subst ey
   obtain⟨z,hd,vs,rel,dd⟩:=cL8 I.hok e
   refine wpAny_notIn_of (cH0 ry) hd dd.mapOf ?_
   rw[<-(rel.val k).isSome_eq,<-l]
   exact h _ (I.tok _)
 · subst ey
   cases (show u=Value.ref b from ry)
   obtain⟨z,hd,xs,rel,dd⟩:=dC0 I.hok e
   refine wpAny_notIn_heap (Yp hu) (bO7 I.hok eb) hd dd ?_
   have q:=(rel.val k).isSome_eq
   rw[ZN]at q
   rw[<-q,<-l]
   exact h _ (I.tok _)
theorem cH4(I:Inv X pins U H s)(mu:Mut (H a))(hs:xp a s.heap h')(he:∃q,h'.get? a=some q)(new:O7 X.prog X.w (upd H a ob) h' a ob):
 Inv X pins U (upd H a ob) {s with heap:=h',toks:=t'}:=
 I.write mu (.inl rfl) (λb q hb z=>(hs.2 b hb).trans z) he new
theorem eM8(z:kvs.length<=zd)(hd:(a==yN)=false)(rel:KV kvs vs)(dd:h'.DictOf (N6 P w) a vs):
 O7 P w H' h' a (.dK kvs):=⟨z,hd,vs,rel,dd⟩
theorem cT0(hu:A.units+1<xz)(I:Inv X pins U H s)(g:dT1 H a y v H')(ry:u5 y u)(rv:u5 v r)(h:∀s',Inv X pins U H' s'->Q () s'):
 zt (zB X.prog X.w) A (setItem (.ref a) u r) Q E s:=by
 rcases g with⟨kvs,k,e,ey,l,eH⟩|⟨kvs,k,b,e,ey,eb,l,eH⟩
 · subst ey eH
   obtain⟨z,hd,vs,rel,dd⟩:=dB5 I.hok e
   have hz:vs.length<=zd:=by rw[<-rel.length];exact z
   have hl:(aV8 kvs k v).length<=zd:=by have:=aW7 kvs k v;lia
   refine wpAny_setItem_pairs (cH0 ry) dd λh' dd' hs=>h _ ?_
   have he:∃q,h'.get? a=some q:=let ⟨q,_,_,hq,_⟩:=dd';⟨q,hq⟩
   exact cH4 I (by rw[e];exact True.intro) hs he (eM8 hl hd (rel.put k rv) dd')
 · subst ey eH
   cases (show u=Value.ref b from ry)
   obtain⟨z,hd,xs,rel,dd⟩:=eQ7 I.hok e
   have hz:xs.length<=zd:=by rw[<-yD rel];exact z
   have hl:(aV8 kvs k v).length<=zd:=by have:=aW7 kvs k v;lia
   refine wpAny_setItem_heap (Yp hu) (bO7 I.hok eb) dd λh' dd' hs=>h _ ?_
   obtain⟨q,es,ep,hq,h2,h3,h4,_,h5⟩:=dd'
   refine cH4 I (by rw[e];exact True.intro) hs ⟨q,hq⟩ ⟨hl,hd,_,(rel.put k eb rv).keeps λc ys ec=>?_,q,es,ep,hq,h2,h3,h4,h5⟩
   rw[o9 (eQ9 ec e (λz=>nomatch z))]
   exact ec
end
section
theorem eW8(I:Inv X pins U H s)(e:Rd H a (.dK kvs))(h:∀t s',Inv X pins U H s'->Q (.int kvs.length t) s'):zt (zB X.prog X.w) A (call (.builtin "len") [.ref a]) Q E s:=by
 obtain⟨z,hd,vs,rel,dd⟩:=cL8 I.hok e
 refine call_len_dict hd dd (by rw[<-rel.length];rw[sizeLine_eq]at z;lia) ?_
 rw[<-rel.length]
 exact h _ _ (I.tok _)
end
section
end
theorem cU3(h:Heap)(hb:yN<h.objs.size):O7 P w H (h.push {cls:=.type "dict",data:=.dict #[]}) h.objs.size (.dK []):=
 ⟨jV _,beq_eq_false_iff_ne.mpr (Ne.symm (zE hb)), [],.nil,Heap.DictOf.new h⟩
def eD4:TE:=λ_ H Q=>∀p,H p=none->Q (.ref p) (upd H p (.dK []))
section
theorem dG9:PE X (.Dict [] [] pos) eD4:=λpins s U H Q I h=>
 wpAny_Dict_empty ⟨.ref s.heap.objs.size,_,I.laid (λ_ _ q=>zf _ q) (zj _) (cU3 s.heap I.big),rfl,h _ (I.hok.fresh (zj _))⟩
end
structure M1(X:Cx)(o:Expr)(m:Str)(apos:Pos)(e:Expr)(cpos:Pos):Prop where
 base:xl o m X.env (eval o X.env)=eval o X.env
 few:((yb cpos (zy [e] X.env)).all (λx=> !x.1)&&(XE cpos (ZQ [] X.env)).all (λx=>x.1.isSome)
  && decide (([e]:List Expr).length+([]:List Keyword).length+(if ([]:List Keyword).isEmpty then 0 else 1)<30))=true
 line:(apos.endLine==cpos.line)=true
 trees:yb cpos (zy [e] X.env)= [(false,eval e X.env)]
structure M2(X:Cx)(o:Expr)(m:Str)(apos:Pos)(e f:Expr)(cpos:Pos):Prop where
 base:xl o m X.env (eval o X.env)=eval o X.env
 few:((yb cpos (zy [e,f] X.env)).all (λx=> !x.1)&&(XE cpos (ZQ [] X.env)).all (λx=>x.1.isSome)
  && decide (([e,f]:List Expr).length+([]:List Keyword).length+(if ([]:List Keyword).isEmpty then 0 else 1)<30))=true
 line:(apos.endLine==cpos.line)=true
 trees:yb cpos (zy [e,f] X.env)= [(false,eval e X.env),(false,eval f X.env)]
section
end
section
end
section
end
section
end
section
theorem cQ9:U7 X (.builtin "len") (λxs H Q=>∃a kvs,xs= [V.ref a]/\H a=some (.dK kvs)/\Q (.int kvs.length) H):=by
 intro pins s U H xs us Q I r h
 obtain⟨a,kvs,rfl,ha,q⟩:=h
 obtain⟨u,rfl,ru⟩:=W5 r
 cases ru
 exact eW8 I (.inl ha) λt s' I'=>⟨.int kvs.length,H,I',⟨t,rfl⟩,q⟩
end
section
variable[DecidableEq κ]
end
end L2
namespace DL
open PySem PySem.Spec L2
open PyProof.Rows hiding St
inductive D where
 |non|bl (b:Bool)|int (i:Int)|str (x:Str)|tup (l:List D)|ref (i:Nat)|fn (x:Str)|ty (n:String)
inductive DO where
 |lst (l:List D)|rol (l:List D)|dct (l:List (Key×D))|rod (l:List (Key×D))
noncomputable abbrev DH:=List DO
abbrev DPP:=D->DH->Prop
noncomputable abbrev DSt:=List (Option D)
structure Wc where
 K:zc
 mg:Str->Option zg
noncomputable abbrev wc(X:Cx):Wc:=⟨X.K,X.mg⟩
mutual
noncomputable def d7(c:Wc)(μ:List Addr)(H:Hp):D->V->Prop
 | .non,v=>v= .non
 | .bl b,v=>v= .bl b
 | .int i,v=>v= .int i
 | .str x,v=>v= .str x
 | .ty n,v=>v= .ty n
 | .fn x,v=>∃a,c.mg x=some (.ref a)/\v= .ref a
 | .ref i,v=>∃a,μ[i]? =some a/\v= .ref a
 | .tup l,v=>∃a vs,v= .ref a/\SqT c.K H a vs/\m6 c μ H l vs
noncomputable def m6(c:Wc)(μ:List Addr)(H:Hp):List D->List V->Prop
 |[],vs=>vs= []
 |d::ds,vs=>∃v r,vs=v::r/\d7 c μ H d v/\m6 c μ H ds r
end
def Z4(c:Wc)(μ:List Addr)(H:Hp):List (Key×D)->List (Key×V)->Prop
 |[],kvs=>kvs= []
 |(k,d)::r,kvs=>∃v t,kvs= (k,v)::t/\d7 c μ H d v/\Z4 c μ H r t
structure Ext(μ:List Addr)(H:Hp)(X2:List Addr)(H':Hp):Prop where
 pre:μ <+:X2
 new:∀a∈X2,a∉μ->H a=none
 oth:∀b o,H b=some o->b∉μ->H' b=some o
 tup:∀b xs,H b=some (.tup xs)->H' b=some (.tup xs)
 frz:∀b o u,H b=some (.frz o u)->H' b=some (.frz o u)
theorem Ext.refl(μ:List Addr)(H:Hp):Ext μ H μ H:=⟨Yn _,λa h n=>absurd h n,λ_ _ h _=>h,λ_ _ h=>h,λ_ _ _ h=>h⟩
theorem Ext.trans(a:Ext μ H X0 H1)(b:Ext X0 H1 WX H2):Ext μ H WX H2 where
 pre:=a.pre.trans b.pre
 new:=λx h n=>by
  by_cases h1:x∈X0
  ·exact a.new x h1 n
  · have e1:=b.new x h h1
    rcases e:H x with _|o
    ·rfl
    ·rw[a.oth x o e n]at e1;exact dR7 e1
 oth:=λx o e n=>by
  refine b.oth x o (a.oth x o e n) λh1=>?_
  have:=a.new x h1 n
  rw[e]at this;exact dR7 this
 tup:=λx xs e=>b.tup x xs (a.tup x xs e)
 frz:=λx o u e=>b.frz x o u (a.frz x o u e)
theorem Ext.lay(h:H p=none)(o:HO):Ext μ H μ (upd H p o):=
 ⟨Yn _,λa h n=>absurd h n,λb o' q _=>by rw[o9 (v5 q h)];exact q,λb xs q=>by rw[o9 (v5 q h)];exact q,λb o' u q=>by rw[o9 (v5 q h)];exact q⟩
theorem Ext.add(h:H p=none)(o:HO):Ext μ H (μ++[p]) (upd H p o):=
 ⟨JJ _ _,λa ha n=>by
  rcases je.mp ha with z|z
  ·exact absurd z n
  ·rw[zM.mp z];exact h,λb o' q _=>by rw[o9 (v5 q h)];exact q,λb xs q=>by rw[o9 (v5 q h)];exact q,λb o' u q=>by rw[o9 (v5 q h)];exact q⟩
theorem Ext.mut(hp:p∈μ)(h:H p=some o')(n1:∀xs,o'≠ .tup xs)(n2:∀o u,o'≠ .frz o u)(o:HO):Ext μ H μ (upd H p o):=
 ⟨Yn _,λa h n=>absurd h n,λb o2 q n=>by rw[o9 (λe=>n (by rw[e];exact hp))];exact q,λb xs q=>by
  rw[o9 (λe=>by subst e;rw[h]at q;cases q;exact n1 _ rfl)];exact q,
  λb oo u q=>by
   rw[o9 (λe=>by subst e;rw[h]at q;cases q;exact n2 _ _ rfl)];exact q⟩
theorem Ext.sqT{K:zc}(k:Ext μ H X2 H')(h:SqT K H a xs):SqT K H' a xs:=by
 rcases h with(h|⟨o,h⟩)|h
 ·exact .inl (.inl (k.tup _ _ h))
 ·exact .inl (.inr ⟨o,k.frz _ _ _ h⟩)
 ·exact .inr h
def RoL(K:zc)(H:Hp)(a:Addr)(xs:List V):Prop:=(∃o,H a=some (.frz o (.lst xs)))\/(SqL K (λ_=>none) a xs)
theorem dK1{K:zc}(h:SqL K (λ_=>none) a xs):SqL K H a xs:=by
 rcases h with(h|⟨o,h⟩)|h
 ·exact t6 h
 ·exact t6 h
 ·exact .inr h
theorem RoL.sq{K:zc}(h:RoL K H a xs):SqL K H a xs:=by
 rcases h with⟨o,h⟩|h
 ·exact .inl (.inr ⟨o,h⟩)
 ·exact dK1 h
theorem Ext.roL{K:zc}(k:Ext μ H X2 H')(h:RoL K H a xs):RoL K H' a xs:=by
 rcases h with⟨o,h⟩|h
 ·exact .inl ⟨o,k.frz _ _ _ h⟩
 ·exact .inr h
section
variable{μ X2:List Addr}
theorem bP7(h:μ <+:X2){i:Nat}(e:μ[i]? =some a):X2[i]? =some a:=by
 obtain⟨t,rfl⟩:=h
 have:i<μ.length:=by
  rcases Zi i μ.length with q|q
  ·exact q
  ·rw[zX q]at e;exact t6 e
 rw[zF this];exact e
mutual
theorem d7.mono(x:Ext μ H X2 H'):∀ {d} {v},d7 c μ H d v->d7 c X2 H' d v
 | .non,_,h=>h
 | .bl _,_,h=>h
 | .int _,_,h=>h
 | .str _,_,h=>h
 | .ty _,_,h=>h
 | .fn _,_,h=>h
 | .ref i,v,h=>by
   unfold d7 at h ⊢
   obtain⟨a,e,r⟩:=h
   exact⟨a,bP7 x.pre e,r⟩
 | .tup l,v,h=>by
   unfold d7 at h ⊢
   obtain⟨a,vs,e,q,r⟩:=h
   exact⟨a,vs,e,x.sqT q,m6.mono x r⟩
theorem m6.mono(x:Ext μ H X2 H'):∀ {l} {vs},m6 c μ H l vs->m6 c X2 H' l vs
 |[],_,h=>h
 |d::ds,vs,h=>by
   unfold m6 at h ⊢
   obtain⟨v,r,e,q,t⟩:=h
   exact⟨v,r,e,d7.mono x q,m6.mono x t⟩
end
theorem Z4.mono(x:Ext μ H X2 H'):∀ {l} {vs},Z4 c μ H l vs->Z4 c X2 H' l vs
 |[],_,h=>h
 |(_,d)::ds,vs,h=>by
  obtain⟨v,r,e,q,t⟩:=h
  exact⟨v,r,e,d7.mono x q,Z4.mono x t⟩
theorem m6.nil:m6 c μ H [] []:=rfl
theorem m6.cons(h:d7 c μ H d v)(t:m6 c μ H ds vs):m6 c μ H (d::ds) (v::vs):=⟨v,vs,rfl,h,t⟩
theorem m6.length:∀ {l} {vs},m6 c μ H l vs->l.length=vs.length
 |[],_,h=>by cases h;rfl
 |_::_,_,h=>by obtain⟨v,r,rfl,_,t⟩:=h;simp[m6.length t]
theorem m6.get:∀ {l} {vs} {i:Nat} {d},m6 c μ H l vs->l[i]? =some d->∃v,vs[i]? =some v/\d7 c μ H d v
 |[],_,_,_,_,e=>by simp at e
 |_::_,_,0,_,h,e=>by
   obtain⟨v,r,rfl,q,t⟩:=h
   simp at e;subst e
   exact⟨v,rfl,q⟩
 |_::_,_,i+1,_,h,e=>by
   obtain⟨v,r,rfl,q,t⟩:=h
   simp at e
   obtain⟨w,h1,h2⟩:=m6.get t e
   exact⟨w,by simpa using h1,h2⟩
theorem m6.append:∀ {l l'} {vs vs'},m6 c μ H l vs->m6 c μ H l' vs'->m6 c μ H (l++l') (vs++vs')
 |[],_,_,_,h,t=>by cases h;exact t
 |_::_,_,_,_,h,t=>by
   obtain⟨v,r,rfl,q,u⟩:=h
   exact⟨v,r++_,rfl,q,m6.append u t⟩
theorem m6.take:∀n {l} {vs},m6 c μ H l vs->m6 c μ H (l.take n) (vs.take n)
 |0,_,_,_=>rfl
 |_+1, [],_,h=>by cases h;rfl
 |n+1,_::_,_,h=>by
   obtain⟨v,r,rfl,q,u⟩:=h
   exact⟨v,r.take n,rfl,q,m6.take n u⟩
theorem m6.drop:∀n {l} {vs},m6 c μ H l vs->m6 c μ H (l.drop n) (vs.drop n)
 |0,_,_,h=>h
 |_+1, [],_,h=>by cases h;rfl
 |n+1,_::_,_,h=>by
   obtain⟨v,r,rfl,q,u⟩:=h
   exact m6.drop n u
theorem m6.set(hv:d7 c μ H d v):∀n {l} {vs},m6 c μ H l vs->m6 c μ H (l.set n d) (vs.set n v)
 |_, [],_,h=>by cases h;rfl
 |0,_::_,_,h=>by
   obtain⟨w,r,rfl,q,u⟩:=h
   exact⟨v,r,rfl,hv,u⟩
 |n+1,_::_,_,h=>by
   obtain⟨w,r,rfl,q,u⟩:=h
   exact⟨w,r.set n v,rfl,q,m6.set hv n u⟩
theorem m6.reverse:∀ {l} {vs},m6 c μ H l vs->m6 c μ H l.reverse vs.reverse
 |[],_,h=>by cases h;rfl
 |_::_,_,h=>by
   obtain⟨w,r,rfl,q,u⟩:=h
   simp only[yP]
   exact m6.append (m6.reverse u) ⟨w, [],rfl,q,rfl⟩
theorem m6.dropLast(h:m6 c μ H l vs):m6 c μ H l.dropLast vs.dropLast:=by
 rw[XR,XR,h.length]
 exact h.take _
noncomputable def aH7:Option DO->Prop
 |some (.rol _)=>True
 |some (.rod _)=>True
 |_=>False
def aE3(c:Wc)(μ:List Addr)(H:Hp)(a:Addr):DO->Prop
 | .lst l=>∃vs,H a=some (.lst vs)/\m6 c μ H l vs
 | .rol l=>∃vs,RoL c.K H a vs/\m6 c μ H l vs
 | .dct l=>∃kvs,H a=some (.dK kvs)/\Z4 c μ H l kvs
 | .rod l=>∃kvs o,H a=some (.frz o (.dK kvs))/\Z4 c μ H l kvs
structure o5(c:Wc)(μ:List Addr)(G:DH)(H:Hp):Prop where
 len:μ.length=G.length
 inj:∀(i j:Nat) (a:Addr),μ[i]? =some a->μ[j]? =some a->i=j\/aH7 G[i]? \/aH7 G[j]?
 obj:∀(i:Nat) (o:DO) (a:Addr),G[i]? =some o->μ[i]? =some a->aE3 c μ H a o
theorem lt_of_get{α:Type}{l:List α}{x:α}(e:l[i]? =some x):i<l.length:=by
 rcases Zi i l.length with q|q
 ·exact q
 ·rw[zX q]at e;exact t6 e
theorem o5.at(h:o5 c μ G H){i:Nat}(e:G[i]? =some o):∃a,μ[i]? =some a/\aE3 c μ H a o:=by
 have q:i<μ.length:=by rw[h.len];exact lt_of_get e
 exact⟨μ[i],zv q,h.obj i o _ e (zv q)⟩
theorem aE3.mono(x:Ext μ H X2 H')(h:aE3 c μ H a o)(e:H' a=H a\/aH7 (some o)):aE3 c X2 H' a o:=by
 rcases o with l|l|l|l
 ·
   obtain⟨vs,q,r⟩:=h
   rcases e with e|e
   ·exact⟨vs,e.trans q,r.mono x⟩
   ·exact e.elim
 ·obtain⟨vs,q,r⟩:=h;exact⟨vs,x.roL q,r.mono x⟩
 ·
   obtain⟨vs,q,r⟩:=h
   rcases e with e|e
   ·exact⟨vs,e.trans q,r.mono x⟩
   ·exact e.elim
 ·obtain⟨vs,o,q,r⟩:=h;exact⟨vs,o,x.frz _ _ _ q,r.mono x⟩
theorem aE3.some_of(h:aE3 c μ H a o)(n:¬aH7 (some o)):∃u,H a=some u/\(∀xs,u≠ .tup xs)/\∀o' u',u≠ .frz o' u':=by
 rcases o with l|l|l|l
 ·obtain⟨vs,q,_⟩:=h;exact⟨_,q,(λ_ z=>nomatch z),(λ_ _ z=>nomatch z)⟩
 ·exact(n trivial).elim
 ·obtain⟨vs,q,_⟩:=h;exact⟨_,q,(λ_ z=>nomatch z),(λ_ _ z=>nomatch z)⟩
 ·exact(n trivial).elim
theorem o5.same(h:o5 c μ G H)(k:Ext μ H μ H')(e:∀a o,H a=some o->(∀xs,o≠ .tup xs)->H' a=some o):o5 c μ G H':=
 ⟨h.len,h.inj,λi o a g m=>by
  have q:=h.obj i o a g m
  by_cases hr:aH7 (some o)
  ·exact q.mono k (.inr hr)
  · obtain⟨u,e1,n1,n2⟩:=q.some_of hr
    exact q.mono k (.inl ((e a u e1 n1).trans e1.symm))⟩
theorem o5.new{p:Addr}(h:o5 c μ G H)(hp:H p=none)(ho:aE3 c (μ++[p]) (upd H p u) p o):o5 c (μ++[p]) (G++[o]) (upd H p u):=by
 have k:Ext μ H (μ++[p]) (upd H p u):=Ext.add hp u
 have old:∀(i:Nat) (a:Addr),i<μ.length->(μ++[p])[i]? =some a->μ[i]? =some a:=λi a hi e=>by
  rw[zF hi]at e;exact e
 refine⟨by simp[h.len],λi j a ei ej=>?_,λi o' a g m=>?_⟩
 · have li:=lt_of_get ei
   have lj:=lt_of_get ej
   simp only[ze,xx]at li lj
   by_cases hi:i<μ.length
   · have mi:=old i a hi ei
     have gi:(G++[o])[i]? =G[i]? :=zF (by rw[<-h.len];exact hi)
     by_cases hj:j<μ.length
     · have mj:=old j a hj ej
       have gj:(G++[o])[j]? =G[j]? :=zF (by rw[<-h.len];exact hj)
       rw[gi,gj]
       exact h.inj i j a mi mj
     · -- j is the new one:a=p
       have ej':j=μ.length:=by lia
       subst ej'
       have ea:a=p:=by simpa using ej.symm
       subst ea
       right;left
       rw[gi]
       have hg:i<G.length:=by rw[<-h.len];exact hi
       have q:=h.obj i G[i] a (zv hg) mi
       rw[zv hg]
       refine yQ λn=>?_
       obtain⟨u',e1,_⟩:=q.some_of n
       rw[hp]at e1;exact t6 e1
   · have ei':i=μ.length:=by lia
     by_cases hj:j<μ.length
     · have mj:=old j a hj ej
       have gj:(G++[o])[j]? =G[j]? :=zF (by rw[<-h.len];exact hj)
       subst ei'
       have ea:a=p:=by simpa using ei.symm
       subst ea
       right;right
       rw[gj]
       have hg:j<G.length:=by rw[<-h.len];exact hj
       have q:=h.obj j G[j] a (zv hg) mj
       rw[zv hg]
       refine yQ λn=>?_
       obtain⟨u',e1,_⟩:=q.some_of n
       rw[hp]at e1;exact t6 e1
     ·left;lia
 · have li:=lt_of_get m
   simp only[ze,xx]at li
   by_cases hi:i<μ.length
   · have mi:=old i a hi m
     rw[zF (by rw[<-h.len];exact hi)]at g
     have q:=h.obj i o' a g mi
     by_cases hr:aH7 (some o')
     ·exact q.mono k (.inr hr)
     · obtain⟨u',e1,_⟩:=q.some_of hr
       exact q.mono k (.inl (o9 (v5 e1 hp)))
   · have ei':i=μ.length:=by lia
     subst ei'
     have ea:a=p:=by simpa using m.symm
     subst ea
     rw[h.len]at g
     have eo:o'=o:=by simpa using g.symm
     subst eo
     exact ho
theorem o5.set{o o':DO}{u:HO}(h:o5 c μ G H)(g:G[i]? =some o)(n:¬aH7 (some o))(m:μ[i]? =some a)(k:Ext μ H μ (upd H a u))(n':¬aH7 (some o'))(ho:aE3 c μ (upd H a u) a o'):o5 c μ (G.set i o') (upd H a u):=by
 have hi:i<G.length:=lt_of_get g
 have get:∀j,(G.set i o')[j]? =if i=j then some o' else G[j]? :=λj=>by
  rw[Ya]
  by_cases e:i=j
  ·subst e;simp[hi]
  ·simp[e]
 refine⟨by simp[h.len],λj l b ej el=>?_,λj o2 b gj mj=>?_⟩
 · rcases h.inj j l b ej el with e|e|e
   ·exact .inl e
   · by_cases ij:i=j
     ·subst ij;rw[g]at e;exact(n e).elim
     ·right;left;rw[get,if_neg ij];exact e
   · by_cases ij:i=l
     ·subst ij;rw[g]at e;exact(n e).elim
     ·right;right;rw[get,if_neg ij];exact e
 · rw[get]at gj
   by_cases ij:i=j
   · subst ij
     rw[if_pos rfl]at gj
     cases gj
     rw[m]at mj
     cases mj
     exact ho
   · rw[if_neg ij]at gj
     have q:=h.obj j o2 b gj mj
     by_cases hr:aH7 (some o2)
     ·exact q.mono k (.inr hr)
     · have nb:b≠a:=λe=>by
        subst e
        rcases h.inj i j b m mj with e|e|e
        ·exact ij e
        ·rw[g]at e;exact n e
        ·rw[gj]at e;exact hr e
       exact q.mono k (.inl (o9 nb))
def G9(c:Wc)(μ:List Addr)(H:Hp)(X9:DSt)(U:St):Prop:=X9.length=U.length/\∀(i:Nat) (d:D),X9[i]? =some (some d)->∃v,U[i]? =some (some v)/\d7 c μ H d v
theorem G9.mono(x:Ext μ H X2 H')(h:G9 c μ H X9 U):G9 c X2 H' X9 U:=
 ⟨h.1,λi d e=>let ⟨v,a,b⟩:=h.2 i d e;⟨v,a,b.mono x⟩⟩
theorem G9.put(h:G9 c μ H X9 U)(r:d7 c μ H d v)(i:Nat):G9 c μ H (X9.set i (some d)) (U.set i (some v)):=by
 refine⟨by simp[h.1],λj d' e=>?_⟩
 rw[Ya]at e ⊢
 by_cases ij:i=j
 · subst ij
   rw[if_pos rfl]at e ⊢
   rw[<-h.1]
   split at e
   · rename_i hl
     rw[if_pos hl]
     cases e
     exact⟨v,rfl,r⟩
   ·exact t6 e
 · rw[if_neg ij]at e ⊢
   exact h.2 j d' e
end
noncomputable def M(α:Type):=DH->Option (Except Str α×DH)
namespace M
noncomputable def pure{α:Type}(a:α):M α:=λG=>some (.ok a,G)
noncomputable def bind{α β:Type}(m:M α)(f:α->M β):M β:=λG=>match m G with
 |none=>none
 |some (.ok a,G1)=>f a G1
 |some (.error x,G1)=>some (.error x,G1)
noncomputable def stuck{α:Type}:M α:=λ_=>none
end M
noncomputable instance:Monad M:={pure:=M.pure,bind:=M.bind}
theorem M.bind_eq(m:M α)(f:α->M β)(G:DH):(m >>= f) G=match m G with
 |none=>none
 |some (.ok a,G1)=>f a G1
 |some (.error x,G1)=>some (.error x,G1):=rfl
theorem M.bind_ok{f:α->M β}(h:m G=some (.ok a,G1)):(m >>= f) G=f a G1:=by rw[M.bind_eq,h]
theorem M.bind_assoc(m:M α)(f:α->M β)(g:β->M γ):((m >>= f) >>= g)= (m >>= λa=>f a >>= g):=by
 funext G
 simp only[M.bind_eq]
 rcases m G with _|p
 ·rfl
 ·obtain⟨r,G1⟩:=p;cases r<;>rfl
noncomputable abbrev XC:=Str->List Addr->DH->Hp->Prop
noncomputable def ZF:XC:=λ_ _ _ _=>False
noncomputable def c7{α:Type}(c:Wc)(Z:XC)(μ:List Addr)(H:Hp)(r:Option (Except Str α×DH))(K:α->List Addr->DH->Hp->Prop):Prop:=
 match r with
 |none=>False
 |some (.ok a,G')=>∀ X2 H',Ext μ H X2 H'->o5 c X2 G' H'->K a X2 G' H'
 |some (.error x,G')=>∀ X2 H',Ext μ H X2 H'->o5 c X2 G' H'->Z x X2 G' H'
section
theorem c7.mono{K K':α->List Addr->DH->Hp->Prop}(h:c7 c Z μ H r K)
 (k:∀a X2 G' H',Ext μ H X2 H'->o5 c X2 G' H'->K a X2 G' H'->K' a X2 G' H'):c7 c Z μ H r K':=by
 match r,h with
 |some (.ok a,G'),h=>exact λX2 H' p e=>k a X2 G' H' p e (h X2 H' p e)
 |some (.error x,G'),h=>exact h
theorem c7.from{K:α->List Addr->DH->Hp->Prop}(h:c7 c Z μ H r K)(p:Ext μ H X2 H'):c7 c Z X2 H' r K:=by
 match r,h with
 |some (.ok a,G'),h=>exact λWX H2 p2 e=>h WX H2 (p.trans p2) e
 |some (.error x,G'),h=>exact λWX H2 p2 e=>h WX H2 (p.trans p2) e
theorem c7.bind{m:M α}{K:β->List Addr->DH->Hp->Prop}(h:c7 c Z μ H ((m >>= f) G) K):
 c7 c Z μ H (m G) (λa X2 G' H'=>c7 c Z X2 H' (f a G') K):=by
 rw[M.bind_eq]at h
 match m G,h with
 |some (.ok a,G'),h=>exact λX2 H' p e=>c7.from h p
 |some (.error x,G'),h=>exact h
theorem c7.ok{K:α->List Addr->DH->Hp->Prop}(h:c7 c Z μ H (some (.ok a,G)) K)(e:o5 c μ G H):K a μ G H:=h μ H (Ext.refl _ _) e
end
inductive Fl where
 |nx (U:DSt)|rt (d:D)|bk (U:DSt)|ct (U:DSt)
section
variable(c:Wc)(Z:XC)
def aD5(f:DSt->M D):TE:=λU H Q=>∃X9 μ G,G9 c μ H X9 U/\o5 c μ G H/\c7 c Z μ H (f X9 G) λd X2 _ H'=>∀v,d7 c X2 H' d v->Q v H'
def bB5(f:DSt->M Bool):TT:=λU H Q=>∃X9 μ G,G9 c μ H X9 U/\o5 c μ G H/\c7 c Z μ H (f X9 G) λb X2 _ H'=>Q b H'
def bY0(f:DSt->M (List D)):TA:=λU H Q=>∃X9 μ G,G9 c μ H X9 U/\o5 c μ G H/\c7 c Z μ H (f X9 G) λds X2 _ H'=>∀vs,m6 c X2 H' ds vs->Q vs H'
def aY0(E:bP4)(fl:Fl)(μ:List Addr)(H:Hp):Prop:=match fl with
 | .nx X9=>∀ U,G9 c μ H X9 U->E.nx U H
 | .rt d=>∀v,d7 c μ H d v->E.rt v H
 | .bk X9=>∀ U,G9 c μ H X9 U->E.bk U H
 | .ct X9=>∀ U,G9 c μ H X9 U->E.ct U H
def aY1(f:DSt->M Fl):TS:=λE U H=>∃X9 μ G,G9 c μ H X9 U/\o5 c μ G H/\c7 c Z μ H (f X9 G) λfl X2 _ H'=>aY0 c E fl X2 H'
end
theorem aD5.elim{P:Prop}{H:Hp}{Q:VK}(h:aD5 c Z f U H Q)(k:∀X9 μ G,G9 c μ H X9 U->o5 c μ G H->c7 c Z μ H (f X9 G) (λd X2 _ H'=>∀v,d7 c X2 H' d v->Q v H')->P):P:=by
 obtain⟨e0,e1,e2,e3,e4,e5⟩:=h
 exact k e0 e1 e2 e3 e4 e5
theorem bB5.elim{P:Prop}{U:St}{H:Hp}(h:bB5 c Z f U H Q)(k:∀X9 μ G,G9 c μ H X9 U->o5 c μ G H->c7 c Z μ H (f X9 G) (λb X2 _ H'=>Q b H')->P):P:=by
 obtain⟨e0,e1,e2,e3,e4,e5⟩:=h
 exact k e0 e1 e2 e3 e4 e5
theorem bY0.elim{P:Prop}{U:St}{H:Hp}(h:bY0 c Z f U H Q)(k:∀X9 μ G,G9 c μ H X9 U->o5 c μ G H->c7 c Z μ H (f X9 G) (λds X2 _ H'=>∀vs,m6 c X2 H' ds vs->Q vs H')->P):P:=by
 obtain⟨e0,e1,e2,e3,e4,e5⟩:=h
 exact k e0 e1 e2 e3 e4 e5
theorem aY1.elim{P:Prop}{U:St}{H:Hp}(h:aY1 c Z f E U H)(k:∀X9 μ G,G9 c μ H X9 U->o5 c μ G H->c7 c Z μ H (f X9 G) (λfl X2 _ H'=>aY0 c E fl X2 H')->P):P:=by
 obtain⟨e0,e1,e2,e3,e4,e5⟩:=h
 exact k e0 e1 e2 e3 e4 e5
structure DE(X:Cx)(Z:XC)(e:Expr)(f:DSt->M D):Prop where
 h:PE X e (aD5 (wc X) Z f)
structure DT(X:Cx)(Z:XC)(e:Expr)(f:DSt->M Bool):Prop where
 h:PT X e (bB5 (wc X) Z f)
structure DA(X:Cx)(Z:XC)(e:List Expr)(f:DSt->M (List D)):Prop where
 h:PA X e (bY0 (wc X) Z f)
structure DS(X:Cx)(Z:XC)(e:Stmt)(f:DSt->M Fl):Prop where
 h:PS X e (aY1 (wc X) Z f)
structure DB(X:Cx)(Z:XC)(e:List Stmt)(f:DSt->M Fl):Prop where
 h:PSs X e (aY1 (wc X) Z f)
theorem PE.mono(h:PE X e t)(k:∀ U H Q,t' U H Q->t U H Q):PE X e t':=λpins s U H Q I q=>h pins s U H Q I (k U H Q q)
theorem PT.mono(h:PT X e t)(k:∀ U H Q,t' U H Q->t U H Q):PT X e t':=λpins s U H Q I q=>h pins s U H Q I (k U H Q q)
theorem PW.mono(h:PW X e t)(k:∀ U H Q,t' U H Q->t U H Q):PW X e t':=λwh pins s U H Q I q=>h wh pins s U H Q I (k U H Q q)
theorem PA.mono(h:PA X e t)(k:∀ U H Q,t' U H Q->t U H Q):PA X e t':=λpos pins s U H Q I q=>h pos pins s U H Q I (k U H Q q)
theorem PS.mono(h:PS X e t)(k:∀E U H,t' E U H->t E U H):PS X e t':=λpins s U H E I q=>h pins s U H E I (k E U H q)
theorem PSs.mono(h:PSs X e t)(k:∀E U H,t' E U H->t E U H):PSs X e t':=λpins s U H E I q=>h pins s U H E I (k E U H q)
theorem DE.of(h:PE X e t)(k:∀ U H Q,aD5 (wc X) Z f U H Q->t U H Q):DE X Z e f:=⟨PE.mono h k⟩
theorem DT.of(h:PT X e t)(k:∀ U H Q,bB5 (wc X) Z f U H Q->t U H Q):DT X Z e f:=⟨PT.mono h k⟩
theorem DA.of(h:PA X e t)(k:∀ U H Q,bY0 (wc X) Z f U H Q->t U H Q):DA X Z e f:=⟨PA.mono h k⟩
theorem DS.of(h:PS X e t)(k:∀E U H,aY1 (wc X) Z f E U H->t E U H):DS X Z e f:=⟨PS.mono h k⟩
theorem DB.of(h:PSs X e t)(k:∀E U H,aY1 (wc X) Z f E U H->t E U H):DB X Z e f:=⟨PSs.mono h k⟩
end DL
namespace DL
open PySem PySem.Spec L2
open PyProof.Rows hiding St
noncomputable def K7:Expr->Bool
 | .Starred ..=>false
 |_=>true
theorem q13(h:K7 e=true):zy (e::es) env= (false,eval e env)::zy es env:=by
 cases e<;>first
  |rfl
  |exact bL8 h
theorem aH8(h:K7 e=true):zy [e] env= [(false,eval e env)]:=q13 h
theorem dH5(h:K7 a=true)(h':K7 b=true):zy [a,b] env= [(false,eval a env),(false,eval b env)]:=by rw[q13 h,aH8 h']
abbrev Fe:=DSt->M D
noncomputable def aD8(i:Nat):Fe:=λU G=>match U[i]? with
 |some (some d)=>some (.ok d,G)
 |_=>none
def cE(d:D):Fe:=λ_=>pure d
noncomputable def binE(o:D->D->M D)(a b:Fe):Fe:=λU=>do o (<-a U) (<-b U)
noncomputable def unE(o:D->M D)(a:Fe):Fe:=λU=>do o (<-a U)
def q11:DSt->M (List D):=λ_=>pure []
def q10(a:Fe)(r:DSt->M (List D)):DSt->M (List D):=λU=>do
 let x <-a U
 let xs <-r U
 pure (x::xs)
noncomputable def q12(F:List D->M D)(a:DSt->M (List D)):Fe:=λU=>do F (<-a U)
def dC6:D->M Bool
 | .bl b=>pure b
 |_=>M.stuck
def eU4(a:Fe):Fe:=λU=>do pure (.bl (!(<-dC6 (<-a U))))
noncomputable def ifE(t:DSt->M Bool)(a b:Fe):Fe:=λU=>do if <-t U then a U else b U
section
variable(c:Wc)(Z:XC)
def aM1(o:D->D->M D):R2:=λx y H Q=>∃dx dy μ G,d7 c μ H dx x/\d7 c μ H dy y/\o5 c μ G H/\c7 c Z μ H (o dx dy G) λd X2 _ H'=>∀v,d7 c X2 H' d v->Q v H'
def bG1(o:D->M D):V->Hp->VK->Prop:=λx H Q=>∃dx μ G,d7 c μ H dx x/\o5 c μ G H/\c7 c Z μ H (o dx G) λd X2 _ H'=>∀v,d7 c X2 H' d v->Q v H'
def bC0(F:List D->M D):List V->Hp->VK->Prop:=λxs H Q=>∃ds μ G,m6 c μ H ds xs/\o5 c μ G H/\c7 c Z μ H (F ds G) λd X2 _ H'=>∀v,d7 c X2 H' d v->Q v H'
end
theorem aM1.elim{P:Prop}{x:V}{y:V}{Q:VK}(h:aM1 c Z o x y H Q)(k:∀dx dy μ G,d7 c μ H dx x->d7 c μ H dy y->o5 c μ G H->c7 c Z μ H (o dx dy G) (λd X2 _ H'=>∀v,d7 c X2 H' d v->Q v H')->P):P:=by
 obtain⟨e0,e1,e2,e3,e4,e5,e6,e7⟩:=h
 exact k e0 e1 e2 e3 e4 e5 e6 e7
theorem bG1.elim{P:Prop}{x:V}{Q:VK}(h:bG1 c Z o x H Q)(k:∀dx μ G,d7 c μ H dx x->o5 c μ G H->c7 c Z μ H (o dx G) (λd X2 _ H'=>∀v,d7 c X2 H' d v->Q v H')->P):P:=by
 obtain⟨e0,e1,e2,e3,e4,e5⟩:=h
 exact k e0 e1 e2 e3 e4 e5
theorem bC0.elim{P:Prop}{H:Hp}{Q:VK}(h:bC0 c Z F xs H Q)(k:∀ds μ G,m6 c μ H ds xs->o5 c μ G H->c7 c Z μ H (F ds G) (λd X2 _ H'=>∀v,d7 c X2 H' d v->Q v H')->P):P:=by
 obtain⟨e0,e1,e2,e3,e4,e5⟩:=h
 exact k e0 e1 e2 e3 e4 e5
structure OpD(X:Cx)(Z:XC)(f:zg->zg->Sem zg)(o:D->D->M D):Prop where
 h:OpR X f (aM1 (wc X) Z o)
structure UnD(X:Cx)(Z:XC)(f:zg->Sem zg)(o:D->M D):Prop where
 h:UnR X f (bG1 (wc X) Z o)
structure R6(X:Cx)(Z:XC)(f:zg)(F:List D->M D):Prop where
 h:U7 X f (bC0 (wc X) Z F)
theorem OpR.mono(h:OpR X f r)(k:∀x y H Q,r' x y H Q->r x y H Q):OpR X f r':=λpins s U H x y v u Q I rx ry q=>h pins s U H x y v u Q I rx ry (k x y H Q q)
theorem U7.mono(h:U7 X f r)(k:∀xs H Q,r' xs H Q->r xs H Q):U7 X f r':=λpins s U H xs us Q I rx q=>h pins s U H xs us Q I rx (k xs H Q q)
theorem OpD.of(h:OpR X f r)(k:∀x y H Q,aM1 (wc X) Z o x y H Q->r x y H Q):OpD X Z f o:=⟨OpR.mono h k⟩
theorem R6.of(h:U7 X f r)(k:∀xs H Q,bC0 (wc X) Z F xs H Q->r xs H Q):R6 X Z f F:=⟨U7.mono h k⟩
section
variable{X:Cx}{Z:XC}{a b c e:Expr}{pos:Pos}
theorem aR8(U:St)(H:Hp)(Q:VK)(h:aD5 cc Z (binE o fa fb) U H Q):tOp (aM1 cc Z o) (aD5 cc Z fa) (aD5 cc Z fb) U H Q:=by
 obtain⟨X9,μ,G,s,h,p⟩:=h
 exact⟨X9,μ,G,s,h,(c7.bind p).mono λx X0 G1 H1 x' h1 p1 v rv=>⟨X9,X0,G1,s.mono x',h1,(c7.bind p1).mono λy WX G2 H2 x2 h2 p2 u ru=>⟨x,y,WX,G2,rv.mono x2,ru,h2,p2⟩⟩⟩
theorem eG1(h:PE X e (dL0 i)):DE X Z e (aD8 i):=DE.of h λU H Q hE0=>hE0.elim λX9 μ G s h p=>by
 delta aD8 at p
 rcases he:X9[i]? with _|_|d
 ·rw[he]at p;exact p.elim
 ·rw[he]at p;exact p.elim
 · rw[he]at p
   obtain⟨v,e1,r⟩:=s.2 i d he
   exact⟨v,e1,c7.ok p h v r⟩
theorem dM1(h:PE X e (tC v))(r:∀ μ H,d7 (wc X) μ H d v):DE X Z e (cE d):=DE.of h λU H Q hE0=>hE0.elim λX9 μ G s h p=>c7.ok p h v (r _ _)
theorem q17{i j pos}:DE X Z (.Constant (.int i) j pos) (cE (.int i)):=dM1 cC7 λ_ _=>by unfold d7;rfl
theorem eP8{i j pos}:DE X Z (.Constant (.bool i) j pos) (cE (.bl i)):=dM1 eV8 λ_ _=>by unfold d7;rfl
theorem eM5{i j pos}:DE X Z (.Constant (.str i) j pos) (cE (.str i)):=dM1 dZ8 λ_ _=>by unfold d7;rfl
theorem fD0(i:Nat)(hN:X.N[i]? =some x)(hv:Vis X.env.scope x)(hd:(x==("__debug__" :Str))=false)
 (hcd:(x==("__classdict__" :Str))=false):DE X Z (.Name x pos) (aD8 i):=eG1 (cE6 hN hv hd hcd)
theorem eO3(ho:OpD X Z (jL op) o)(ha:DE X Z a fa)(hb:DE X Z b fb):DE X Z (.BinOp a op b pos) (binE o fa fb):=
 DE.of (cW9 ho.h ha.h hb.h) aR8
theorem eA2(ho:OpD X Z (zL op) o)(ha:DE X Z a fa)(hb:DE X Z b fb)(hm:Yi op b=false):DE X Z (.Compare a [op] [b] pos) (binE o fa fb):=
 DE.of (dO7 ho.h ha.h hb.h hm) aR8
theorem eP9(ho:UnD X Z (unaryOp op) o)(ha:DE X Z a fa):DE X Z (.UnaryOp op a pos) (unE o fa):=
 DE.of (dX6 ho.h ha.h) λU H Q hE0=>hE0.elim λX9 μ G s h p=>⟨X9,μ,G,s,h,(c7.bind p).mono λx X0 G1 H1 x' h1 p1 v rv=>⟨x,X0,G1,rv,h1,p1⟩⟩
theorem aV3{H:Hp}{d:D}{f:Bool->M α}{G:DH}{K:α->List Addr->DH->Hp->Prop}(p:c7 cc Z μ H ((dC6 d >>= f) G) K):∃k,d= .bl k/\c7 cc Z μ H (f k G) K:=by
 cases d with
 |bl k=>exact⟨k,rfl,p⟩
 |_=>exact p.elim
theorem eC4{op}(h:DE X Z a f):DE X Z (.BoolOp op [a] pos) f:=⟨eF0 h.h⟩
theorem eN2(ha:DE X Z a fa):DE X Z (.UnaryOp .Not a pos) (eU4 fa):=
 DE.of (eL5 ha.h) λU H Q hE0=>hE0.elim λX9 μ G s h p=>⟨X9,μ,G,s,h,(c7.bind p).mono λx X0 G1 H1 x' h1 p1 v rv=>by
  obtain⟨k',rfl,p2⟩:=aV3 p1
  unfold d7 at rv
  exact⟨k',rv,c7.ok p2 h1 _ (by unfold d7;rfl)⟩⟩
def bE4(f:Fe):DSt->M Bool:=λU=>do dC6 (<-f U)
def aQ2(a b:DSt->M Bool):DSt->M Bool:=λU=>do if <-a U then b U else pure false
def orT(a b:DSt->M Bool):DSt->M Bool:=λU=>do if <-a U then pure true else b U
def bM7(a:DSt->M Bool):DSt->M Bool:=λU=>do pure (!(<-a U))
structure DW(X:Cx)(Z:XC)(e:Expr)(f:DSt->M Bool):Prop where
 h:PW X e (bB5 (wc X) Z f)
theorem DW.of(h:PW X e t)(k:∀ U H Q,bB5 (wc X) Z f U H Q->t U H Q):DW X Z e f:=⟨PW.mono h k⟩
variable{ta tb:DSt->M Bool}{j9:List Expr}
theorem DW.dt(h:DW X Z a ta):DT X Z a ta:=⟨λpins s U H Q I q=>h.h _ pins s U H Q I q⟩
theorem eG7(ho:OpD X Z (zL op) o)(ha:DE X Z a fa)(hb:DE X Z b fb)(hm:Yi op b=false):DT X Z (.Compare a [op] [b] pos) (bE4 (binE o fa fb)):=
 DT.of (dN9 ho.h ha.h hb.h hm) λU H Q hE0=>hE0.elim λX9 μ G s h p=>aR8 U H _ ⟨X9,μ,G,s,h,(c7.bind p).mono λx X0 G1 H1 x' h1 p1 v rv=>by
  cases x with
  |bl k'=>unfold d7 at rv;exact⟨k',rv,c7.ok p1 h1⟩
  |_=>exact p1.elim⟩
theorem dL2(ha:DT X Z a ta):DW X Z (.BoolOp .And [a] pos) ta:=⟨dR4 ha.h⟩
theorem eG6(ha:DT X Z a ta):DW X Z (.BoolOp .Or [a] pos) ta:=⟨eA6 ha.h⟩
theorem eE8(ha:DT X Z a ta)(hb:DW X Z (.BoolOp .And (b::j9) pos) tb):DW X Z (.BoolOp .And (a::b::j9) pos) (aQ2 ta tb):=
 DW.of (eF7 ha.h hb.h) λU H Q hE0=>hE0.elim λX9 μ G s h p=>⟨X9,μ,G,s,h,(c7.bind p).mono λx X0 G1 H1 x' h1 p1=>by
  cases x with
  |true=>exact⟨X9,X0,G1,s.mono x',h1,p1⟩
  |false=>exact c7.ok p1 h1⟩
theorem eX3(ha:DT X Z a ta)(hb:DW X Z (.BoolOp .Or (b::j9) pos) tb):DW X Z (.BoolOp .Or (a::b::j9) pos) (orT ta tb):=
 DW.of (eR4 ha.h hb.h) λU H Q hE0=>hE0.elim λX9 μ G s h p=>⟨X9,μ,G,s,h,(c7.bind p).mono λx X0 G1 H1 x' h1 p1=>by
  cases x with
  |false=>exact⟨X9,X0,G1,s.mono x',h1,p1⟩
  |true=>exact c7.ok p1 h1⟩
theorem eM4(ha:DT X Z a ta):DT X Z (.UnaryOp .Not a pos) (bM7 ta):=
 DT.of (eF1 ha.h) λU H Q hE0=>hE0.elim λX9 μ G s h p=>⟨X9,μ,G,s,h,(c7.bind p).mono λx X0 G1 H1 x' h1 p1=>c7.ok p1 h1⟩
theorem eS1(hc:DT X Z c ta)(ha:DE X Z a fa)(hb:DE X Z b fb):DE X Z (.IfExp c a b pos) (ifE ta fa fb):=
 DE.of (dJ5 hc.h ha.h hb.h) λU H Q hE0=>hE0.elim λX9 μ G s h p=>⟨X9,μ,G,s,h,(c7.bind p).mono λx X0 G1 H1 x' h1 p1=>by
  cases x with
  |true=>exact⟨X9,X0,G1,s.mono x',h1,p1⟩
  |false=>exact⟨X9,X0,G1,s.mono x',h1,p1⟩⟩
theorem q16:DA X Z [] q11:=DA.of cY8 λU H Q hE0=>hE0.elim λX9 μ G s h p=>c7.ok p h [] rfl
theorem q15(ha:DE X Z e fa)(hr:DA X Z es fs)(hs:zy (e::es) X.env= (false,eval e X.env)::zy es X.env):DA X Z (e::es) (q10 fa fs):=
 DA.of (cM0 ha.h hr.h hs) λU H Q hE0=>hE0.elim λX9 μ G s h p=>⟨X9,μ,G,s,h,(c7.bind p).mono λx X0 G1 H1 x' h1 p1 v rv=>
  ⟨X9,X0,G1,s.mono x',h1,(c7.bind p1).mono λxs WX G2 H2 x2 h2 p2 vs rvs=>c7.ok p2 h2 (v::vs) ⟨v,vs,rfl,rv.mono x2,rvs⟩⟩⟩
def aK1(fs:DSt->M (List D)):Fe:=λU=>do
 let xs <-fs U
 if xs.length<=zd then pure (.tup xs)else M.stuck
noncomputable def M4(o:DO):M D:=λG=>some (.ok (.ref G.length),G++[o])
def O3(fs:DSt->M (List D)):Fe:=λU=>do
 let xs <-fs U
 if xs.length<=zd then M4 (.lst xs)else M.stuck
theorem aL6{G:DH}{Q:VK}(h:o5 cc μ G H)(r:m6 cc μ H xs vs)
 (p:c7 cc Z μ H (some (Except.ok (.tup xs),G)) λd X2 _ H'=>∀v,d7 cc X2 H' d v->Q v H') (q:Addr) (hq:H q=none):Q (.ref q) (upd H q (.tup vs)):=by
 have k:Ext μ H μ (upd H q (.tup vs)):=Ext.lay hq _
 refine p μ _ k (h.same k λa o e n=>?_) _ ?_
 ·rw[o9 (v5 e hq)];exact e
 · unfold d7
   exact⟨q,vs,rfl,SqT.of M5,r.mono k⟩
theorem R8{G:DH}{Q:VK}(h:o5 cc μ G H)(r:m6 cc μ H xs vs)
 (p:c7 cc Z μ H (M4 (.lst xs) G) λd X2 _ H'=>∀v,d7 cc X2 H' d v->Q v H') (q:Addr) (hq:H q=none):Q (.ref q) (upd H q (.lst vs)):=by
 have k:Ext μ H (μ++[q]) (upd H q (.lst vs)):=Ext.add hq _
 refine p (μ++[q]) _ k (h.new hq ⟨vs,M5,r.mono k⟩) _ ?_
 unfold d7
 exact⟨q,by rw[<-h.len];simp,rfl⟩
theorem eH5{x1}(h:DA X Z es fs):DE X Z (.Tuple es x1 pos) (aK1 fs):=
 DE.of (eE6 h.h) λU H Q hE0=>hE0.elim λX9 μ G s h p=>⟨X9,μ,G,s,h,(c7.bind p).mono λxs X0 G1 H1 x' h1 p1 vs rv=>by
  split at p1
  · rename_i hz
    exact⟨by rw[<-rv.length];exact hz,λq hq=>aL6 h1 rv p1 q hq⟩
  ·exact p1.elim⟩
theorem eK6(h:DA X Z es fs):DE X Z (.List es pos) (O3 fs):=
 DE.of (dE7 h.h) λU H Q hE0=>hE0.elim λX9 μ G s h p=>⟨X9,μ,G,s,h,(c7.bind p).mono λxs X0 G1 H1 x' h1 p1 vs rv=>by
  split at p1
  · rename_i hz
    exact⟨by rw[<-rv.length];exact hz,λq hq=>R8 h1 rv p1 q hq⟩
  ·exact p1.elim⟩
theorem bJ0(U:St)(H:Hp)(Q:VK)(h:aD5 cc Z (q12 F fs) U H Q):tCB (bC0 cc Z F) (bY0 cc Z fs) U H Q:=by
 obtain⟨X9,μ,G,s,h,p⟩:=h
 exact⟨X9,μ,G,s,h,(c7.bind p).mono λx X0 G1 H1 x' h1 p1 vs rv=>⟨x,X0,G1,rv,h1,p1⟩⟩
theorem dC8{id:String}(hc:R6 X Z (.builtin id) F)(hg:Gl X x)(hm:X.mg x=none)(hv:zK x=some (.builtin id))(ha:DA X Z (e::es) fs)(hn:x≠ "__name__")(hdb:(x==("__debug__" :Str))=false)
 (he:zy (e::es) X.env= (false,eval e X.env)::zy es X.env) (hpl:(yb pos (zy es X.env)).any (·.1)=false):DE X Z (.Call (.Name x p) (e::es) [] pos) (q12 F fs):=
 DE.of (cZ2 hc.h hg hm hv ha.h hn hdb he hpl) bJ0
theorem cS3(hc:R6 X Z (.type T) F)(hg:Gl X x)(hm:X.mg x=none)(hv:zK x=some (.type T))(ha:DA X Z (e::es) fs)(hn:x≠ "__name__")(hdb:(x==("__debug__" :Str))=false)
 (he:zy (e::es) X.env= (false,eval e X.env)::zy es X.env) (hpl:(yb pos (zy es X.env)).any (·.1)=false):DE X Z (.Call (.Name x p) (e::es) [] pos) (q12 F fs):=
 DE.of (cO4 hc.h hg hm hv ha.h hn hdb he hpl) bJ0
def spD(c:Wc)(n:Nat)(F:List D->M D):Sp:=λvs H Q _=>vs.length=n/\∃ds μ G,m6 c μ H ds vs/\o5 c μ G H/\c7 c ZF μ H (F ds G) λd X2 _ H'=>∀v,d7 c X2 H' d v->Q v H'
noncomputable def noX{α:Type}(m:M α):M α:=λG=>match m G with
 |some (.ok a,G1)=>some (.ok a,G1)
 |_=>none
theorem bW9{H:Hp}{G:DH}{K:α->List Addr->DH->Hp->Prop}(p:c7 cc Z μ H (noX m G) K):c7 cc ZF μ H (m G) K:=by
 unfold noX at p
 match m G,p with
 |some (.ok a,G1),p=>exact p
 |some (.error x,G1),p=>exact p.elim
 |none,p=>exact p.elim
def fnX(n:Nat)(F:List D->M D):List D->M D:=λds=>if ds.length=n then noX (F ds)else M.stuck
theorem bY3{H:Hp}{n:Nat}{G:DH}{K:D->List Addr->DH->Hp->Prop}(p:c7 cc Z μ H (fnX n F ds G) K):ds.length=n/\c7 cc ZF μ H (F ds G) K:=by
 unfold fnX at p
 split at p
 ·rename_i h;exact⟨h,bW9 p⟩
 ·exact p.elim
theorem dR3(hF:X3 X.prog X.w X.K X.mg X.base CX0 k f fd ps (spD (wc X) n F))(hr:N8 k X.A)(hg:Gl X x)(hm:X.mg x=some (.ref f))(hk:jE X.K (.ref f)=true)(hb:aO9 X.K fd ps [])
 (ha:DA X Z (e::es) fs)
 (hdb:(x==("__debug__" :Str))=false) (he:zy (e::es) X.env= (false,eval e X.env)::zy es X.env) (hpl:(yb pos (zy es X.env)).any (·.1)=false):
 DE X Z (.Call (.Name x p) (e::es) [] pos) (q12 (fnX n F) fs):=
 DE.of (cF6 hF hr hg hm hk hb .nil dY8 ha.h hdb he hpl) λU H Q hE0=>hE0.elim λX9 μ G s h p=>by
  refine⟨X9,μ,G,s,h,(c7.bind p).mono λds' X0 G1 H1 x' h1 p1 vs rv=>?_⟩
  obtain⟨hl,p2⟩:=bY3 p1
  show spD (wc X) n F (vs++[]) H1 Q E0
  rw[jC]
  exact⟨by rw[<-rv.length];exact hl,ds',X0,G1,rv,h1,p2⟩
end
abbrev Fs:=DSt->M Fl
def J2:Fs:=λU=>pure (.nx U)
def m9(a b:Fs):Fs:=λU=>do
 match <-a U with
 | .nx X1=>b X1
 |r=>pure r
def u6(f:Fe):Fs:=λU=>do pure (.rt (<-f U))
def bF4(f:Fe):Fs:=λU=>do
 let _ <-f U
 pure (.nx U)
noncomputable def ifS(t:DSt->M Bool)(a b:Fs):Fs:=λU=>do if <-t U then a U else b U
abbrev Fg:=D->DSt->M DSt
abbrev Fgs:=List D->DSt->M DSt
def q14(i:Nat):Fg:=λd U=>pure (U.set i (some d))
def cE5:Fgs:=λds U=>match ds with
 |[]=>pure U
 |_=>M.stuck
def aH0(g:Fg)(r:Fgs):Fgs:=λds U=>match ds with
 |d::t=>do r t (<-g d U)
 |[]=>M.stuck
def bZ8(n:Nat)(g:Fgs):Fg:=λd U=>match d with
 | .tup l=>if l.length=n then g l U else M.stuck
 |_=>M.stuck
def J7(f:Fe)(g:Fg):Fs:=λU=>do
 let d <-f U
 let X1 <-g d U
 pure (.nx X1)
section
variable(c:Wc)(Z:XC)
def bJ1(g:Fg):TG:=λv U H Q=>∃d X9 μ G,d7 c μ H d v/\G9 c μ H X9 U/\o5 c μ G H/\c7 c Z μ H (g d X9 G) λWW X2 _ H'=>∀ X1,G9 c X2 H' WW X1->Q X1 H'
def bO9(g:Fgs):TGs:=λvs U H Q=>∃ds X9 μ G,m6 c μ H ds vs/\G9 c μ H X9 U/\o5 c μ G H/\c7 c Z μ H (g ds X9 G) λWW X2 _ H'=>∀ X1,G9 c X2 H' WW X1->Q X1 H'
end
theorem bJ1.elim{P:Prop}{v:V}{U:St}{H:Hp}(h:bJ1 c Z g v U H Q)(k:∀d X9 μ G,d7 c μ H d v->G9 c μ H X9 U->o5 c μ G H->c7 c Z μ H (g d X9 G) (λWW X2 _ H'=>∀ X1,G9 c X2 H' WW X1->Q X1 H')->P):P:=by
 obtain⟨e0,e1,e2,e3,e4,e5,e6,e7⟩:=h
 exact k e0 e1 e2 e3 e4 e5 e6 e7
theorem bO9.elim{Z:XC}{P:Prop}{U:St}{H:Hp}(h:bO9 c Z g vs U H Q)(k:∀ds X9 μ G,m6 c μ H ds vs->G9 c μ H X9 U->o5 c μ G H->c7 c Z μ H (g ds X9 G) (λWW X2 _ H'=>∀ X1,G9 c X2 H' WW X1->Q X1 H')->P):P:=by
 obtain⟨e0,e1,e2,e3,e4,e5,e6,e7⟩:=h
 exact k e0 e1 e2 e3 e4 e5 e6 e7
structure DG(X:Cx)(Z:XC)(tg:Expr)(g:Fg):Prop where
 h:PG X tg (bJ1 (wc X) Z g)
structure DGs(X:Cx)(Z:XC)(tgs:List Expr)(g:Fgs):Prop where
 h:PGs X tgs (bO9 (wc X) Z g)
theorem PG.mono(h:PG X e t)(k:∀v U H Q,t' v U H Q->t v U H Q):PG X e t':=λpins s U H v u Q I r q=>h pins s U H v u Q I r (k v U H Q q)
theorem PGs.mono(h:PGs X e t)(k:∀v U H Q,t' v U H Q->t v U H Q):PGs X e t':=λpins s U H v u Q I r q=>h pins s U H v u Q I r (k v U H Q q)
theorem DG.of(h:PG X e t)(k:∀v U H Q,bJ1 (wc X) Z g v U H Q->t v U H Q):DG X Z e g:=⟨PG.mono h k⟩
theorem DGs.of(h:PGs X e t)(k:∀v U H Q,bO9 (wc X) Z g v U H Q->t v U H Q):DGs X Z e g:=⟨PGs.mono h k⟩
section
variable{X:Cx}{Z:XC}{st:Stmt}{j9 sa sb:List Stmt}{f g:Fs}
theorem eN5:DB X Z [] J2:=DB.of dM7 λE U H hE0=>hE0.elim λX9 μ G s h p=>c7.ok p h U s
theorem dL4(h:o5 cc μ G H)
 (p:c7 cc Z μ H ((match fl with| .nx X1=>g X1|r=>pure r:M Fl) G) λfl X2 _ H'=>aY0 cc E fl X2 H'):aY0 cc {E with nx:=aY1 cc Z g E} fl μ H:=by
 cases fl with
 |nx X9=>exact λU s=>⟨X9,μ,G,s,h,p⟩
 |rt d=>exact c7.ok p h
 |bk X9=>exact c7.ok p h
 |ct X9=>exact c7.ok p h
theorem cG2(h1:DS X Z st f)(h2:DB X Z j9 g):DB X Z (st::j9) (m9 f g):=
 DB.of (cZ8 h1.h h2.h) λE U H hE0=>hE0.elim λX9 μ G s h p=>⟨X9,μ,G,s,h,(c7.bind p).mono λfl X0 G1 H1 x' h1 p1=>dL4 h1 p1⟩
theorem dC5(h1:DS X Z st f):DB X Z [st] f:=⟨dN8 h1.h⟩
theorem dS5(he:DE X Z e fa)(hs:Jq e none pos.line X.env=pure false):DS X Z (.Expr e pos) (bF4 fa):=
 DS.of (dL3 he.h hs) λE U H hE0=>hE0.elim λX9 μ G s h p=>⟨X9,μ,G,s,h,(c7.bind p).mono λd X0 G1 H1 x' h1 p1 v rv=>c7.ok p1 h1 U (s.mono x')⟩
theorem eI4(he:DE X Z e fa):DS X Z (.Return (some e) pos) (u6 fa):=
 DS.of (eK8 he.h) λE U H hE0=>hE0.elim λX9 μ G s h p=>⟨X9,μ,G,s,h,(c7.bind p).mono λd X0 G1 H1 x' h1 p1 v rv=>c7.ok p1 h1 v rv⟩
theorem eS3(hc:DT X Z c t)(ha:DB X Z sa f)(hb:DB X Z sb g):DS X Z (.If c sa sb pos) (ifS t f g):=
 DS.of (eT8 hc.h ha.h hb.h) λE U H hE0=>hE0.elim λX9 μ G s h p=>⟨X9,μ,G,s,h,(c7.bind p).mono λx X0 G1 H1 x' h1 p1=>by
  cases x with
  |true=>exact⟨X9,X0,G1,s.mono x',h1,p1⟩
  |false=>exact⟨X9,X0,G1,s.mono x',h1,p1⟩⟩
theorem cG4{x:Str}(hN:X.N.Nodup)(hi:X.N[i]? =some x)(hx:Loc X.env.scope x)(hf:X.fn x=true\/X.env.scope.names.lookup x=some .local):DG X Z (.Name x pos) (q14 i):=
 DG.of (dK8 hN hi hx hf) λv U H Q hE0=>hE0.elim λd X9 μ G r s h p=>c7.ok p h _ (s.put r i)
theorem dQ8:DGs X Z [] cE5:=DGs.of dT3 λvs U H Q hE0=>hE0.elim λds X9 μ G r s h p=>by
 cases ds with
 |nil=>cases r;exact⟨rfl,c7.ok p h _ s⟩
 |cons _ _=>exact p.elim
theorem dC9(h1:DG X Z e gg)(h2:DGs X Z es gr)(hs:(yw (e::es) X.env).map (·.2)=Zg e X.env::(yw es X.env).map (·.2)):DGs X Z (e::es) (aH0 gg gr):=
 DGs.of (dE4 h1.h h2.h hs) λvs U H Q hE0=>hE0.elim λds X9 μ G r s h p=>by
  cases ds with
  |nil=>exact p.elim
  |cons d t=>
    obtain⟨v,vr,rfl,rv,rt⟩:=r
    exact⟨v,vr,rfl,d,X9,μ,G,rv,s,h,(c7.bind p).mono λdσ1 X0 G1 H1 x' h1 p1 WZ s1=>⟨t,dσ1,X0,G1,rt.mono x',s1,h1,p1⟩⟩
theorem eA8{gs:Fgs}(hc:X.calm=true)(h:DGs X Z es gs)(hn:(yw es X.env).length=n)(hst:(yw es X.env).findIdx? (·.1)=none):DG X Z (.Tuple es k pos) (bZ8 n gs):=
 DG.of (eG3 hc h.h hn hst) λv U H Q hE0=>hE0.elim λd X9 μ G r s h p=>by
  cases d with
  |tup l=>
    unfold d7 at r
    obtain⟨a,vs,rfl,q,rl⟩:=r
    have p':c7 (wc X) Z μ H ((if l.length=n then gs l X9 else M.stuck:M DSt) G) λWW X2 _ H'=>∀ X1,G9 (wc X) X2 H' WW X1->Q X1 H':=p
    split at p'
    · rename_i hl
      exact⟨a,vs,rfl,q,by rw[<-rl.length];exact hl,l,X9,μ,G,rl,s,h,p'⟩
    ·exact p'.elim
  |_=>exact p.elim
theorem eB7(he:DE X Z e fa)(hg:DG X Z tg gg)(hs:Jf [tg] e pos.line X.env=pure false)(hw:Jg [tg] e X.env=pure none)
 (h1:(yw [tg] X.env).map (·.2)= [Zg tg X.env]):DS X Z (.Assign [tg] e pos) (J7 fa gg):=
 DS.of (dJ6 he.h hg.h hs hw h1) λE U H hE0=>hE0.elim λX9 μ G s h p=>⟨X9,μ,G,s,h,(c7.bind p).mono λd X0 G1 H1 x' h1 p1 v rv=>
  ⟨d,X9,X0,G1,rv,s.mono x',h1,(c7.bind p1).mono λdσ2 WX G2 H2 x2 h2 p2 WL s2=>c7.ok p2 h2 WL s2⟩⟩
end
def J6:Nat->(DSt->M Bool)->Fs->Fs
 |0,_,_=>λ_=>M.stuck
 |n+1,t,b=>λU=>do
   if <-t U then
    match <-b U with
    | .nx X1=>J6 n t b X1
    | .ct X1=>J6 n t b X1
    | .bk X1=>pure (.nx X1)
    | .rt d=>pure (.rt d)
   else pure (.nx U)
open Classical in
def W2(t:DSt->M Bool)(b:Fs):Fs:=λU G=>if h:∃n,(J6 n t b U G).isSome=true then J6 (xm h) t b U G else none
theorem M.bind_mono{f g:α->M β}{r:Except Str β×DH}(h:(m >>= f) G=some r)(k:∀a G',f a G'=some r->g a G'=some r):(m >>= g) G=some r:=by
 rw[M.bind_eq]at h ⊢
 match m G,h with
 |some (.ok a,G'),h=>exact k a G' h
 |some (.error x,G'),h=>exact h
theorem aL7{t:DSt->M Bool}:∀ {n} {U} {G:DH} {r:Except Str Fl×DH},J6 n t b U G=some r->J6 (n+1) t b U G=some r
 |0,_,_,_,h=>by exact t6 h
 |n+1,U,G,r,h=>by
   unfold J6 at h ⊢
   refine M.bind_mono h λc G1 h1=>?_
   cases c with
   |true=>
     refine M.bind_mono h1 λfl G2 h2=>?_
     cases fl with
     |nx X1=>exact aL7 h2
     |ct X1=>exact aL7 h2
     |bk X1=>exact h2
     |rt d=>exact h2
   |false=>exact h1
theorem aM9(hm:n<=m)(h:J6 n t b U G=some r):J6 m t b U G=some r:=by
 induction hm with
 |refl=>exact h
 |step _ ih=>exact aL7 ih
section
theorem bW7(hp:Jy (zB X.prog X.w) X.A X.env X.xe)(hc:DT X Z c t)(hb:DB X Z body f):DS X Z (.While c body [] pos) (W2 t f):=
 DS.of (dF7 hp hc.h hb.h) λE U H hE0=>hE0.elim λX9 μ G s h p=>by
  unfold W2 at p
  split at p
  · rename_i ex
    refine⟨λm U H=>∃X9 μ G,G9 (wc X) μ H X9 U/\o5 (wc X) μ G H/\c7 (wc X) Z μ H (J6 m t f X9 G) λfl X2 _ H'=>aY0 (wc X) E fl X2 H',⟨_,X9,μ,G,s,h,p⟩,?_⟩
    rintro m U H ⟨X9,μ,G,s,h,p⟩
    cases m with
    |zero=>exact p.elim
    |succ m=>
      refine⟨X9,μ,G,s,h,(c7.bind p).mono λx X0 G1 H1 x' h1 p1=>?_⟩
      cases x with
      |false=>exact c7.ok p1 h1 U (s.mono x')
      |true=>
        refine⟨λX1 H'=>∃X9 μ G,G9 (wc X) μ H' X9 X1/\o5 (wc X) μ G H'/\c7 (wc X) Z μ H' (J6 m t f X9 G) λfl X2 _ H'=>aY0 (wc X) E fl X2 H',λX1 H' w=>⟨m,yW _,w⟩,X9,X0,G1,s.mono x',h1,(c7.bind p1).mono λfl WX G2 H2 x2 h2 p2=>?_⟩
        cases fl with
        |nx WW=>exact λX1 s'=>⟨WW,WX,G2,s',h2,p2⟩
        |ct WW=>exact λX1 s'=>⟨WW,WX,G2,s',h2,p2⟩
        |bk WW=>exact λX1 s'=>c7.ok p2 h2 X1 s'
        |rt d=>exact λv r=>c7.ok p2 h2 v r
  ·exact p.elim
end
def aE2(g:Fg)(b:Fs)(ck:DH->Bool):List D->Fs
 |[]=>λU G=>if ck G then some (.ok (.nx U),G)else none
 | d :: r => λU G => if ck G then (do
    match <-b (<-g d U) with
    | .nx X1=>aE2 g b ck r X1
    | .ct X1=>aE2 g b ck r X1
    | .bk X1=>pure (.nx X1)
    | .rt d=>pure (.rt d):M Fl) G else none
structure Src where
 items:List D
 ck:DH->Bool
def aR4(it:DSt->M Src)(g:Fg)(b:Fs):Fs:=λU=>do
 let s <-it U
 aE2 g b s.ck s.items U
def ItD(c:Wc)(μ:List Addr)(H:Hp)(J:It)(s:Src):Prop:=∀ X2 G' H',Ext μ H X2 H'->o5 c X2 G' H'->s.ck G'=true->∀i:Nat,
 (∀d,s.items[i]? =some d->J.go i H'/\∀x H2,J.yld i H' x H2->Ext X2 H' X2 H2/\o5 c X2 G' H2/\d7 c X2 H2 d x)/\(s.items.length<=i->J.stop i H')
def cK9(c:Wc)(Z:XC)(it:DSt->M Src):TI:=λU H R=>∃X9 μ G,G9 c μ H X9 U/\o5 c μ G H/\c7 c Z μ H (it X9 G) λs X2 _ H'=>∀J,ItD c X2 H' J s->R J H'
theorem cK9.elim{P:Prop}{U:St}{H:Hp}(h:cK9 c Z it U H R)(k:∀X9 μ G,G9 c μ H X9 U->o5 c μ G H->c7 c Z μ H (it X9 G) (λs X2 _ H'=>∀J,ItD c X2 H' J s->R J H')->P):P:=by
 obtain⟨e0,e1,e2,e3,e4,e5⟩:=h
 exact k e0 e1 e2 e3 e4 e5
structure DI(X:Cx)(Z:XC)(tg e:Expr)(it:DSt->M Src):Prop where
 h:PI X tg e (cK9 (wc X) Z it)
theorem PI.mono(h:PI X tg e t)(k:∀ U H R,t' U H R->t U H R):PI X tg e t':=λpins s U H R I q=>h pins s U H R I (k U H R q)
theorem DI.of(h:PI X tg e t)(k:∀ U H R,cK9 (wc X) Z it U H R->t U H R):DI X Z tg e it:=⟨PI.mono h k⟩
section
def fC5(c:Wc)(E:bP4)(fl:Fl)(μ:List Addr)(_:DH)(H:Hp):Prop:=aY0 c E fl μ H
inductive eU7(c:Wc)(Z:XC)(gg:Fg)(f:Fs)(sr:Src)(E:bP4)(X0:List Addr)(H1:Hp)(i:Nat)(U:St)(H:Hp):Prop
 |mk (X9:DSt) (μ:List Addr) (G:DH) (k:Ext X0 H1 μ H) (s:G9 c μ H X9 U) (h:o5 c μ G H) (p:c7 c Z μ H (aE2 gg f sr.ck (sr.items.drop i) X9 G) (fC5 c E))
theorem cX5(hp:Jy (zB X.prog X.w) X.A X.env X.xe)(hc:X.calm=true)(hi:DI X Z tg iter it)(hg:DG X Z tg gg)(hb:DB X Z body f)(hs:∀x,yq iter X.env x=pure x):
 DS X Z (.For tg iter body [] pos) (aR4 it gg f):=
 DS.of (eB2 hp hc hi.h hg.h hb.h hs) λE U H hE0=>hE0.elim λX9 μ G s h p=>⟨X9,μ,G,s,h,(c7.bind p).mono λsr X0 G1 H1 x' h1 p1 J hJ=>by
  refine⟨λi m X1 H'=>m=sr.items.length-i/\i<=sr.items.length/\eU7 (wc X) Z gg f sr E X0 H1 i X1 H',
   ⟨sr.items.length,rfl,jV _,X9,X0,G1,Ext.refl _ _,s.mono x',h1,p1⟩,?_⟩
  rintro i m X1 H' ⟨rfl,hi',WW,X2,G',k',s',h',p'⟩
  by_cases hlt:i<sr.items.length
  · rw[yY hlt]at p'
    unfold aE2 at p'
    split at p'
    · rename_i ck
      obtain⟨q1,_⟩:=hJ X2 G' H' k' h' ck i
      obtain⟨go,yl⟩:=q1 _ (zv hlt)
      refine .inr ⟨go,λWL H2=>eU7 (wc X) Z gg f sr E X0 H1 (i+1) WL H2,λWL H2 w=>⟨sr.items.length-(i+1),Zz _ _ hlt,rfl,hlt,w⟩,λx H2 y=>?_⟩
      obtain⟨k2,h2,rx⟩:=yl x H2 y
      have p2:=c7.bind (p'.from k2)
      refine⟨_,WW,X2,G',rx,s'.mono k2,h2,p2.mono λdσ3 μ3 G3 H3 x3 h3 p3 WM s3=>?_⟩
      refine⟨dσ3,μ3,G3,s3,h3,(c7.bind p3).mono λfl μ4 G4 H4 x4 h4 p4=>?_⟩
      cases fl with
      |nx dσ4=>exact λσ4 s4=>⟨dσ4,μ4,G4,k'.trans (k2.trans (x3.trans x4)),s4,h4,p4⟩
      |ct dσ4=>exact λσ4 s4=>⟨dσ4,μ4,G4,k'.trans (k2.trans (x3.trans x4)),s4,h4,p4⟩
      |bk dσ4=>exact λσ4 s4=>c7.ok p4 h4 σ4 s4
      |rt d=>exact λv r=>c7.ok p4 h4 v r
    ·exact p'.elim
  · have e:i=sr.items.length:=Nat.le_antisymm hi' (Nat.le_of_not_lt hlt)
    subst e
    rw[List.drop_length]at p'
    unfold aE2 at p'
    split at p'
    · rename_i ck
      obtain⟨_,q2⟩:=hJ X2 G' H' k' h' ck sr.items.length
      exact .inl ⟨q2 (zj _),c7.ok p' h' X1 s'⟩
    ·exact p'.elim⟩
end
noncomputable def aG8(env:Env):List (Str×NameKind)->List (Str×Addr)->List (Str×Addr)
 |[],cs=>cs
 |(n,k)::r,cs=>aG8 env r (if k == .free then (match env.cells.lookup n with|some c=>(n,c)::cs|none=>cs)else cs)
theorem bV6:∀l cs,(∀p∈l,p.2= .free->∃c,env.cells.lookup p.1=some c)->
 (forIn l cs (fun(x:Str×NameKind) (cs:List (Str×Addr))=>(match x with|(name,kind)=>if (kind==NameKind.free)=true then do let c <-JQ env name;pure (ForInStep.yield ((name,c)::cs))else pure (ForInStep.yield cs):Sem (ForInStep (List (Str×Addr))))):Sem (List (Str×Addr)))=pure (aG8 env l cs)
 |[],cs,_=>rfl
 |(n,k)::r,cs,h=>by
  have ih:=λcs'=>bV6 r cs' λp hp=>h p (zw _ hp)
  rw[Yu]
  unfold aG8
  rcases hk:(k==NameKind.free)with _|_
  ·
    have e:(match ((n,k):Str×NameKind) with|(name,kind)=>if (kind==NameKind.free)=true then do let c <-JQ env name;pure (ForInStep.yield ((name,c)::cs))else pure (ForInStep.yield cs):Sem (ForInStep (List (Str×Addr))))=pure (ForInStep.yield cs):=by
     show (if (k==NameKind.free)=true then _ else _)=_
     rw[hk];rfl
    rw[e]
    exact ih cs
  ·
    obtain⟨c,hc⟩:=h (n,k) zr (by simpa using hk)
    have hcell:JQ env n=pure c:=by unfold JQ;rw[hc]
    have e:(match ((n,k):Str×NameKind) with|(name,kind)=>if (kind==NameKind.free)=true then do let c <-JQ env name;pure (ForInStep.yield ((name,c)::cs))else pure (ForInStep.yield cs):Sem (ForInStep (List (Str×Addr))))=pure (ForInStep.yield ((n,c)::cs)):=by
     show (if (k==NameKind.free)=true then (do let c <-JQ env n;pure (ForInStep.yield ((n,c)::cs)))else _)=_
     rw[hk,hcell];rfl
    rw[e,hc]
    exact ih ((n,c)::cs)
theorem aT9(h:∀p∈scope.names,p.2= .free->∃c,env.cells.lookup p.1=some c):closureFor scope env=pure (aG8 env scope.names []):=by
 have q:=bV6 scope.names [] h
 unfold closureFor
 dsimp only
 rw[q]
 rfl
theorem bK8:∀l cs,(cs.lookup x=some c->env.cells.lookup x=some c)->(aG8 env l cs).lookup x=some c->env.cells.lookup x=some c
 |[],cs,h,e=>h e
 |(n,k)::r,cs,h,e=>by
  unfold aG8 at e
  refine bK8 r _ (λe1=>?_) e
  split at e1
  · split at e1
    · rename_i c' hc
      rw[yd]at e1
      split at e1
      · rename_i hx
        have hx':x=n:=by simpa using hx
        subst hx'
        cases e1
        exact hc
      ·exact h e1
    ·exact h e1
  ·exact h e1
theorem S7(h:(aG8 env l []).lookup x=some c):env.cells.lookup x=some c:=bK8 l [] (λz=>by exact t6 z) h
theorem bE1:∀l cs,(∃c,cs.lookup x=some c)->∃c,(aG8 env l cs).lookup x=some c
 |[],cs,h=>h
 |(n,k)::r,cs,h=>by
  unfold aG8
  refine bE1 r _ ?_
  split
  · split
    · rename_i c' hc
      rw[yd]
      split
      ·exact⟨_,rfl⟩
      ·exact h
    ·exact h
  ·exact h
theorem aU4(hc:env.cells.lookup x=some c):∀l cs,(x,NameKind.free)∈l->∃c,(aG8 env l cs).lookup x=some c
 |[],cs,h=>by simp at h
 |(n,k)::r,cs,h=>by
  unfold aG8
  rcases zi.mp h with e|h
  · cases e
    refine bE1 r _ ?_
    rw[hc]
    simp
  ·exact aU4 hc r _ h
section
theorem bN7(I:Nat->zm->Prop)
 (turn:∀n s,I n s->zt (zB prog w) A (Yq it) (λr W1=>match r with
   |none=>R (.ok .next) W1
   | some v => zt (zB prog w) A (xo target it v) (λ_ s₁' => zt (zB prog w) A (Zg target env v) (λ_ s₂ =>
      zt (zB prog w) A (forIn ifs true λc r=>if r=true then do let ok <-isTrue c env (eval c env);pure (ForInStep.yield ok)else pure (ForInStep.yield r)) (λok s₃=>
       if ok=true then zt (zB prog w) A (eval elt env) (λx s₄=>
        zt (zB prog w) A (call (.builtin "list.append") [acc,x]) (λ_ s₅=>∃m,m<n/\I m s₅) (λ_ _=>False) s₄) (λ_ _=>False) s₃
       else ∃m,m<n/\I m s₃) (λ_ _=>False) s₂) (λ_ _=>False) s₁') (λ_ _=>False) W1) (λ_ _=>False) s)
 (n:Nat) (h:I n s):
 ZW (zB prog w) A (.compLoop (.ListComp elt [⟨target,iter,ifs,0⟩] scope pos) 0 it acc env) R s:=by
 refine codeAny_loop rfl I (λn s hI=>?_) n h
 show zt _ A ((compTurn (.ListComp elt [⟨target,iter,ifs,0⟩] scope pos) 0 it acc env).onRaise (λx=>do YT x env;theTreesLotGoes x)) _ _ s
 refine wpAny_noted ?_
 rw[compTurn_list]
 refine za (Jd (za (jx (turn n s hI) (λr W1 h₁=>?_) λ_ _ h'=>h'.elim)))
 rcases r with _|v
 ·exact zo h₁
 ·
   refine za (jx h₁ (λ_ s₁' h₁'=>?_) λ_ _ h'=>h'.elim)
   refine za (jx h₁' (λ_ s₂ h₂=>za (jx h₂ (λok s₃ h₃=>?_) λ_ _ h'=>h'.elim)) λ_ _ h'=>h'.elim)
   rcases ok with _|_
   ·
     exact zo ⟨rfl,h₃⟩
   ·
     exact za (za (jx h₃ (λx s₄ h₄=>za (jx h₄ (λ_ s₅ h₅=>zo (zo ⟨rfl,h₅⟩)) λ_ _ h'=>h'.elim)) λ_ _ h'=>h'.elim))
end
def O1(X:Cx)(scope:Scope)(N:List Str)(C:Addr)(s:zm)(H:Hp)(ex:List Addr):Cx where
 prog:=X.prog
 w:=X.w
 K:=X.K
 mg:=X.mg
 base:=X.base
 A:=X.A
 N:=N
 WY:=s
 H₀:=H
 env:=compEnvC scope (aG8 X.env scope.names []) C X.env
 outer:=X.stack
 stack:=X.stack
 ex:=ex
 fn:=λ_=>false
 calm:=X.calm
 pn:= []
 xe:=λ_ _=>False
structure W9(X:Cx)(scope:Scope)(N:List Str)(caps:List (Option Nat)):Prop where
 kind:scope.kind= .function
 cell:∀y∈scope.names,y.2≠ .cell
 names:∀y∈scope.names,y.2= .local->scope.names.lookup y.1=some .local
 free:∀y∈scope.names,y.2= .free->X.env.kindOf y.1=some .cell\/X.env.kindOf y.1=some .free
 frees:∀y∈scope.names,y.2= .free->scope.names.lookup y.1=some .free
 len:caps.length=N.length
 caps:∀(i j:Nat),caps[i]? =some (some j)->∃x,N[i]? =some x/\X.N[j]? =some x/\(x,NameKind.free)∈scope.names
def W6{α:Type}(caps:List (Option Nat))(U:List (Option α)):List (Option α):=caps.map λo=>o.bind λj=>(U[j]?).join
theorem aQ1{env:Env}:∀names:List (Str×NameKind),(names.map fun(n,k)=>if (k==NameKind.free&&env.scope.kind == .function&&env.kindOf n==some .cell)then (n,NameKind.cell)else (n,k)).lookup x=
 (names.lookup x).map λk=>if (k==NameKind.free&&env.scope.kind == .function&&env.kindOf x==some .cell)then NameKind.cell else k
 |[]=>rfl
 |(n,k)::r=>by
  have ih:=aQ1 (env:=env) (x:=x) r
  rw[zA]
  by_cases hx:x=n
  · subst hx
    dsimp only
    split
    ·rename_i h;simp[yd];simp at h;simp[h]
    ·rename_i h;simp[yd];simp at h;intro a b c;exact absurd c (h a b)
  · have hb:(x==n)=false:=by simpa using hx
    dsimp only
    split
    ·rw[yd,yd,hb];exact ih
    ·rw[yd,yd,hb];exact ih
section
variable{X:Cx}{scope:Scope}{N:List Str}{caps:List (Option Nat)}
theorem W9.isFree(k:W9 X scope N caps){x:Str}(h:(JN scope X.env).names.lookup x=some .cell\/(JN scope X.env).names.lookup x=some .free):(x,NameKind.free)∈scope.names:=by
 have e:(JN scope X.env).names.lookup x= (scope.names.lookup x).map λk=>if (k==NameKind.free&&X.env.scope.kind == .function&&X.env.kindOf x==some .cell)then NameKind.cell else k:=aQ1 scope.names
 rw[e]at h
 rcases hl:scope.names.lookup x with _|kd
 ·rw[hl]at h;rcases h with h|h<;>exact t6 h
 ·
   rw[hl]at h
   have hm:=yo hl
   have hn:=k.cell _ hm
   simp only[Yl]at h
   cases kd with
   |free=>exact hm
   |cell=>exact absurd rfl hn
   |_=>rcases h with h|h<;>simp at h
theorem W9.cells(k:W9 X scope N caps)(ok:X.Ok):∀p∈scope.names,p.2= .free->∃c,X.env.cells.lookup p.1=some c:=λp hp e=>ok.has p.1 (k.free p hp e)
theorem cR8(I:Inv X pins U H s)(k:W9 X scope N caps)(hC:s.heap.objs.size<=C)(hex:∀b∈ex,aK2 X pins H b)(hlt:∀b∈ex,b<s.heap.objs.size):(O1 X scope N C s H ex).Ok where
 mod:=I.ok.mod
 kind:=k.kind
 glob:=I.ok.glob
 blt:=I.ok.blt
 above:=hC
 inj:=λx y c h1 h2=>I.ok.inj x y c (S7 h1) (S7 h2)
 has:=λx hx=>by
  have hm:=k.isFree hx
  obtain⟨c,hc⟩:=k.cells I.ok _ hm rfl
  exact aU4 hc _ _ hm
 cab:=λx c h=>by exact bL8 h
 hd:=I.ok.hd
 frames:=I.ok.frames
 stk:=.inl rfl
 exf:=λb hb=>⟨zE (zP (hlt b hb) hC),λx c e=>(hex b hb).2.2.2.2.1 x c (S7 e)⟩
 bs:=I.bs
 bsz:=zu I.ok.bsz I.sz
 noex:=λb o e hb=>by
  rcases (hex b hb).2.2.2.1 with z|z
  ·exact I.ok.noex b o e z
  ·exact absurd (zP (zl (I.ok.bs b o e).1) z) (yJ _)
 exfs:=λb hb z=>by
  rcases zi.mp (I.stkSub b z)with e|e
  ·exact(hex b hb).2.1 e
  ·exact(hex b hb).2.2.1 e
 funs:=I.stack
 frf:=I.stkFree
 gd:=I.ok.gd
theorem bI7{U:List (Option α)}{i:Nat}(h:(W6 caps U)[i]? =some (some v)):∃j,caps[i]? =some (some j)/\U[j]? =some (some v):=by
 unfold W6 at h
 rw[jk]at h
 rcases e:caps[i]? with _|o
 ·rw[e]at h;exact t6 h
 ·
   rw[e]at h
   rcases o with _|j
   ·cases h
   ·
     refine⟨j,rfl,?_⟩
     simp only[Yl,xY,zI]at h
     rcases e2:U[j]? with _|w
     ·rw[e2]at h;exact t6 h
     ·rw[e2]at h;simp at h;rw[h]
theorem cB9{h₁:Heap}{tk:Nat}(I:Inv X pins U H s)(k:W9 X scope N caps)(hC:s.heap.objs.size<C)(hex:∀b∈ex,aK2 X pins H b)(hlt:∀b∈ex,b<s.heap.objs.size)
 (old:∀b o,s.heap.get? b=some o->h₁.get? b=some o) (hns:h₁.Ns C λ_=>none) (hacc:h₁.get? s.heap.objs.size=some {cls:=.type "list",data:=.seq ([]:List zg).toArray 0}):
 Inv (O1 X scope N C s H ex) [] (W6 caps U) (upd H s.heap.objs.size (.lst [])) {s with heap:=h₁,toks:=tk}:=by
 have hD:H s.heap.objs.size=none:=I.hok.fresh (zj _)
 refine⟨cR8 I k (yX hC) hex hlt,rfl,I.bare,Un.laid old (zj _) hD,⟨_,hns,λi x v h1 h2 h3=>?_⟩,λx c e=>?_,?_,λx c e=>?_,λp hp=>absurd (show p∈([]:PNS)from hp) (by simp),?_,?_⟩
 · obtain⟨j,e1,e2⟩:=bI7 h2
   obtain⟨y,e3,e4,e5⟩:=k.caps i j e1
   have exy:y=x:=by
    have:some y=some x:=e3.symm.trans h1
    exact jm this
   subst exy
   have hk:=k.free _ e5 rfl
   obtain⟨m,hn,hl⟩:=I.loc
   obtain⟨u,r,l⟩:=hl j y v e4 e2 (by rcases hk with z|z;exact .inr (.inl z);exact .inr (.inr z))
   refine⟨u,r,.inr ?_⟩
   rcases l with⟨z,_⟩|⟨_,c,ec,hc⟩
   ·rcases hk with z'|z'<;>(rw[z]at z';cases z')
   · refine⟨?_,c,?_,?_⟩
     · rcases h3 with h3|h3|h3
       · exfalso
         have e:(JN scope X.env).names.lookup y= (scope.names.lookup y).map λk=>if (k==NameKind.free&&X.env.scope.kind == .function&&X.env.kindOf y==some .cell)then NameKind.cell else k:=aQ1 scope.names
         have h3':(JN scope X.env).names.lookup y=some .local:=h3
         rw[e]at h3'
         rw[k.frees _ e5 rfl]at h3'
         simp only[Yl]at h3'
         split at h3'<;>cases h3'
       ·exact .inl h3
       ·exact .inr h3
     · obtain⟨c',ec'⟩:=aU4 ec scope.names [] e5
       have:=S7 ec'
       rw[ec]at this
       cases this
       exact ec'
     · obtain⟨o,ho,hd⟩:=hc
       exact⟨o,old _ _ ho,hd⟩
 · obtain⟨v,o,ho,hd⟩:=I.cell x c (S7 e)
   exact⟨v,o,old _ _ ho,hd⟩
 · show upd H s.heap.objs.size (.lst []) C=none
   rw[o9 (yn hC)]
   exact I.hok.fresh (yX hC)
 · obtain⟨v,o,ho,hd⟩:=I.cell x c (S7 e)
   rw[o9 (zE (zl ho))]
   exact I.freeC x c (S7 e)
 ·exact I.hok.laid old (zj _) ⟨jV _, [],0,.nil,hacc⟩
 · show (W6 caps U).length=N.length
   unfold W6
   rw[zh];exact k.len
theorem dJ1(I:Inv X pins U H s)(hex:∀b∈ex,aK2 X pins H b)(hC:s.heap.objs.size<C)
 (I':Inv (O1 X scope N C s H ex) pins' X1 H' s') (sb:xp C s'.heap h'):Inv X pins U H' {s' with heap:=h'}:=by
 have hos:s'.os=s.os:=I'.os
 have hfree:H' C=none:=I'.free
 have neC:∀b o,s.heap.get? b=some o->b≠C:=λb o e z=>by
  have:=zl e
  rw[z]at this
  exact absurd (Ye hC this) (yJ _)
 have hun:Un (frs X.stack) ex H H' s.heap s'.heap:=I'.base
 have hun2:Un (frs X.stack) ex H H' s.heap h':=by
  refine⟨λb o e n hb hx=>(sb.2 b (neC b o e)).trans (hun.keep b o e n hb hx),λb o e n hb hx=>?_,hun.free,λb o e hx=>?_,hun.tups,hun.frzs,hun.tbls⟩
  · obtain⟨sl,q⟩:=hun.slot b o e n hb hx
    exact⟨sl,(sb.2 b (neC b o e)).trans q⟩
  · obtain⟨o',q⟩:=hun.there b o e hx
    exact⟨o',(sb.2 b (neC b o e)).trans q⟩
 have hok2:HOk X.prog X.w H' h':=λa o e=>by
  have nc:∀c u,H' c=some u->c≠C:=λc u q z=>by rw[z,hfree]at q;exact t6 q
  refine(I'.hok a o e).stay (λb u hb q=>?_) (λ_ q=>q) λ_ _ q=>q
  rcases hb with rfl|hb
  ·exact(sb.2 b (nc b o e)).trans q
  ·exact(sb.2 b (nc b _ hb)).trans q
 obtain⟨hh,g,d,t,os'⟩:=s'
 obtain rfl:os'=s.os:=hos
 have fin:=I.call (d':=d) (t':=t) hun2 hok2 I'.bare λb hb=>⟨(hex b hb).2.2.2.1,(hex b hb).2.1,(hex b hb).2.2.2.2.1,(hex b hb).2.2.2.2.2⟩
 exact fin
end
noncomputable def hide(q:Addr)(H:Hp):Hp:=λb=>if b=q then none else H b
theorem aC6:hide q H q=none:=by unfold hide;rw[if_pos rfl]
theorem Q5(h:b≠q):hide q H b=H b:=by unfold hide;rw[if_neg h]
theorem M9(h:hide q H b=some o):b≠q/\H b=some o:=by
 by_cases e:b=q
 ·rw[e,aC6]at h;exact t6 h
 ·rw[Q5 e]at h;exact⟨e,h⟩
theorem cV4(h:H q=some o):upd (hide q H) q o=H:=by
 funext b
 by_cases e:b=q
 ·rw[e,M5,h]
 ·rw[o9 e,Q5 e]
theorem aL2:hide q (upd H q o)=hide q H:=by
 funext b
 by_cases e:b=q
 ·rw[e,aC6,aC6]
 ·rw[Q5 e,Q5 e,o9 e]
theorem aN6(h:H q=none):hide q H=H:=by
 funext b
 by_cases e:b=q
 ·rw[e,aC6,h]
 ·rw[Q5 e]
section
mutual
theorem d7.sq(k:∀a xs,SqT c.K H a xs->SqT c.K H' a xs):∀ {d} {v},d7 c μ H d v->d7 c μ H' d v
 | .non,_,h=>h
 | .bl _,_,h=>h
 | .int _,_,h=>h
 | .str _,_,h=>h
 | .ty _,_,h=>h
 | .fn _,_,h=>h
 | .ref i,v,h=>by unfold d7 at h ⊢;exact h
 | .tup l,v,h=>by
   unfold d7 at h ⊢
   obtain⟨a,vs,e,q,r⟩:=h
   exact⟨a,vs,e,k _ _ q,m6.sq k r⟩
theorem m6.sq(k:∀a xs,SqT c.K H a xs->SqT c.K H' a xs):∀ {l} {vs},m6 c μ H l vs->m6 c μ H' l vs
 |[],_,h=>h
 |d::ds,vs,h=>by
   unfold m6 at h ⊢
   obtain⟨v,r,e,q,t⟩:=h
   exact⟨v,r,e,d7.sq k q,m6.sq k t⟩
end
theorem Z4.sq(k:∀a xs,SqT c.K H a xs->SqT c.K H' a xs):∀ {l} {vs},Z4 c μ H l vs->Z4 c μ H' l vs
 |[],_,h=>h
 |(_,d)::ds,vs,h=>by
  obtain⟨v,r,e,q,t⟩:=h
  exact⟨v,r,e,d7.sq k q,Z4.sq k t⟩
theorem aD0(hq:H q=some (.lst vs)){K:zc}(a:Addr)(xs:List V)(h:SqT K H a xs):SqT K (hide q H) a xs:=by
 rcases h with(h|⟨o,h⟩)|h
 ·exact .inl (.inl (by rw[Q5 (λe=>by rw[e,hq]at h;cases h)];exact h))
 ·exact .inl (.inr ⟨o,by rw[Q5 (λe=>by rw[e,hq]at h;cases h)];exact h⟩)
 ·exact .inr h
theorem aD1{K:zc}(a:Addr)(xs:List V)(h:SqT K (hide q H) a xs):SqT K H a xs:=by
 rcases h with(h|⟨o,h⟩)|h
 ·exact .inl (.inl (M9 h).2)
 ·exact .inl (.inr ⟨o,(M9 h).2⟩)
 ·exact .inr h
theorem G9.sq(k:∀a xs,SqT c.K H a xs->SqT c.K H' a xs)(h:G9 c μ H X9 U):G9 c μ H' X9 U:=⟨h.1,λi d e=>let ⟨v,a,b⟩:=h.2 i d e;⟨v,a,b.sq k⟩⟩
theorem Ext.hide(x:Ext μ H X2 H')(n:q∉μ)(hq:H q=some (.lst vs)):H' q=some (.lst vs)/\q∉X2/\Ext μ (DL.hide q H) X2 (DL.hide q H'):=by
 refine⟨x.oth q _ hq n,λh=>?_,x.pre,λa h1 h2=>?_,λb o e nb=>?_,λb xs e=>?_,λb o u e=>?_⟩
 ·have:=x.new q h n;rw[hq]at this;exact dR7 this
 · by_cases e:a=q
   ·rw[e,aC6]
   ·rw[Q5 e];exact x.new a h1 h2
 ·obtain⟨e1,e2⟩:=M9 e;rw[Q5 e1];exact x.oth b o e2 nb
 ·obtain⟨e1,e2⟩:=M9 e;rw[Q5 e1];exact x.tup b xs e2
 ·obtain⟨e1,e2⟩:=M9 e;rw[Q5 e1];exact x.frz b o u e2
theorem Ext.unhide(x:Ext μ H X2 (DL.hide q H')):Ext μ H X2 H':=
 ⟨x.pre,x.new,λb o e n=>(M9 (x.oth b o e n)).2,λb xs e=>(M9 (x.tup b xs e)).2,λb o u e=>(M9 (x.frz b o u e)).2⟩
theorem o5.hide(h:o5 c μ G H)(n:q∉μ)(hq:H q=some (.lst vs)):o5 c μ G (DL.hide q H):=
 ⟨h.len,h.inj,λi o a g m=>by
  have na:a≠q:=λe=>n (by rw[<-e];exact jn m)
  have r:=h.obj i o a g m
  cases o with
  |lst l=>obtain⟨ws,e,r⟩:=r;exact⟨ws,by rw[Q5 na];exact e,r.sq (aD0 hq)⟩
  |dct l=>obtain⟨ws,e,r⟩:=r;exact⟨ws,by rw[Q5 na];exact e,r.sq (aD0 hq)⟩
  |rod l=>obtain⟨ws,o,e,r⟩:=r;exact⟨ws,o,by rw[Q5 na];exact e,r.sq (aD0 hq)⟩
  |rol l=>
    obtain⟨ws,e,r⟩:=r
    refine⟨ws,?_,r.sq (aD0 hq)⟩
    rcases e with⟨o,e⟩|e
    ·exact .inl ⟨o,by rw[Q5 na];exact e⟩
    ·exact .inr e⟩
theorem o5.unhide(h:o5 c μ G (DL.hide q H)):o5 c μ G H:=
 ⟨h.len,h.inj,λi o a g m=>by
  have r:=h.obj i o a g m
  cases o with
  |lst l=>obtain⟨ws,e,r⟩:=r;exact⟨ws,(M9 e).2,r.sq aD1⟩
  |dct l=>obtain⟨ws,e,r⟩:=r;exact⟨ws,(M9 e).2,r.sq aD1⟩
  |rod l=>obtain⟨ws,o,e,r⟩:=r;exact⟨ws,o,(M9 e).2,r.sq aD1⟩
  |rol l=>
    obtain⟨ws,e,r⟩:=r
    refine⟨ws,?_,r.sq aD1⟩
    rcases e with⟨o,e⟩|e
    ·exact .inl ⟨o,(M9 e).2⟩
    ·exact .inr e⟩
inductive UH{α:Type}(c:Wc)(q:Addr)(vs:List V)(μ:List Addr)(H:Hp)(K:α->List Addr->DH->Hp->Prop)(a:α)(X2:List Addr)(G':DH)(H':Hp):Prop
 |mk (e:H' q=some (.lst vs)) (n:q∉X2) (h:o5 c X2 G' (DL.hide q H')) (x:Ext μ (DL.hide q H) X2 (DL.hide q H')) (k:K a X2 G' (DL.hide q H'))
theorem c7.unhide{r:Option (Except Str α×DH)}{K:α->List Addr->DH->Hp->Prop}(n:q∉μ)(hq:H q=some (.lst vs))(p:c7 c ZF μ (DL.hide q H) r K):
 c7 c Z μ H r (UH c q vs μ H K):=by
 match r,p with
 |some (.ok a,G'),p=>
   intro X2 H' x h
   obtain⟨e1,e2,e3⟩:=x.hide n hq
   have h2:=h.hide e2 e1
   exact⟨e1,e2,h2,e3,p X2 _ e3 h2⟩
 |some (.error z,G'),p=>
   intro X2 H' x h
   obtain⟨e1,e2,e3⟩:=x.hide n hq
   exact(p X2 _ e3 (h.hide e2 e1)).elim
theorem o5.mem_lt(I:Inv X pins U H s)(h:o5 (wc X) μ G H)(ha:a∈μ):a<s.heap.objs.size:=by
 obtain⟨i,hi⟩:=Jc ha
 have hl:i<G.length:=by rw[<-h.len];exact lt_of_get hi
 have r:=h.obj i G[i] a (zv hl) hi
 rcases e:G[i]with l|l|l|l
 ·rw[e]at r;obtain⟨_,e,_⟩:=r;exact I.hok.lt e
 ·
   rw[e]at r
   obtain⟨ws,e,_⟩:=r
   rcases e with⟨o,e⟩|e
   ·exact I.hok.lt e
   · rcases e with(e|⟨o,e⟩)|⟨o,its,n,e,_⟩
     ·exact t6 e
     ·exact t6 e
     ·exact zl (I.kIn a o e)
 ·rw[e]at r;obtain⟨_,e,_⟩:=r;exact I.hok.lt e
 ·rw[e]at r;obtain⟨_,_,e,_⟩:=r;exact I.hok.lt e
end
def PTs(X:Cx)(ifs:List Expr)(t:TT):Prop:=
 ∀(pins:PNS) (s:zm) (U:St) (H:Hp) (Q:Bool->Hp->Prop),Inv X pins U H s->t U H Q->
  zt (zB X.prog X.w) X.A (forIn ifs true λc r=>if r=true then do let ok <-isTrue c X.env (eval c X.env);pure (ForInStep.yield ok)else pure (ForInStep.yield r)) (TP X pins U Q) X.xe s
structure DTs(X:Cx)(Z:XC)(ifs:List Expr)(f:DSt->M Bool):Prop where
 h:PTs X ifs (bB5 (wc X) Z f)
def U6:DSt->M Bool:=λ_=>pure true
theorem dO6:DTs X Z [] U6:=⟨λpins s U H Q I hE0=>hE0.elim λX9 μ G sr h p=>wpAny_tests_nil ⟨H,I,c7.ok p h⟩⟩
def K9(g:Fg)(t:DSt->M Bool)(e:Fe)(ck:DH->Bool):List D->DSt->M (List D)
 |[]=>λ_ G=>if ck G then some (.ok [],G)else none
 | d :: r => λU G => if ck G then (do
    let WZ <-g d U
    if <-t WZ then do
     let y <-e WZ
     let ys <-K9 g t e ck r WZ
     pure (y::ys)
    else K9 g t e ck r WZ:M (List D)) G else none
def R1(it:DSt->M Src)(caps:List (Option Nat))(g:Fg)(t:DSt->M Bool)(e:Fe):Fe:=λU=>do
 let s <-it U
 if s.items.length<=zd then do
  let ys <-noX (K9 g t e s.ck s.items (W6 caps U))
  M4 (.lst ys)
 else M.stuck
theorem cP6(h:G9 c μ H X9 U):G9 c μ H (W6 caps X9) (W6 caps U):=by
 refine⟨by simp[W6],λi d e=>?_⟩
 obtain⟨j,e1,e2⟩:=bI7 e
 obtain⟨v,e3,r⟩:=h.2 j d e2
 refine⟨v,?_,r⟩
 unfold W6
 rw[jk,e1]
 simp[e3]
section
set_option maxHeartbeats 1000000 in
def CKV(c:Wc)(Q:VK)(d:D)(X2:List Addr)(_:DH)(H':Hp):Prop:=∀v,d7 c X2 H' d v->Q v H'
def CKR(c:Wc)(Z:XC)(Q:VK)(ys j9:List D)(μ:List Addr)(G:DH)(H:Hp):Prop:=c7 c Z μ H (M4 (.lst (ys++j9)) G) (CKV c Q)
def dX8(gg:Fg)(tt:DSt->M Bool)(fe:Fe)(ck:DH->Bool)(items:List D)(U:DSt)(y:D):M (List D):=do let ys <-K9 gg tt fe ck items U;pure (y::ys)
def cH3(gg:Fg)(tt:DSt->M Bool)(fe:Fe)(ck:DH->Bool)(items:List D)(U:DSt)(b:Bool):M (List D):=if b=true then (do let y <-fe U;let ys <-K9 gg tt fe ck items U;pure (y::ys))else K9 gg tt fe ck items U
def eJ7(gg:Fg)(tt:DSt->M Bool)(fe:Fe)(ck:DH->Bool)(items:List D)(U:DSt):M (List D):=do if <-tt U then do {let y <-fe U;let ys <-K9 gg tt fe ck items U;pure (y::ys)}else K9 gg tt fe ck items U
inductive CG(X:Cx)(Z:XC)(Q:VK)(vs:List V)(DD:Addr)(ys:List D)(X2:List Addr)(H5:Hp)(m:DSt->M (List D))(WR:St)(H6:Hp):Prop
 |mk (WU:DSt) (μ6:List Addr) (G6:DH) (s:G9 (wc X) μ6 H6 WU WR) (h:o5 (wc X) μ6 G6 H6) (u:UH (wc X) DD vs X2 H5 (λX9 μ G H=>c7 (wc X) ZF μ H (m X9 G) (CKR (wc X) Z Q ys)) WU μ6 G6 H6)
inductive CT(X:Cx)(Z:XC)(Q:VK)(vs:List V)(DD:Addr)(ys:List D)(WU:DSt)(WR:St)(μ6:List Addr)(H6:Hp)(m:Bool->M (List D))(b:Bool)(H7:Hp):Prop
 |mk (WN:List Addr) (G7:DH) (s:G9 (wc X) WN H7 WU WR) (h:o5 (wc X) WN G7 H7) (u:UH (wc X) DD vs μ6 H6 (λb μ G H=>c7 (wc X) ZF μ H (m b G) (CKR (wc X) Z Q ys)) b WN G7 H7)
inductive CE(X:Cx)(Z:XC)(Q:VK)(vs:List V)(DD:Addr)(ys:List D)(WU:DSt)(WR:St)(WN:List Addr)(H7:Hp)(m:D->M (List D))(v:V)(H8:Hp):Prop
 |mk (y:D) (μ8:List Addr) (G8:DH) (r:d7 (wc X) μ8 H8 y v) (s:G9 (wc X) μ8 H8 WU WR) (h:o5 (wc X) μ8 G8 H8) (u:UH (wc X) DD vs WN H7 (λy μ G H=>c7 (wc X) ZF μ H (m y G) (CKR (wc X) Z Q ys)) y μ8 G8 H8)
inductive eM0(Y:Cx)(Z:XC)(Q:VK)(gg:Fg)(tt:DSt->M Bool)(fe:Fe)(src:Src)(fp:List Addr)(tn:Nat->Heap->Prop)(DD:Addr)(WX:List Addr)(H2:Hp)(n:Nat)(s':zm):Prop
 |mk (i:Nat) (ys:List D) (vs:List V) (X1:St) (H':Hp) (WW:DSt) (X2:List Addr) (G':DH) (e:n=src.items.length-i) (hi:i<=src.items.length) (hv:vs.length<=i)
    (I:Inv Y [] X1 H' s') (st:tn i s'.heap) (fr:∀b∈fp,H' b=none) (hs:H' DD=some (.lst vs)) (nD:DD∉X2)
    (x:Ext WX H2 X2 (hide DD H')) (h:o5 (wc Y) X2 G' (hide DD H')) (sr:G9 (wc Y) X2 (hide DD H') WW X1) (rl:m6 (wc Y) X2 (hide DD H') ys vs)
    (p:c7 (wc Y) ZF X2 (hide DD H') (K9 gg tt fe src.ck (src.items.drop i) WW G') (CKR (wc Y) Z Q ys))
theorem cQ5{Y:Cx}{Q:VK}{src:Src}{tn:Nat->Heap->Prop}{DD it:Addr}{H2:Hp}{J:It}{R:Result->zm->Prop}(hcX:Y.calm=true)(hg:DG Y ZF tg gg)(ht:DTs Y ZF ifs tt)(he:DE Y ZF elt fe)(T:bC7 Y.prog Y.w Y.K tg J fp it tn)
 (fpX:∀(H':Hp) (b:Addr),b∈fp->H' b=none->aK2 Y [] H' b) (hJ:ItD (wc Y) WX H2 J src) (hlen:src.items.length<=zd) (fin:∀(H':Hp) (X1:St) (s4:zm),Inv Y [] X1 H' s4->Q (.ref DD) H'->R (.ok .next) s4) (n:Nat) (s':zm) (h:eM0 Y Z Q gg tt fe src fp tn DD WX H2 n s') {NX:zm->Prop} (nx:∀m s,m<n->eM0 Y Z Q gg tt fe src fp tn DD WX H2 m s->NX s):
 zt (zB Y.prog Y.w) Y.A (Yq (.ref it)) (λr W1=>match r with
  |none=>R (.ok .next) W1
  | some v => zt (zB Y.prog Y.w) Y.A (xo tg (.ref it) v) (λ_ s₁' => zt (zB Y.prog Y.w) Y.A (Zg tg Y.env v) (λ_ s₂ =>
     zt (zB Y.prog Y.w) Y.A (forIn ifs true λc r=>if r=true then do let ok <-isTrue c Y.env (eval c Y.env);pure (ForInStep.yield ok)else pure (ForInStep.yield r)) (λok s₃=>
      if ok=true then zt (zB Y.prog Y.w) Y.A (eval elt Y.env) (λx s₄=>
       zt (zB Y.prog Y.w) Y.A (call (.builtin "list.append") [.ref DD,x]) (λ_ s₅=>NX s₅) Y.xe s₄) Y.xe s₃
      else NX s₃) Y.xe s₂) Y.xe s₁') Y.xe W1) Y.xe s':=by
 obtain⟨i,ys,vs,X1,H',WW,X2,G',rfl,hi',hvl,I',st',fr',hvs,nD',x',h',sr',rl,p'⟩:=h
 by_cases hlt:i<src.items.length
 · rw[yY hlt]at p'
   unfold K9 at p'
   split at p'
   case isFalse=>exact p'.elim
   rename_i ck
   obtain⟨q1,_⟩:=hJ X2 G' H' x'.unhide h'.unhide ck i
   obtain⟨go,yl⟩:=q1 _ (zv hlt)
   refine thn (T.item (Y) rfl rfl rfl hcX i [] s' X1 H' Y.xe I' (λb hb=>fpX H' b hb (fr' b hb)) st' go) λr s4 z4=>?_
   obtain⟨u,rfl,h4⟩:=z4
   refine thn h4 λ_ s5 z5=>?_
   obtain⟨x,H5,I5,r5,y5,st5,fr5⟩:=z5
   obtain⟨k5,h5,rx5⟩:=yl x H5 y5
   obtain⟨e5,n5,k5'⟩:=k5.hide nD' hvs
   have I5':=I5.pinned (λb hb=>fpX H5 b hb (fr5 b hb)) (T.obj _ _ st5)
   have keepIt:∀ {WQ:St} {H7:Hp} {s7:zm},Inv (Y) ([]++bC6 fp s5.heap) WQ H7 s7->Inv (Y) [] WQ H7 s7/\tn (i+1) s7.heap/\∀b∈fp,H7 b=none:=λ{WQ H7 s7} I7=>by
    refine⟨I7.unpinned,T.keep _ _ _ st5 λb hb o e=>(I7.pin (b,o) (zR _ (zR _ (aE1 hb e)))).1,λb hb=>?_⟩
    obtain⟨o,e,d⟩:=T.obj _ _ st5 b hb
    exact(I7.pin (b,o) (zR _ (zR _ (aE1 hb e)))).2.1
   have p5:=c7.unhide (Z:=ZF) n5 e5 (c7.bind (p'.from k5'))
   refine thn (hg.h _ s5 X1 H5 x u _ I5' r5 ⟨_,WW,X2,G',rx5,(sr'.mono k5').sq aD1,h5,p5.mono λWU μ6 G6 H6 x6 h6 q6 WR sr6=>(⟨WU,μ6,G6,sr6,h6,q6⟩:CG Y Z Q vs DD ys X2 H5 (eJ7 gg tt fe src.ck (src.items.drop (i+1))) WR H6)⟩) λ_ s6 z6=>?_
   obtain⟨WR,H6,I6,WU,μ6,G6,sr6,h6,e6,n6,hh6,x6,p6⟩:=z6
   have p6':=c7.unhide (Z:=ZF) n6 e6 (c7.bind p6)
   refine thn (ht.h _ s6 WR H6 (CT Y Z Q vs DD ys WU WR μ6 H6 (cH3 gg tt fe src.ck (src.items.drop (i+1)) WU)) I6 ⟨WU,μ6,G6,sr6,h6,p6'.mono λb WN G7 H7 x7 h7 q7=>⟨WN,G7,sr6.mono x7,h7,q7⟩⟩) λb s7 z7=>?_
   obtain⟨H7,I7,WN,G7,sr7,h7,e7,n7,hh7,x7,p7⟩:=z7
   unfold cH3 at p7
   have x27:Ext WX H2 WN (hide DD H7):=x'.trans (k5'.trans (x6.trans x7))
   have rl7:m6 (wc Y) WN (hide DD H7) ys vs:=rl.mono (k5'.trans (x6.trans x7))
   rcases b with _|_
   ·
     rw[if_neg zJ]at p7 ⊢
     obtain⟨I8,st8,fr8⟩:=keepIt I7
     exact nx _ _ (Zz _ _ hlt) ⟨i+1,ys,vs,WR,H7,WU,WN,G7,rfl,hlt,Nat.le_succ_of_le hvl,I8,st8,fr8,e7,n7,x27,hh7,sr7.sq (aD0 e7),rl7,p7⟩
   ·
     rw[if_pos rfl]at p7 ⊢
     have p7':=c7.unhide (Z:=ZF) n7 e7 (c7.bind p7)
     refine thn (he.h _ s7 WR H7 (CE Y Z Q vs DD ys WU WR WN H7 (dX8 gg tt fe src.ck (src.items.drop (i+1)) WU)) I7 ⟨WU,WN,G7,sr7,h7,p7'.mono λy μ8 G8 H8 x8 h8 q8 v rv=>⟨y,μ8,G8,rv,sr7.mono x8,h8,q8⟩⟩) λyu s8 z8=>?_
     obtain⟨yv,H8,I8,ry,y,μ8,G8,ryd,sr8,h8,e8,n8,hh8,x8,p8⟩:=z8
     unfold dX8 at p8
     refine thn (bI6 _ s8 WR H8 (.ref DD) [yv] (.ref DD) [yu] (λ_ H9=>H9=upd H8 DD (.lst (vs++[yv]))) I8 rfl (.cons ry .nil) ⟨DD,vs,yv,rfl,rfl,e8,by lia,rfl⟩) λ_ s9 z9=>?_
     obtain⟨_,H9,I9,_,rfl⟩:=z9
     obtain⟨I10,st10,fr10⟩:=keepIt I9
     have hd9:hide DD (upd H8 DD (.lst (vs++[yv])))=hide DD H8:=aL2
     refine nx _ _ (Zz _ _ hlt) ⟨i+1,ys++[y],vs++[yv],WR,_,WU,μ8,G8,rfl,hlt,by rw[ze];exact Nat.succ_le_succ hvl,I10,st10,fr10,M5,n8,?_,?_,?_,?_,?_⟩
     ·rw[hd9];exact x27.trans x8
     ·rw[hd9];exact hh8
     ·rw[hd9];exact sr8.sq (aD0 e8)
     ·rw[hd9];exact(rl7.mono x8).append ⟨yv, [],rfl,ryd.sq (aD0 e8),rfl⟩
     · rw[hd9]
       refine(c7.bind p8).mono λj9 μ'' G'' H'' x'' h'' q''=>?_
       have q3:=c7.ok q'' h''
       show c7 (wc Y) Z μ'' H'' (M4 (.lst (ys++[y]++j9)) G'') (CKV (wc Y) Q)
       rw[zH]
       exact q3
 · have e:i=src.items.length:=by lia
   subst e
   rw[List.drop_length]at p'
   unfold K9 at p'
   split at p'
   case isFalse=>exact p'.elim
   rename_i ck
   obtain⟨_,q2⟩:=hJ X2 G' H' x'.unhide h'.unhide ck src.items.length
   refine thn (T.done (Y) rfl rfl rfl hcX src.items.length [] s' X1 H' Y.xe I' (λb hb=>fpX H' b hb (fr' b hb)) st' (q2 (zj _))) λr s4 ⟨hr,I4⟩=>?_
   subst hr
   have p9:c7 (wc Y) Z X2 (hide DD H') (M4 (.lst (ys++[])) G') (CKV (wc Y) Q):=c7.ok p' h'
   rw[jC]at p9
   have q9:=R8 (q:=DD) h' rl p9 aC6
   rw[cV4 hvs]at q9
   exact fin H' X1 s4 I4 q9
theorem bI8{use:Option (zg->Sem Unit)}{Q:VK}{ps:Pos}{pins:PNS}{s:zm}{U:St}{H:Hp}{X9:DSt}{G:DH}(hc:X.calm=true)(hi:DI X Z tg iter it)(k:W9 X scope N caps)
 (hg:∀C s H ex,DG (O1 X scope N C s H ex) ZF tg gg) (ht:∀C s H ex,DTs (O1 X scope N C s H ex) ZF ifs tt) (he:∀C s H ex,DE (O1 X scope N C s H ex) ZF elt fe)
 (hs:∀x,yq iter X.env x=pure x) (I:Inv X pins U H s) (sr:G9 (wc X) μ H X9 U) (hr:o5 (wc X) μ G H) (p:c7 (wc X) Z μ H (R1 it caps gg tt fe X9 G) λd X2 _ H'=>∀v,d7 (wc X) X2 H' d v->Q v H')
 (fin:∀(DD C:Addr) (s4:zm) (H':Hp) m (o:Flow),s4.heap.Ns C m->(∀h'',xp C s4.heap h''->Inv X pins U H' {s4 with heap:=h''})->H' C=none->(∀H9:Hp,H9 C=none->aK2 X pins H9 C)->Q (.ref DD) H'->compPost (zB X.prog X.w) X.A X.xe use PQ (.ref DD) C (.ok o) s4):
 zt (zB X.prog X.w) X.A (comprehension (.ListComp elt [⟨tg,iter,ifs,0⟩] scope pos) scope X.env ps (newList []) false (eval iter X.env) use) PQ X.xe s:=by
 replace p:c7 (wc X) Z μ H (R1 it caps gg tt fe X9 G) (CKV (wc X) Q):=p
 have p1:=c7.bind p
 refine wpAny_comprehension_free rfl hs (aT9 (k.cells I.ok)) k.kind k.names ?_
 refine thn (hi.h pins s U H (λJ H1=>∃src X0 G1,Ext μ H X0 H1/\o5 (wc X) X0 G1 H1/\ItD (wc X) X0 H1 J src/\
  c7 (wc X) Z X0 H1 ((if src.items.length<=zd then (do let ys <-noX (K9 gg tt fe src.ck src.items (W6 caps X9));M4 (.lst ys))else M.stuck:M D) G1) (CKV (wc X) Q))
  I ⟨X9,μ,G,sr,hr,p1.mono λsrc X0 G1 H1 x1 h1 p1 J hJ=>⟨src,X0,G1,x1,h1,hJ,p1⟩⟩) λv s1 q1=>thn q1 λitv s2 q2=>?_
 obtain⟨itA,fp,tn,J,H2,rfl,I2,T,st2,f2,src,WX,G2,x2,h2,hJ,p2⟩:=q2
 split at p2
 case isFalse=>exact p2.elim
 rename_i hlen
 have hfp:∀b∈fp,b<s2.heap.objs.size:=λb hb=>by obtain⟨o,e,_⟩:=T.obj _ _ st2 b hb;exact zl e
 refine jq (wpAny_newFunctionEnv k.cell (by intro y hy;simp at hy) (λh₁ hns₁ hsb₁=>?_) k.kind)
 dsimp only at hns₁ hsb₁ ⊢
 generalize hHP:s2.heap.push {cls:=.type "list",dict:=none,data:=.seq ([]:List zg).toArray}=HP at hns₁ hsb₁ ⊢
 have hC:HP.objs.size=s2.heap.objs.size+1:=by rw[<-hHP,yf]
 have hCl:s2.heap.objs.size<HP.objs.size:=by rw[hC];exact yW _
 have hDC:s2.heap.objs.size≠HP.objs.size:=zE hCl
 have old:∀b o,s2.heap.get? b=some o->h₁.get? b=some o:=λb o e=>hsb₁.extBut b o (by have:=zl e;exact zE (Ye this hCl)) (zf _ (hHP▸zf _ e))
 have hacc:h₁.get? s2.heap.objs.size=some {cls:=.type "list",data:=.seq ([]:List zg).toArray 0}:=hsb₁.extBut _ _ hDC (zf _ (hHP▸zq _ rfl))
 have hD:H2 s2.heap.objs.size=none:=I2.hok.fresh (zj _)
 have nD:s2.heap.objs.size∉WX:=λz=>yJ _ (h2.mem_lt I2 z)
 have st1:tn 0 h₁:=T.keep _ _ _ st2 λb _ o e=>old b o e
 have fpX:∀(H':Hp) (b:Addr),b∈fp->H' b=none->aK2 (O1 X scope N HP.objs.size s2 H2 fp) [] H' b:=λH' b hb hn=>
  ⟨hn,zE (Ye (hfp b hb) hCl),λz=>by
   rcases zi.mp (I2.stkSub b z)with e|e
   ·exact(f2 b hb).2.1 e
   ·exact(f2 b hb).2.2.1 e,.inl hb,λx c e=>(f2 b hb).2.2.2.2.1 x c (S7 e),λp hp=>absurd (show p∈([]:PNS)from hp) (by simp)⟩
 have hcX:(O1 X scope N HP.objs.size s2 H2 fp).calm=true:=hc
 have p3:=bW9 (c7.bind p2)
 generalize hDD:s2.heap.objs.size=DD at *
 have loop:∀s₃:zm,s₃= {s2 with heap:=h₁,toks:=s2.toks+([]:List (Str×zg)).length}->
  ZW (zB X.prog X.w) X.A (.compLoop (.ListComp elt [⟨tg,iter,ifs,0⟩] scope pos) 0 (.ref itA) (.ref DD) (compEnvC scope (aG8 X.env scope.names []) HP.objs.size X.env))
   (compPost (zB X.prog X.w) X.A X.xe use PQ (.ref DD) HP.objs.size) s₃:=by
  rintro s₃ rfl
  refine bN7 (eM0 (O1 X scope N HP.objs.size s2 H2 fp) Z Q gg tt fe src fp tn DD WX H2) (λn s' h=>cQ5 hcX (hg _ _ _ _) (ht _ _ _ _) (he _ _ _ _) T fpX hJ hlen (λH' X1 s4 I4 q9=>?_) n s' h λm s h1 h2=>⟨m,h1,h2⟩) src.items.length
   ⟨0, [], [],W6 caps U,upd H2 DD (.lst []),W6 caps X9,WX,G2,rfl,jV _,zj _,?_,st1,λb hb=>?_,M5,nD,?_,?_,?_,rfl,?_⟩
  · obtain⟨m,hn,_⟩:=I4.loc
    exact fin DD HP.objs.size s4 H' m _ hn (λh'' sb=>dJ1 I2 (λb hb=>f2 b hb) (by rw[hDD];exact hCl) I4 sb) I4.free (λH9 hn9=>I2.fpOk (by rw[hDD];exact yX hCl) hn9) q9
  · have:=cB9 (tk:=s2.toks+([]:List (Str×zg)).length) I2 k (by rw[hDD];exact hCl) f2 (λb hb=>by rw[hDD];exact hfp b hb) old hns₁ (by rw[hDD];exact hacc)
    rw[hDD]at this
    exact this
  ·rw[o9 (zE (hfp b hb))];exact(f2 b hb).1
  ·rw[aL2,aN6 hD];exact Ext.refl _ _
  ·rw[aL2,aN6 hD];exact h2
  ·rw[aL2,aN6 hD];exact cP6 (sr.mono x2)
  · rw[aL2,aN6 hD,List.drop_zero]
    exact p3
 exact codeAny_compStart_list (loop _ rfl) (T.self _ 0 _ _ _ st1 (loop _ rfl))
theorem dR0(hc:X.calm=true)(hi:DI X Z tg iter it)(k:W9 X scope N caps)
 (hg:∀C s H ex,DG (O1 X scope N C s H ex) ZF tg gg) (ht:∀C s H ex,DTs (O1 X scope N C s H ex) ZF ifs tt) (he:∀C s H ex,DE (O1 X scope N C s H ex) ZF elt fe)
 (hs:∀x,yq iter X.env x=pure x):DE X Z (.ListComp elt [⟨tg,iter,ifs,0⟩] scope pos) (R1 it caps gg tt fe):=⟨by
 intro pins s U H Q I hE0
 refine hE0.elim λX9 μ G sr hr p=>?_
 rw[eval_ListComp]
 exact bI8 hc hi k hg ht he hs I sr hr p λDD C s4 H' m o hn fin _ _ q9=>⟨m,hn,λh'' sb=>⟨.ref DD,H',fin h'' sb,rfl,q9⟩⟩⟩
end
noncomputable def N5(r:Nat):M DO:=λG=>match G[r]? with
 |some o=>some (.ok o,G)
 |none=>none
def listOf:DO->M (List D)
 | .lst l=>pure l
 | .rol l=>pure l
 | .dct _=>M.stuck
 | .rod _=>M.stuck
def eZ2:D->M (List D)
 | .tup l=>pure l
 | .ref r=>N5 r >>= listOf
 |_=>M.stuck
def aJ5{α:Type}:Option α->M α
 |some a=>pure a
 |none=>M.stuck
section
theorem IxR.mono(h:IxR X r)(k:∀x y H Q,r' x y H Q->r x y H Q):IxR X r':=λva sl pins s U H x y v u Q I rx ry q hs=>h va sl pins s U H x y v u Q I rx ry (k x y H Q q) hs
theorem K6{f:DO->M α}{K:α->List Addr->DH->Hp->Prop}(p:c7 c Z μ H ((N5 r >>= f) G) K):∃o,G[r]? =some o/\c7 c Z μ H (f o G) K:=by
 rw[M.bind_eq]at p
 unfold N5 at p
 rcases e:G[r]? with _|o
 ·rw[e]at p;exact p.elim
 ·rw[e]at p;exact⟨o,rfl,p⟩
theorem Z1{r:Option β}{f:β->M α}{K:α->List Addr->DH->Hp->Prop}(p:c7 c Z μ H ((aJ5 r >>= f) G) K):∃o,r=some o/\c7 c Z μ H (f o G) K:=by
 rcases r with _|o
 ·exact p.elim
 ·exact⟨o,rfl,p⟩
theorem aN0{f:List D->M α}{K:α->List Addr->DH->Hp->Prop}(h:o5 c μ G H)(r:d7 c μ H d v)(p:c7 c Z μ H ((eZ2 d >>= f) G) K):
 ∃l a vs,v= .ref a/\m6 c μ H l vs/\c7 c Z μ H (f l G) K/\((d= .tup l/\SqT c.K H a vs)\/(∃i,d= .ref i/\μ[i]? =some a/\((G[i]? =some (.lst l)/\H a=some (.lst vs))\/(G[i]? =some (.rol l)/\RoL c.K H a vs)))):=by
 rcases d with _|_|_|_|l|i|_|_<;>try (exact p.elim;done)
 ·
   unfold d7 at r
   obtain⟨a,vs,e,q,rl⟩:=r
   exact⟨l,a,vs,e,rl,p,.inl ⟨rfl,q⟩⟩
 ·
   unfold d7 at r
   obtain⟨a,m,e⟩:=r
   have p':c7 c Z μ H ((N5 i >>= λo=>listOf o >>= f) G) K:=by rw[<-M.bind_assoc];exact p
   obtain⟨o,g,p2⟩:=K6 p'
   have ro:=h.obj i o a g m
   rcases o with l|l|l|l
   ·obtain⟨vs,q,rl⟩:=ro;exact⟨l,a,vs,e,rl,p2,.inr ⟨i,rfl,m,.inl ⟨g,q⟩⟩⟩
   ·obtain⟨vs,q,rl⟩:=ro;exact⟨l,a,vs,e,rl,p2,.inr ⟨i,rfl,m,.inr ⟨g,q⟩⟩⟩
   ·exact p2.elim
   ·exact p2.elim
theorem aA4(r:d7 c μ H (.int i) v):v= .int i:=by unfold d7 at r;exact r
theorem aE6(r:d7 c μ H (.str i) v):v= .str i:=by unfold d7 at r;exact r
theorem bG2(r:d7 c μ H (.bl i) v):v= .bl i:=by unfold d7 at r;exact r
theorem dE2(r:d7 c μ H .non v):v= .non:=by unfold d7 at r;exact r
theorem ofI:d7 c μ H (.int i) (.int i):=by unfold d7;rfl
theorem ofS:d7 c μ H (.str i) (.str i):=by unfold d7;rfl
theorem ofB:d7 c μ H (.bl i) (.bl i):=by unfold d7;rfl
theorem ofN:d7 c μ H .non .non:=by unfold d7;rfl
def bZ0(g:Int->Int->M D):D->D->M D:=λx y=>match x,y with
 | .int i,.int j=>g i j
 |_,_=>M.stuck
theorem bP5[∀i j,Decidable (C i j)]{g:Int->Int->Int}(h:OpR X f (rI C λi j=>.int (g i j))):OpD X Z f (bZ0 λi j=>if C i j then pure (.int (g i j))else M.stuck):=
 OpD.of h λx y H Q hE0=>hE0.elim λdx dy μ G rx ry hr p=>by
  rcases dx with _|_|_|_|_|_|_|_<;>rcases dy with _|_|_|_|_|_|_|_<;>first
   |exact p.elim
   |skip
  rename_i i j
  unfold bZ0 at p
  dsimp only at p
  split at p
  · rename_i hc
    exact⟨i,j,aA4 rx,aA4 ry,hc,c7.ok p hr _ ofI⟩
  ·exact p.elim
theorem dJ3{g:Int->Int->Int}(h:OpR X f (rI0 λi j=>.int (g i j))):OpD X Z f (bZ0 λi j=>pure (.int (g i j))):=
 OpD.of h λx y H Q hE0=>hE0.elim λdx dy μ G rx ry hr p=>by
  rcases dx with _|_|_|_|_|_|_|_<;>rcases dy with _|_|_|_|_|_|_|_<;>first
   |exact p.elim
   |exact⟨_,_,aA4 rx,aA4 ry,c7.ok p hr _ ofI⟩
def aO1:D->D->M D:=bZ0 λi j=>pure (.int (i-j))
theorem eL8:OpD X Z (jL .Sub) aO1:=dJ3 dH3
noncomputable instance (i j:Int):Decidable (bI1 i j):=by unfold bI1;infer_instance
noncomputable def bL6(_ j:Int):Prop:=0<j/\j<2 ^ 100
noncomputable instance (i j:Int):Decidable (bL6 i j):=by unfold bL6;infer_instance
theorem cZ9:OpR X (jL .FloorDiv) (rI bL6 λi j=>.int (i / j)):=opI λi j _ _ _ _ _ hc q=>by
 have h1:(0:Int)<j:=hc.1
 have h2:j<2 ^ 100:=hc.2
 refine floordiv_int (by lia) (by rw[Int.fdiv_eq_ediv_of_nonneg i (by lia)];exact q) (.inl (PyProof.noPylong_of_log2 ?_))
 have h3:j.natAbs<2 ^ 100:=by lia
 have h4:j.natAbs≠0:=by lia
 have:=(Nat.log2_lt h4).mpr h3
 lia
def bM0:D->D->M D:=bZ0 λi j=>if bL6 i j then pure (.int (i / j))else M.stuck
theorem dL7:OpD X Z (jL .FloorDiv) bM0:=bP5 cZ9
def bF0:D->D->M D:=bZ0 λi j=>if 0<j then pure (.int (i % j))else M.stuck
theorem eL3:OpD X Z (jL .Mod) bF0:=bP5 eK7
noncomputable instance (i j:Int):Decidable (cN6 i j):=by unfold cN6;infer_instance
def dA3:D->D->M D:=bZ0 λi j=>if cN6 i j then pure (.int (i ^ j.toNat))else M.stuck
theorem eG8:OpD X Z (jL .Pow) dA3:=bP5 dG3
theorem cU4{w:zN}{s:zm}{t b:Addr}{ws:List zg}(ht:XM s.heap t #[])(hb:XM s.heap b ws.toArray)
 (h1:Q (.ref b) s):zt (zB prog w) A (jL .Add (.ref t) (.ref b)) Q E s:=by
 obtain⟨⟨cls,dd,data,sl⟩,ho,hc,n,hd⟩:=id ht
 obtain⟨⟨cls2,dd2,data2,sl2⟩,ho2,hc2,n2,hd2⟩:=id hb
 simp only at hc hd hc2 hd2
 subst hc hd hc2 hd2
 exact JP ⟨_,ho,rfl⟩ ⟨_,ho2,rfl⟩ YU Jh xZ xT (xP _ _)
  (tuple_addW0 t b #[] ws.toArray n n2 dd dd2 sl sl2 (by simp)) ⟨ho,ho2,h1⟩
def eK1(K:zc):R2:=λx y H Q=>∃a b ys,x= .ref a/\y= .ref b/\SqT K H a []/\SqT K H b ys/\Q (.ref b) H
theorem cW8:OpR X (jL .Add) (eK1 X.K):=by
 intro pins s U H x y v u Q I rx ry h
 obtain⟨a,b,ys,rfl,rfl,ha,hb,q⟩:=h
 cases rx
 cases ry
 obtain⟨its,r,p,_⟩:=I.tuple ha
 obtain⟨its2,r2,p2,_⟩:=I.tuple hb
 cases r
 exact cU4 p p2 ⟨.ref b,H,I,rfl,q⟩
def addD:D->D->M D:=λx y=>match x,y with
 | .int i,.int j=>pure (.int (i+j))
 | .str a,.str b=>if a.length+b.length<=zd then pure (.str (a++b))else M.stuck
 | .tup a,.tup b=>if a.length+b.length<=zd then pure (.tup (a++b))else M.stuck
 | .ref i,.ref j=>do
   match <-N5 i,<-N5 j with
   | .lst a,.lst b=>if a.length+b.length<=zd then M4 (.lst (a++b))else M.stuck
   |_,_=>M.stuck
 |_,_=>M.stuck
theorem aV1{Q:VK}(h:o5 c μ G H)(q:SqT c.K H a vs)(r:m6 c μ H xs vs)
 (p:c7 c Z μ H (some (Except.ok (.tup xs),G)) λd X2 _ H'=>∀v,d7 c X2 H' d v->Q v H'):Q (.ref a) H:=c7.ok p h _ (by unfold d7;exact⟨a,vs,rfl,q,r⟩)
theorem eM6:OpD X Z (jL .Add) addD:=
 OpD.of (OpR.or eD3 (OpR.or cE2 (OpR.or dR5 (OpR.or cW8 eC8)))) λx y H Q hE0=>hE0.elim λdx dy μ G rx ry hr p=>by
  rcases dx with _|_|_|_|_|_|_|_<;>rcases dy with _|_|_|_|_|_|_|_<;>first
   |exact p.elim
   |skip
  ·exact .inl ⟨_,_,aA4 rx,aA4 ry,c7.ok p hr _ ofI⟩
  · rename_i a b
    refine .inr (.inl ?_)
    unfold addD at p
    dsimp only at p
    split at p
    · rename_i hz
      exact⟨a,b,aE6 rx,aE6 ry,hz,c7.ok p hr _ ofS⟩
    ·exact p.elim
  · rename_i a b
    unfold d7 at rx ry
    obtain⟨ax,vx,rfl,qx,lx⟩:=rx
    obtain⟨ay,vy,rfl,qy,ly⟩:=ry
    unfold addD at p
    dsimp only at p
    split at p
    · rename_i hz
      by_cases hv:vx= []
      · subst hv
        rcases a with _|⟨_,_⟩
        ·exact .inr (.inr (.inr (.inl ⟨ax,ay,vy,rfl,rfl,qx,qy,aV1 hr qy ly p⟩)))
        ·obtain⟨_,_,z,_⟩:=lx;cases z
      · refine .inr (.inr (.inl ⟨ax,ay,vx,vy,rfl,rfl,qx,qy,hv,by rw[<-lx.length,<-ly.length];exact hz,?_⟩))
        refine⟨λhy=>?_,λhy q hq=>aL6 hr (lx.append ly) p q hq⟩
        subst hy
        refine aV1 hr qx ?_ p
        rcases b with _|⟨_,_⟩
        ·rw[jC];exact lx
        ·obtain⟨_,_,z,_⟩:=ly;cases z
    ·exact p.elim
  · rename_i i j
    unfold d7 at rx ry
    obtain⟨ax,mx,rfl⟩:=rx
    obtain⟨ay,my,rfl⟩:=ry
    obtain⟨ox,gx,p⟩:=K6 p
    obtain⟨oy,gy,p⟩:=K6 p
    have hx:=hr.obj i ox ax gx mx
    have hy:=hr.obj j oy ay gy my
    rcases ox with _|_|_|_<;>rcases oy with _|_|_|_<;>first
     |exact p.elim
     |skip
    obtain⟨vx,ex,lx⟩:=hx
    obtain⟨vy,ey,ly⟩:=hy
    dsimp only at p
    split at p
    · rename_i hz
      exact .inr (.inr (.inr (.inr ⟨ax,ay,vx,vy,rfl,rfl,ex,ey,by rw[<-lx.length,<-ly.length];exact hz,λq hq=>R8 hr (lx.append ly) p q hq⟩)))
    ·exact p.elim
end
noncomputable def K3(G:DH):D->Option (Bool×List D)
 | .tup l=>some (true,l)
 | .ref i=>match G[i]? with
   |some (.lst l)=>some (false,l)
   |some (.rol l)=>some (false,l)
   |_=>none
 |_=>none
noncomputable def T9:D->Bool
 | .non=>true
 | .bl _=>true
 | .int _=>true
 | .str _=>true
 |_=>false
def eqS:D->D->Option Bool
 | .non,.non=>some true
 | .bl a,.bl b=>some (a==b)
 | .int a,.int b=>some (a==b)
 | .str a,.str b=>some (a==b)
 | .bl a,.int b=>some ((if a then (1:Int)else 0)==b)
 | .int a,.bl b=>some (a==(if b then (1:Int)else 0))
 |x,y=>if T9 x&&T9 y then some false else none
noncomputable def eqL(f:D->D->Option Bool):List D->List D->Option Bool
 |[], []=>some true
 |[],_::_=>some false
 |_::_, []=>some false
 |x::xs,y::ys=>match f x y,eqL f xs ys with
   |some e,some r=>some (e&&r)
   |_,_=>none
def eqN:Nat->DH->D->D->Option Bool
 |0,_,_,_=>none
 |n+1,G,x,y=>match K3 G x,K3 G y with
   |some (k1,a),some (k2,b)=>if k1=k2 then (if k1=false/\a.length≠b.length then some false else eqL (eqN n G) a b)else some false
   |some _,none=>if T9 y then some false else none
   |none,some _=>if T9 x then some false else none
   |none,none=>eqS x y
theorem cF5:eqN (n+1) G x y=match K3 G x,K3 G y with
 |some (k1,a),some (k2,b)=>if k1=k2 then (if k1=false/\a.length≠b.length then some false else eqL (eqN n G) a b)else some false
 |some _,none=>if T9 y then some false else none
 |none,some _=>if T9 x then some false else none
 |none,none=>eqS x y:=rfl
theorem dA2:eqL f (x::xs) (y::ys)=match f x y,eqL f xs ys with
 |some e,some r=>some (e&&r)
 |_,_=>none:=rfl
theorem bM4:∀a b r,eqL f a b=some r->(∀j x y,a[j]? =some x->b[j]? =some y->f x y=some (e j))->r= ((ja (min a.length b.length)).all e&&a.length==b.length)
 |[], [],r,h,_=>by cases h;rfl
 |[],_::_,r,h,_=>by cases h;simp
 |_::_, [],r,h,_=>by cases h;simp
 |x::xs,y::ys,r,h,he=>by
   rw[dA2]at h
   have h0:=he 0 x y rfl rfl
   rw[h0]at h
   rcases hr:eqL f xs ys with _|r'
   ·rw[hr]at h;exact t6 h
   ·
     rw[hr]at h
     have ih:=bM4 xs ys r' hr λj x' y' h1 h2=>he (j+1) x' y' (by simpa using h1) (by simpa using h2)
     cases h
     rw[ih]
     have:min (x::xs).length (y::ys).length=min xs.length ys.length+1:=by simp only[zp];lia
     rw[this,Ze,jl,Yb]
     simp[Bool.and_assoc,ZC]
theorem bG3:∀a b r,eqL f a b=some r->∀(j:Nat) x y,a[j]? =some x->b[j]? =some y->∃e,f x y=some e
 |[],_,_,_,_,_,_,h,_=>by simp at h
 |_::_, [],_,_,_,_,_,_,h=>by simp at h
 |x::xs,y::ys,r,h,j,x',y',h1,h2=>by
   rw[dA2]at h
   rcases hf:f x y with _|e
   ·rw[hf]at h;exact t6 h
   ·
     rcases hr:eqL f xs ys with _|r'
     ·rw[hf,hr]at h;exact t6 h
     ·
       cases j with
       |zero=>simp at h1 h2;subst h1 h2;exact⟨e,hf⟩
       |succ j=>exact bG3 xs ys r' hr j x' y' (by simpa using h1) (by simpa using h2)
section
noncomputable def bY4(s:zm)(k:Bool)(a:Addr)(its:List zg):Prop:=if k then s.heap.IsTuple a its.toArray else s.heap.IsList a its.toArray
theorem aC2(I:Inv X pins U H s)(h:o5 (wc X) μ G H)(e:K3 G d=some (k,l))(r:d7 (wc X) μ H d x)(rv:u5 x v):
 ∃a vs its,x= .ref a/\v= .ref a/\m6 (wc X) μ H l vs/\o6 vs its/\bY4 s k a its/\(if k then SqT X.K H a vs else SqL X.K H a vs):=by
 rcases d with _|_|_|_|l'|i|_|_<;>try (cases e;done)
 ·
   unfold K3 at e
   cases e
   unfold d7 at r
   obtain⟨a,vs,rfl,q,rl⟩:=r
   obtain⟨its,rr,p,_⟩:=I.tuple q
   exact⟨a,vs,its,rfl,rv,rl,rr,p,q⟩
 ·
   have e':(match G[i]? with|some (.lst l)=>some (false,l)|some (.rol l)=>some (false,l)|_=>none)=some (k,l):=e
   unfold d7 at r
   obtain⟨a,m,rfl⟩:=r
   have key:∀vs,SqL X.K H a vs->m6 (wc X) μ H l vs->k=false->∃a' vs its,V.ref a= .ref a'/\v= .ref a'/\m6 (wc X) μ H l vs/\o6 vs its/\bY4 s k a' its/\(if k then SqT X.K H a' vs else SqL X.K H a' vs):=λvs q rl hk=>by
    subst hk
    obtain⟨its,rr,p,_⟩:=I.list q
    exact⟨a,vs,its,rfl,rv,rl,rr,p.isList,q⟩
   generalize g:G[i]? =o at e'
   rcases o with _|l'|l'|_|_<;>cases e'
   · obtain⟨vs,q,rl⟩:=h.obj i _ a g m
     exact key vs (SqL.of q) rl rfl
   · obtain⟨vs,q,rl⟩:=h.obj i _ a g m
     exact key vs q.sq rl rfl
theorem bD1(hs:T9 d=true)(r:d7 c μ H d (.ref a)):False:=by
 cases d<;>first
  |exact absurd (show false=true from hs) zJ
  |(unfold d7 at r;cases r)
theorem bX1(h:eqS x y=some b):T9 x=true/\T9 y=true:=by
 rcases x with _|_|_|_|_|_|_|_<;>rcases y with _|_|_|_|_|_|_|_<;>first
  |exact⟨rfl,rfl⟩
  |(cases h;done)
theorem dB0(h:eqS x y=some b)(rx:d7 c μ H x v)(ry:d7 c μ H y v):b=true:=by
 obtain⟨s1,s2⟩:=bX1 h
 rcases x with _|_|_|_|_|_|_|_<;>rcases y with _|_|_|_|_|_|_|_<;>first
  |(cases s1;done)
  |(cases s2;done)
  |(unfold d7 at rx ry;rw[rx]at ry;cases ry;done)
  |(unfold d7 at rx ry;rw[rx]at ry;cases ry;cases h;first|rfl|simp)
theorem cA5(I:Inv X pins U H s)(h1:bY4 s k a its)(h2:bY4 s k' a its'):k=k':=by
 cases k<;>cases k'<;>first
  |rfl
  |exact absurd rfl (Xn h1 h2)
  |exact absurd rfl (Xn h2 h1)
theorem bW4:∀l l' vs b,m6 c μ H l vs->m6 c μ H l' vs->(∀d d' v b,v∈vs->d7 c μ H d v->d7 c μ H d' v->f d d'=some b->b=true)->eqL f l l'=some b->b=true
 |[], [],_,b,_,_,_,e=>by cases e;rfl
 |[],_::_,vs,b,r1,r2,_,_=>by cases r1;obtain⟨_,_,z,_⟩:=r2;exact cJ1 z
 |_::_, [],vs,b,r1,r2,_,_=>by cases r2;obtain⟨_,_,z,_⟩:=r1;cases z
 |d::ds,d'::ds',vs,b,r1,r2,k,e=>by
   obtain⟨v0,vr,rfl,q0,t0⟩:=r1
   obtain⟨v1,vr',e1,q1,t1⟩:=r2
   cases e1
   rw[dA2]at e
   rcases hf:f d d' with _|e0
   ·rw[hf]at e;exact t6 e
   ·
     rcases hr:eqL f ds ds' with _|r'
     ·rw[hf,hr]at e;exact t6 e
     ·
       rw[hf,hr]at e
       cases e
       have z1:=k d d' v0 e0 zr q0 q1 hf
       have z2:=bW4 ds ds' vr r' t0 t1 (λa a' v b hm=>k a a' v b (zw _ hm)) hr
       rw[z1,z2];rfl
theorem bY1(I:Inv X pins U H s)(h:o5 (wc X) μ G H):∀n {dx dy} {x} {v} {b},d7 (wc X) μ H dx x->d7 (wc X) μ H dy x->u5 x v->eqN n G dx dy=some b->b=true
 |0,_,_,_,_,_,_,_,_,e=>by exact t6 e
 |n+1,dx,dy,x,v,b,rx,ry,rv,e=>by
   rw[cF5]at e
   rcases hx:K3 G dx with _|p
   ·
     rw[hx]at e
     rcases hy:K3 G dy with _|p
     ·rw[hy]at e;exact dB0 e rx ry
     ·
       obtain⟨k,l⟩:=p
       rw[hy]at e
       dsimp only at e
       split at e
       · rename_i hs
         obtain⟨a,_,_,rfl,_⟩:=aC2 I h hy ry rv
         exact(bD1 hs rx).elim
       ·exact t6 e
   ·
     obtain⟨k,l⟩:=p
     rw[hx]at e
     rcases hy:K3 G dy with _|p'
     ·
       rw[hy]at e
       dsimp only at e
       split at e
       · rename_i hs
         obtain⟨a,_,_,rfl,_⟩:=aC2 I h hx rx rv
         exact(bD1 hs ry).elim
       ·exact t6 e
     ·
       obtain⟨k',l'⟩:=p'
       rw[hy]at e
       dsimp only at e
       obtain⟨a,vs,its,rfl,rfl,rl,rr,sq,q⟩:=aC2 I h hx rx rv
       obtain⟨a',vs',its',ea,_,rl',rr',sq',q'⟩:=aC2 I h hy ry rv
       cases ea
       have hk:k=k':=cA5 I sq sq'
       subst hk
       have hvs:vs=vs':=by
        rcases k with _|_
        ·exact I.list_inj q q'
        ·exact I.tuple_inj q q'
       subst hvs
       rw[if_pos rfl,if_neg (by rw[rl.length,rl'.length];simp)]at e
       have hv:∀v∈vs,∃u,u5 v u:=λv hv=>by
        obtain⟨i,hi⟩:=Jc hv
        obtain⟨u,_,ru⟩:=rr.get hi
        exact⟨u,ru⟩
       exact bW4 l l' vs b rl rl' (λd d' v b hm r1 r2 ef=>by
        obtain⟨u,ru⟩:=hv v hm
        exact bY1 I h n r1 r2 ru ef) e
theorem dZ6(rx:d7 c μ H dx x)(ry:d7 c μ H dy y)(rv:u5 x v)(ru:u5 y u)(e:eqS dx dy=some b):
 ZD A s v u b/\Zd A s v u (!b)/\ym A s v u b:=by
 obtain⟨s1,s2⟩:=bX1 e
 rcases dx with _|i|i|i|_|_|_|_<;>try (cases s1;done)
 ·
   unfold d7 at rx;subst rx;cases rv
   rcases dy with _|j|j|j|_|_|_|_<;>try (cases s2;done)
   ·unfold d7 at ry;subst ry;cases ru;cases e;exact⟨SeqAt.RcAt.none_none,SeqAt.RcNeAt.none_none,ZL _⟩
   ·unfold d7 at ry;subst ry;cases ru;cases e;exact⟨SeqAt.RcAt.none_bool _,SeqAt.RcNeAt.none_bool _,YI _⟩
   ·unfold d7 at ry;subst ry;obtain⟨t,rfl⟩:=ru;cases e;exact⟨SeqAt.RcAt.none_int _ _,SeqAt.RcNeAt.none_int _ _,YZ _ _⟩
   ·unfold d7 at ry;subst ry;obtain⟨t,rfl⟩:=ru;cases e;exact⟨SeqAt.RcAt.none_str _ _,SeqAt.RcNeAt.none_str _ _,YY _ _⟩
 ·
   unfold d7 at rx;subst rx;cases rv
   rcases dy with _|j|j|j|_|_|_|_<;>try (cases s2;done)
   ·unfold d7 at ry;subst ry;cases ru;cases e;exact⟨SeqAt.RcAt.bool_none _,SeqAt.RcNeAt.bool_none _,YJ _⟩
   ·unfold d7 at ry;subst ry;cases ru;cases e;exact⟨SeqAt.RcAt.bool_bool _ _,SeqAt.RcNeAt.bool_bool _ _,YK _ _⟩
   ·unfold d7 at ry;subst ry;obtain⟨t,rfl⟩:=ru;cases e;exact⟨SeqAt.RcAt.bool_int _ _ _,SeqAt.RcNeAt.bool_int _ _ _,Xd _ _ _⟩
   ·unfold d7 at ry;subst ry;obtain⟨t,rfl⟩:=ru;cases e;exact⟨SeqAt.RcAt.bool_str _ _ _,SeqAt.RcNeAt.bool_str _ _ _,Xc _ _ _⟩
 ·
   unfold d7 at rx;subst rx;obtain⟨t,rfl⟩:=rv
   rcases dy with _|j|j|j|_|_|_|_<;>try (cases s2;done)
   ·unfold d7 at ry;subst ry;cases ru;cases e;exact⟨SeqAt.RcAt.int_none _ _,SeqAt.RcNeAt.int_none _ _,Xa _ _⟩
   ·unfold d7 at ry;subst ry;cases ru;cases e;exact⟨SeqAt.RcAt.int_bool _ _ _,SeqAt.RcNeAt.int_bool _ _ _,Xb _ _ _⟩
   ·unfold d7 at ry;subst ry;obtain⟨t,rfl⟩:=ru;cases e;exact⟨SeqAt.RcAt.int_int _ _ _ _,SeqAt.RcNeAt.int_int _ _ _ _,Xj _ _ _ _⟩
   ·unfold d7 at ry;subst ry;obtain⟨t,rfl⟩:=ru;cases e;exact⟨SeqAt.RcAt.int_str _ _ _ _,SeqAt.RcNeAt.int_str _ _ _ _,Zm _ _ _ _⟩
 ·
   unfold d7 at rx;subst rx;obtain⟨t,rfl⟩:=rv
   rcases dy with _|j|j|j|_|_|_|_<;>try (cases s2;done)
   ·unfold d7 at ry;subst ry;cases ru;cases e;exact⟨SeqAt.RcAt.str_none _ _,SeqAt.RcNeAt.str_none _ _,YW _ _⟩
   ·unfold d7 at ry;subst ry;cases ru;cases e;exact⟨SeqAt.RcAt.str_bool _ _ _,SeqAt.RcNeAt.str_bool _ _ _,YX _ _ _⟩
   ·unfold d7 at ry;subst ry;obtain⟨t,rfl⟩:=ru;cases e;exact⟨SeqAt.RcAt.str_int _ _ _ _,SeqAt.RcNeAt.str_int _ _ _ _,Zl _ _ _ _⟩
   ·unfold d7 at ry;subst ry;obtain⟨t,rfl⟩:=ru;cases e;exact⟨SeqAt.RcAt.str_str _ _ _ _,SeqAt.RcNeAt.str_str _ _ _ _,Xi _ _ _ _⟩
theorem aY3(hu:A.units<xz)(sq:bY4 s k a its)(ry:d7 c μ H dy y)(ru:u5 y u)(hs:T9 dy=true):
 (ZD A s (.ref a) u false/\Zd A s (.ref a) u true/\ym A s (.ref a) u false)/\(ZD A s u (.ref a) false/\Zd A s u (.ref a) true/\ym A s u (.ref a) false):=by
 rcases k with _|_
 ·
   rcases dy with _|j|j|j|_|_|_|_<;>try (cases hs;done)
   ·unfold d7 at ry;subst ry;cases ru;exact⟨⟨.list_none sq hu,.list_none sq hu,.list_none sq hu⟩,.none_list sq hu,.none_list sq hu,.none_list sq hu⟩
   ·unfold d7 at ry;subst ry;cases ru;exact⟨⟨.list_bool _ sq hu,.list_bool _ sq hu,.list_bool _ sq hu⟩,.bool_list _ sq hu,.bool_list _ sq hu,.bool_list _ sq hu⟩
   ·unfold d7 at ry;subst ry;obtain⟨t,rfl⟩:=ru;exact⟨⟨.list_int _ _ sq hu,.list_int _ _ sq hu,.list_int _ _ sq hu⟩,.int_list _ _ sq hu,.int_list _ _ sq hu,.int_list _ _ sq hu⟩
   ·unfold d7 at ry;subst ry;obtain⟨t,rfl⟩:=ru;exact⟨⟨.list_str _ _ sq hu,.list_str _ _ sq hu,.list_str _ _ sq hu⟩,.str_list _ _ sq hu,.str_list _ _ sq hu,.str_list _ _ sq hu⟩
 ·
   rcases dy with _|j|j|j|_|_|_|_<;>try (cases hs;done)
   ·unfold d7 at ry;subst ry;cases ru;exact⟨⟨.tuple_none sq hu,.tuple_none sq hu,.tuple_none sq hu⟩,.none_tuple sq hu,.none_tuple sq hu,.none_tuple sq hu⟩
   ·unfold d7 at ry;subst ry;cases ru;exact⟨⟨.tuple_bool _ sq hu,.tuple_bool _ sq hu,.tuple_bool _ sq hu⟩,.bool_tuple _ sq hu,.bool_tuple _ sq hu,.bool_tuple _ sq hu⟩
   ·unfold d7 at ry;subst ry;obtain⟨t,rfl⟩:=ru;exact⟨⟨.tuple_int _ _ sq hu,.tuple_int _ _ sq hu,.tuple_int _ _ sq hu⟩,.int_tuple _ _ sq hu,.int_tuple _ _ sq hu,.int_tuple _ _ sq hu⟩
   ·unfold d7 at ry;subst ry;obtain⟨t,rfl⟩:=ru;exact⟨⟨.tuple_str _ _ sq hu,.tuple_str _ _ sq hu,.tuple_str _ _ sq hu⟩,.str_tuple _ _ sq hu,.str_tuple _ _ sq hu,.str_tuple _ _ sq hu⟩
theorem cG0(I:Inv X pins U H s)(h:o5 (wc X) μ G H):∀n A,A.units+n<xz->∀ {dx dy} {x y:V} {v u} {b:Bool},d7 (wc X) μ H dx x->d7 (wc X) μ H dy y->u5 x v->u5 y u->eqN n G dx dy=some b->
 ZD A s v u b/\Zd A s v u (!b)/\ym A s v u b
 |0,_,_,_,_,_,_,_,_,_,_,_,_,_,e=>by exact t6 e
 |n+1,A,hu,dx,dy,x,y,v,u,b,rx,ry,rv,ru,e=>by
   have hu0:A.units<xz:=by lia
   have hu1:A.in1.units+n<xz:=by show A.units+1+n<xz;lia
   have e0:=e
   rw[cF5]at e
   rcases hx:K3 G dx with _|p
   ·
     rw[hx]at e
     rcases hy:K3 G dy with _|p
     ·rw[hy]at e;exact dZ6 rx ry rv ru e
     ·
       obtain⟨k,l⟩:=p
       rw[hy]at e
       dsimp only at e
       split at e
       · rename_i hs
         cases e
         obtain⟨a,vs,its,rfl,rfl,_,_,sq,_⟩:=aC2 I h hy ry ru
         exact(aY3 hu0 sq rx rv hs).2
       ·exact t6 e
   ·
     obtain⟨k,l⟩:=p
     rw[hx]at e
     obtain⟨a,vs,its,rfl,rfl,rl,rr,sq,q⟩:=aC2 I h hx rx rv
     rcases hy:K3 G dy with _|p'
     ·
       rw[hy]at e
       dsimp only at e
       split at e
       · rename_i hs
         cases e
         exact(aY3 hu0 sq ry ru hs).1
       ·exact t6 e
     ·
       obtain⟨k',l'⟩:=p'
       rw[hy]at e
       dsimp only at e
       obtain⟨a',vs',its',rfl,rfl,rl',rr',sq',q'⟩:=aC2 I h hy ry ru
       -- the two at one place
       have main:ZD A s (.ref a) (.ref a') b/\Zd A s (.ref a) (.ref a') (!b):=by
        have len1:its.toArray.size=l.length:=by rw[zk,<-rr.length,rl.length]
        have len2:its'.toArray.size=l'.length:=by rw[zk,<-rr'.length,rl'.length]
        by_cases hk:k=k'
        · subst hk
          rw[if_pos rfl]at e
          by_cases hlen:k=false/\l.length≠l'.length
          · rw[if_pos hlen]at e
            cases e
            obtain⟨rfl,hne⟩:=hlen
            have hz:(its.toArray.size != its'.toArray.size)=true:=by rw[len1,len2];simpa using hne
            exact⟨SeqAt.RcAt.lists_lengths sq sq' hz hu0,SeqAt.RcNeAt.lists_lengths sq sq' hz hu0⟩
          · rw[if_neg hlen]at e
            have items:∀j (h1:j<its.toArray.size) (h2:j<its'.toArray.size),∃e,eqN n G (l.getD j .non) (l'.getD j .non)=some e/\ym A.in1 s its.toArray[j] its'.toArray[j] e:=λj h1 h2=>by
             have j1:j<l.length:=by rw[<-len1];exact h1
             have j2:j<l'.length:=by rw[<-len2];exact h2
             have g1:l[j]? =some l[j]:=zv j1
             have g2:l'[j]? =some l'[j]:=zv j2
             obtain⟨e1,he1⟩:=bG3 l l' b e j _ _ g1 g2
             obtain⟨v1,hv1,r1⟩:=rl.get g1
             obtain⟨v2,hv2,r2⟩:=rl'.get g2
             obtain⟨u1,hu1',ru1⟩:=rr.get hv1
             obtain⟨u2,hu2',ru2⟩:=rr'.get hv2
             have w1:its.toArray[j]=u1:=by
              have:its.toArray[j]? =some u1:=by simpa using hu1'
              rw[jp h1]at this
              exact jm this
             have w2:its'.toArray[j]=u2:=by
              have:its'.toArray[j]? =some u2:=by simpa using hu2'
              rw[jp h2]at this
              exact jm this
             rw[w1,w2]
             refine⟨e1,?_,(cG0 I h n A.in1 hu1 r1 r2 ru1 ru2 he1).2.2⟩
             rw[yS,yS,g1,g2]
             exact he1
            have hr:=bM4 (e:=λj=>(eqN n G (l.getD j .non) (l'.getD j .non)).getD false) l l' b e λj x y g1 g2=>by
             obtain⟨e1,he1⟩:=bG3 l l' b e j x y g1 g2
             rw[yS,yS,g1,g2]
             simp only[Option.getD_some]
             rw[he1];rfl
            have he:∀j (h1:j<its.toArray.size) (h2:j<its'.toArray.size),ym A.in1 s its.toArray[j] its'.toArray[j] ((eqN n G (l.getD j .non) (l'.getD j .non)).getD false):=λj h1 h2=>by
             obtain⟨e1,he1,hh⟩:=items j h1 h2
             rw[he1];exact hh
            rcases k with _|_
            ·
              have hl:l.length=l'.length:=yQ λz=>hlen ⟨rfl,z⟩
              have hsz:its.toArray.size=its'.toArray.size:=by rw[len1,len2,hl]
              have z1:=SeqAt.RcAt.lists sq sq' hsz hu0 he
              have z2:=SeqAt.RcNeAt.lists sq sq' hsz hu0 he
              have hr2:b= (ja its.toArray.size).all λj=>(eqN n G (l.getD j .non) (l'.getD j .non)).getD false:=by
               rw[hr,len1,hl];simp
              rw[<-hr2]at z1 z2
              exact⟨z1,z2⟩
            ·
              have z1:=SeqAt.RcAt.tuples sq sq' hu0 he
              have z2:=SeqAt.RcNeAt.tuples sq sq' hu0 he
              rw[len1,len2,<-hr]at z1 z2
              exact⟨z1,z2⟩
        · rw[if_neg hk]at e
          cases e
          cases k<;>cases k'<;>first
           |exact absurd rfl hk
           |exact⟨SeqAt.RcAt.list_tuple sq sq' hu0,SeqAt.RcNeAt.list_tuple sq sq' hu0⟩
           |exact⟨SeqAt.RcAt.tuple_list sq sq' hu0,SeqAt.RcNeAt.tuple_list sq sq' hu0⟩
       refine⟨main.1,main.2,?_⟩
       by_cases ha:a=a'
       · subst ha
         have:b=true:=bY1 I h (n+1) rx ry rv e0
         rw[this]
         exact ZL _
       ·exact SeqAt.EqAt.of_refs ha main.1
end
section
def eqD:D->D->M D:=λx y G=>match eqN 40 G x y with
 |some b=>some (.ok (.bl b),G)
 |none=>none
def neD:D->D->M D:=λx y G=>match eqN 40 G x y with
 |some b=>some (.ok (.bl (!b)),G)
 |none=>none
theorem eT3(hu:X.A.units+64<xz):OpD X Z (zL .Eq) eqD:=⟨by
 intro pins s U H x y v u Q I rx ry hE0
 refine hE0.elim λdx dy μ G rdx rdy hr p=>?_
 unfold eqD at p
 rcases e:eqN 40 G dx dy with _|b
 ·rw[e]at p;exact p.elim
 ·
   rw[e]at p
   exact(cG0 I hr 40 X.A (by lia) rdx rdy rx ry e).1 X.prog X.w X.xe _ ⟨.bl b,H,I,rfl,c7.ok p hr _ ofB⟩⟩
theorem eP6(hu:X.A.units+64<xz):OpD X Z (zL .NotEq) neD:=⟨by
 intro pins s U H x y v u Q I rx ry hE0
 refine hE0.elim λdx dy μ G rdx rdy hr p=>?_
 unfold neD at p
 rcases e:eqN 40 G dx dy with _|b
 ·rw[e]at p;exact p.elim
 ·
   rw[e]at p
   exact(cG0 I hr 40 X.A (by lia) rdx rdy rx ry e).2.1 X.prog X.w X.xe _ ⟨.bl (!b),H,I,rfl,c7.ok p hr _ ofB⟩⟩
def leD:D->D->M D:=λx y=>match x,y with
 | .int i,.int j=>pure (.bl (decide (i<=j)))
 | .str i,.str j=>pure (.bl (!decide (j.cps.toList<i.cps.toList)))
 |_,_=>M.stuck
def gtD:D->D->M D:=λx y=>match x,y with
 | .int i,.int j=>pure (.bl (decide (j<i)))
 | .str i,.str j=>pure (.bl (decide (j.cps.toList<i.cps.toList)))
 |_,_=>M.stuck
theorem cM3{op:CmpOp}{fi:Int->Int->Bool}{fs:Str->Str->Bool}(hi:OpR X (zL op) (rI0 λi j=>.bl (fi i j)))
 (hs:∀(i j:Str) (t u:Tok) (s:zm) Q E,Q (.bool (fs i j)) s->zt (zB X.prog X.w) X.A (zL op (.str i t) (.str j u)) Q E s)
 (h1:∀i j,o (.int i) (.int j)=pure (.bl (fi i j))) (h2:∀i j,o (.str i) (.str j)=pure (.bl (fs i j)))
 (h3:∀x y,(∀i j,¬(x= .int i/\y= .int j))->(∀i j,¬(x= .str i/\y= .str j))->o x y=M.stuck):OpD X Z (zL op) o:=⟨by
 intro pins s U H x y v u Q I rx ry hE0
 refine hE0.elim λdx dy μ G rdx rdy hr p=>?_
 by_cases c1:∃i j,dx= .int i/\dy= .int j
 · obtain⟨i,j,rfl,rfl⟩:=c1
   rw[h1]at p
   exact hi pins s U H x y v u Q I rx ry ⟨i,j,aA4 rdx,aA4 rdy,c7.ok p hr _ ofB⟩
 · by_cases c2:∃i j,dx= .str i/\dy= .str j
   · obtain⟨i,j,rfl,rfl⟩:=c2
     rw[h2]at p
     have e1:=aE6 rdx
     have e2:=aE6 rdy
     subst e1 e2
     obtain⟨t,rfl⟩:=rx
     obtain⟨t',rfl⟩:=ry
     exact hs i j t t' s _ _ ⟨.bl (fs i j),H,I,rfl,c7.ok p hr _ ofB⟩
   · rw[h3 dx dy (λi j z=>c1 ⟨i,j,z⟩) (λi j z=>c2 ⟨i,j,z⟩)]at p
     exact p.elim⟩
theorem eV5:OpD X Z (zL .LtE) leD:=cM3 eW5 (λ_ _ _ _ _ _ _ q=>PySem.P.le_str q) (λ_ _=>rfl) (λ_ _=>rfl) λx y n1 n2=>by
 rcases x with _|_|_|_|_|_|_|_<;>rcases y with _|_|_|_|_|_|_|_<;>first
  |rfl
  |exact absurd ⟨rfl,rfl⟩ (n1 _ _)
  |exact absurd ⟨rfl,rfl⟩ (n2 _ _)
theorem eQ1:OpD X Z (zL .Gt) gtD:=cM3 eR5 (λ_ _ _ _ _ _ _ q=>PySem.P.gt_str q) (λ_ _=>rfl) (λ_ _=>rfl) λx y n1 n2=>by
 rcases x with _|_|_|_|_|_|_|_<;>rcases y with _|_|_|_|_|_|_|_<;>first
  |rfl
  |exact absurd ⟨rfl,rfl⟩ (n1 _ _)
  |exact absurd ⟨rfl,rfl⟩ (n2 _ _)
noncomputable def cD8:D->Bool
 | .non=>true
 |_=>false
theorem cM9(r:d7 c μ H d v):decide (v= .non)=cD8 d:=by
 cases d with
 |non=>rw[dE2 r];rfl
 |tup l=>unfold d7 at r;obtain⟨a,_,rfl,_⟩:=r;rfl
 |ref l=>unfold d7 at r;obtain⟨a,_,rfl⟩:=r;rfl
 |fn l=>unfold d7 at r;obtain⟨a,_,rfl⟩:=r;rfl
 |_=>unfold d7 at r;subst r;rfl
def bV3:D->M D:=λx=>match x with
 | .int i=>pure (.int (-i))
 |_=>M.stuck
theorem eB4:UnD X Z (unaryOp .USub) bV3:=⟨by
 intro pins s U H x v Q I rx hE0
 refine hE0.elim λdx μ G rdx hr p=>?_
 cases dx<;>first
  |exact p.elim
  |exact dA7 pins s U H x v Q I rx ⟨_,aA4 rdx,c7.ok p hr _ ofI⟩⟩
noncomputable instance (x:Str) (n:Int):Decidable (xA x n):=by unfold xA;infer_instance
def aK4:D->D->M D:=λx y=>match x,y with
 | .int i,.int j=>if bI1 i j then pure (.int (i*j))else M.stuck
 | .str x,.int n=>if xA x n then pure (.str (ZB x n))else M.stuck
 |_,_=>M.stuck
theorem cD1:OpR X (jL .Mult) (λx y H Q=>∃z n,x= .str z/\y= .int n/\xA z n/\Q (.str (ZB z n)) H):=by
 intro pins s U H x y v u Q I rx ry h
 obtain⟨z,n,rfl,rfl,hk,q⟩:=h
 obtain⟨t,rfl⟩:=rx
 obtain⟨t',rfl⟩:=ry
 exact PySem.SB.mul hk λt' k=>⟨.str _,H,I.tok _,⟨_,rfl⟩,q⟩
theorem eJ1:OpD X Z (jL .Mult) aK4:=
 OpD.of (OpR.or eN1 cD1) λx y H Q hE0=>hE0.elim λdx dy μ G rdx rdy hr p=>by
  rcases dx with _|_|_|_|_|_|_|_<;>rcases dy with _|_|_|_|_|_|_|_<;>first
   |exact p.elim
   |skip
  · unfold aK4 at p
    dsimp only at p
    split at p
    ·rename_i hc;exact .inl ⟨_,_,aA4 rdx,aA4 rdy,hc,c7.ok p hr _ ofI⟩
    ·exact p.elim
  · unfold aK4 at p
    dsimp only at p
    split at p
    ·rename_i hc;exact .inr ⟨_,_,aE6 rdx,aA4 rdy,hc,c7.ok p hr _ ofS⟩
    ·exact p.elim
end
noncomputable def cC1(A:zT)(s:zm)(y x:zg)(b:Bool):Prop:=
 ∀(prog:zC) (w:zN) (E:VSP) (Q:VSP),Q (.bool b) s->zt (zB prog w) A (richCompare .Lt y x) Q E s
inductive LtR(A:zT)(s:zm):List zg->List zg->Bool->Prop
 |nil:LtR A s [] [] false
 |nilc {y ys}:LtR A s [] (y::ys) true
 |cnil {x xs}:LtR A s (x::xs) [] false
 |eq {x y xs ys b}:ym A s x y true->LtR A s xs ys b->LtR A s (x::xs) (y::ys) b
 |ne {x y xs ys b}:ym A s x y false->cC1 A s x y b->LtR A s (x::xs) (y::ys) b
section
open PySem.SeqAt
open PySem.AutoSeq1 (wpAny_loadPart')
open PySem.MeetsSeq PySem.MeetsSeq2 PySem.MeetsSeq3
theorem cC3(l b:Addr)(items items2:Array zg)(n n2:Nat)(dd dd2:Option Addr)(sl sl2:Array (Option zg))(k:Bool):
 Meets (Zx.«tuple.__lt__» ⟨[.ref l,.ref b], []⟩)
  (λA R s=>s.heap.get? l=some {cls:=.type "tuple",dict:=dd,data:=.seq items n,slots:=sl}/\s.heap.get? b=some {cls:=.type "tuple",dict:=dd2,data:=.seq items2 n2,slots:=sl2}/\
    LtR A.in1 s items.toList items2.toList k/\R (.ok (.ret (.bool k))) s):=
 .of_wp λprog w A R s h=>by
  obtain⟨hp,g,d,tk,os⟩:=s;obtain⟨hl,hb,hk,h⟩:=h
  have f2:=AutoSeq1.sub_tuple_tuple
  wp_walk using jc hl,jc hb,wpAny_forIn_list _ (λj9 b s'=>b.1=none/\s'= ⟨hp,g,d,tk,os⟩/\∃(vs ws:List zg),j9=vs.zip ws/\
   vs.length+items2.size=ws.length+items.size/\LtR A.in1 ⟨hp,g,d,tk,os⟩ vs ws k) _
  case turn=>
   rintro⟨y,x⟩ j9 b s' ⟨hb',rfl,vs,ws,hz,hlen,hR⟩
   cases hR with
   |nil=>exact dF3 hz
   |nilc=>exact dF3 hz
   |cnil=>exact dF3 hz
   |eq he hR'=>
     rw[xM]at hz
     injection hz with hyx hrest
     injection hyx with hy hx
     subst hy hx
     refine za (he prog w _ _ ?_)
     wp_walk
     simp only[zp]at hlen
     exact⟨rfl,rfl,_,_,hrest,by lia,hR'⟩
   |ne he hc=>
     rw[xM]at hz
     injection hz with hyx hrest
     injection hyx with hy hx
     subst hy hx
     refine za (he prog w _ _ ?_)
     have hri:=hc prog w
     wp_walk using hri
     exact⟨_,rfl,h⟩
  case fin=>
   rintro⟨b1,b2⟩ s' ⟨hb',rfl,vs,ws,hz,hlen,hR⟩
   simp only at hb'
   subst hb'
   have hv:k=decide (items.size<items2.size):=by
    cases hR with
    |nil=>simp only[jw]at hlen;exact(decide_eq_false (by lia)).symm
    |nilc=>simp only[jw,zp]at hlen;exact(decide_eq_true (by lia)).symm
    |cnil=>simp only[jw,zp]at hlen;exact(decide_eq_false (by lia)).symm
    |eq _ _=>rw[xM]at hz;exact cJ1 hz
    |ne _ _=>rw[xM]at hz;exact cJ1 hz
   rw[hv]at h
   wp_walk
   exact⟨_,rfl,by simpa [Builtin.Tuple.tupleCompareSizes]using h⟩
  case h=>
   exact⟨rfl,rfl,items.toList,items2.toList,rfl,by simp;lia,hk⟩
theorem cT4(l b:Addr)(items items2:Array zg)(n n2:Nat)(dd dd2:Option Addr)(sl sl2:Array (Option zg))(k:Bool):∀vs ws i,items.toList.drop i=vs->items2.toList.drop i=ws->i<=items.size->i<=items2.size->
 Meets (Zx.«list.__eq__.loop» ⟨[.ref l,.ref b,xg i,xg 0], []⟩)
  (λA R s=>s.heap.get? l=some {cls:=.type "list",dict:=dd,data:=.seq items n,slots:=sl}/\s.heap.get? b=some {cls:=.type "list",dict:=dd2,data:=.seq items2 n2,slots:=sl2}/\
    LtR A.in1 s vs ws k/\R (.ok (.ret (.bool k))) s):=by
 have dropn:∀(a:Array zg) (i:Nat),a.toList.drop i= []->i<=a.size->i=a.size:=λa i e hi=>by
  have:=List.drop_eq_nil_iff.mp e
  simp at this;lia
 have dropc:∀(a:Array zg) (i:Nat) (v:zg) (r:List zg),a.toList.drop i=v::r->i<a.size/\a[((i:Nat):Int).toNat]? =some v/\a.toList.drop (i+1)=r:=λa i v r e=>by
  have hlt:i<a.toList.length:=by
   rcases Zi i a.toList.length with q|q
   ·exact q
   ·rw[Zf q]at e;exact cJ1 e
  rw[yY hlt]at e
  injection e with e1 e2
  refine⟨by simpa using hlt,?_,e2⟩
  simp at hlt
  simp[hlt]
  simpa using e1
 intro vs
 induction vs with
 |nil=>
   intro ws i hv hw hi hi2 prog w A R s h
   obtain⟨hp,g,d,tk,os⟩:=s;obtain⟨hl,hb,he,h⟩:=h
   have e1:=dropn items i hv hi
   wp_walk using jc hl,jc hb
   have hi1:items[((i:Nat):Int).toNat]? =none:=by simp;lia
   rw[hi1]
   rcases ws with _|⟨y,ys⟩
   ·
     have e2:=dropn items2 i hw hi2
     cases he
     wp_walk using jc hl,jc hb
     show R (.ok (.ret (.bool (decide (items.size<items2.size))))) _
     rw[decide_eq_false (by lia)]
     exact h
   ·
     obtain⟨hlt,_,_⟩:=dropc items2 i y ys hw
     cases he
     wp_walk using jc hl,jc hb
     show R (.ok (.ret (.bool (decide (items.size<items2.size))))) _
     rw[decide_eq_true (by lia)]
     exact h
 |cons x xs ih=>
   intro ws i hv hw hi hi2 prog w A R s h
   obtain⟨hp,g,d,tk,os⟩:=s;obtain⟨hl,hb,he,h⟩:=h
   obtain⟨hlt,g1,d1⟩:=dropc items i x xs hv
   wp_walk using jc hl,jc hb
   rcases ws with _|⟨y,ys⟩
   ·
     have e2:=dropn items2 i hw hi2
     have hi2':items2[((i:Nat):Int).toNat]? =none:=by simp;lia
     rw[g1,hi2']
     cases he
     wp_walk using jc hl,jc hb
     show R (.ok (.ret (.bool (decide (items.size<items2.size))))) _
     rw[decide_eq_false (by lia)]
     exact h
   ·
     obtain⟨hlt2,g2,d2⟩:=dropc items2 i y ys hw
     have hc:((i:Int)+1)= ((i+1:Nat):Int):=by push_cast;rfl
     rw[g1,g2]
     cases he with
     |eq he he'=>
       refine za (he prog w _ _ ?_)
       wp_walk
       rw[hc]
       exact⟨Ji plain_eq_loop _,codeAny_builtin entry_eq_loop (by
        rw[Xv plain_eq_loop _]
        exact ih ys (i+1) d1 d2 (by lia) (by lia) prog w A R _ ⟨hl,hb,he',h⟩)⟩
     |ne he hcmp=>
       refine za (he prog w _ _ ?_)
       have hri:=hcmp prog w
       wp_walk using jc hl,jc hb
       rw[g1,g2]
       wp_walk using hri
       exact h
theorem cP9(l b:Addr)(items items2:Array zg)(n n2:Nat)(dd dd2:Option Addr)(sl sl2:Array (Option zg))(k:Bool):
 Meets (Zx.«list.__lt__» ⟨[.ref l,.ref b], []⟩)
  (λA R s=>s.heap.get? l=some {cls:=.type "list",dict:=dd,data:=.seq items n,slots:=sl}/\s.heap.get? b=some {cls:=.type "list",dict:=dd2,data:=.seq items2 n2,slots:=sl2}/\
    LtR A.in1 s items.toList items2.toList k/\R (.ok (.ret (.bool k))) s):=by
 intro prog w A R s h
 obtain⟨hp,g,d,tk,os⟩:=s;obtain⟨hl,hb,he,h⟩:=h
 have f3:=AutoSeq1.sub_list_list
 wp_walk using jc hl,jc hb
 exact⟨Ji plain_eq_loop _,codeAny_builtin entry_eq_loop (by
  rw[Xv plain_eq_loop _]
  exact cT4 l b items items2 n n2 dd dd2 sl sl2 k items.toList items2.toList 0 rfl rfl (jV _) (jV _) prog w A R _ ⟨hl,hb,he,h⟩)⟩
end
noncomputable def ltS:D->D->Option Bool
 | .int a,.int b=>some (decide (a<b))
 | .str a,.str b=>some (decide (a.cps.toList<b.cps.toList))
 | .bl a,.bl b=>some (decide (b2i a<b2i b))
 |_,_=>none
noncomputable def ltL(eq lt:D->D->Option Bool):List D->List D->Option Bool
 |[], []=>some false
 |[],_::_=>some true
 |_::_, []=>some false
 |x::xs,y::ys=>match eq x y with
   |some true=>ltL eq lt xs ys
   |some false=>lt x y
   |none=>none
def ltN:Nat->DH->D->D->Option Bool
 |0,_,_,_=>none
 |n+1,G,x,y=>match K3 G x,K3 G y with
   |some (k1,a),some (k2,b)=>if k1=k2 then ltL (eqN n G) (ltN n G) a b else none
   |none,none=>ltS x y
   |_,_=>none
theorem eX7:ltN (n+1) G x y=match K3 G x,K3 G y with
 |some (k1,a),some (k2,b)=>if k1=k2 then ltL (eqN n G) (ltN n G) a b else none
 |none,none=>ltS x y
 |_,_=>none:=rfl
section
theorem eJ9(rx:d7 c μ H dx x)(ry:d7 c μ H dy y)(rv:u5 x v)(ru:u5 y u)(e:ltS dx dy=some b):cC1 A s v u b:=by
 intro prog w E Q hq
 rcases dx with _|_|_|_|_|_|_|_<;>rcases dy with _|_|_|_|_|_|_|_<;>first
  |(cases e;done)
  |skip
 · cases e
   unfold d7 at rx ry;subst rx ry;cases rv;cases ru
   exact(lt_bool hq:zt (zB prog w) A (zL .Lt _ _) Q E s)
 · cases e
   unfold d7 at rx ry;subst rx ry;obtain⟨t,rfl⟩:=rv;obtain⟨t',rfl⟩:=ru
   exact(lt_int hq:zt (zB prog w) A (zL .Lt _ _) Q E s)
 · cases e
   unfold d7 at rx ry;subst rx ry;obtain⟨t,rfl⟩:=rv;obtain⟨t',rfl⟩:=ru
   exact(lt_str hq:zt (zB prog w) A (zL .Lt _ _) Q E s)
theorem lt_at(I:Inv X pins U H s)(h:o5 (wc X) μ G H):∀n A,A.units+n<xz->∀ {dx dy} {x y} {v u} {b},d7 (wc X) μ H dx x->d7 (wc X) μ H dy y->u5 x v->u5 y u->ltN n G dx dy=some b->cC1 A s v u b
 |0,_,_,_,_,_,_,_,_,_,_,_,_,_,e=>by exact t6 e
 |n+1,A,hu,dx,dy,x,y,v,u,b,rx,ry,rv,ru,e=>by
   have hu0:A.units<xz:=by lia
   have hu1:A.in1.units+n<xz:=by show A.units+1+n<xz;lia
   rw[eX7]at e
   rcases hx:K3 G dx with _|p
   ·
     rw[hx]at e
     rcases hy:K3 G dy with _|p
     ·rw[hy]at e;exact eJ9 rx ry rv ru e
     ·rw[hy]at e;exact t6 e
   ·
     obtain⟨k,l⟩:=p
     rw[hx]at e
     rcases hy:K3 G dy with _|p'
     ·rw[hy]at e;exact t6 e
     ·
       obtain⟨k',l'⟩:=p'
       rw[hy]at e
       dsimp only at e
       split at e
       case isFalse=>exact t6 e
       rename_i hk
       subst hk
       obtain⟨a,vs,its,rfl,rfl,rl,rr,sq,q⟩:=aC2 I h hx rx rv
       obtain⟨a',vs',its',rfl,rfl,rl',rr',sq',q'⟩:=aC2 I h hy ry ru
       have main:∀(l l':List D) (vs vs':List V) (its its':List zg),m6 (wc X) μ H l vs->m6 (wc X) μ H l' vs'->o6 vs its->o6 vs' its'->ltL (eqN n G) (ltN n G) l l'=some b->LtR A.in1 s its its' b:=by
        intro l
        induction l with
        |nil=>
          intro l' vs vs' its its' r r' q q' e
          cases r;cases q
          rcases l' with _|⟨_,_⟩
          ·cases r';cases q';cases e;exact .nil
          ·
            obtain⟨_,_,rfl,_,_⟩:=r'
            cases q'
            cases e
            exact .nilc
        |cons d ds ih=>
          intro l' vs vs' its its' r r' q q' e
          obtain⟨v0,vr,rfl,r0,rt⟩:=r
          cases q with
          |cons q0 qt=>
            rcases l' with _|⟨d',ds'⟩
            ·cases r';cases q';cases e;exact .cnil
            ·
              obtain⟨v1,vr',rfl,r1,rt'⟩:=r'
              cases q' with
              |cons q1 qt'=>
                unfold ltL at e
                rcases he:eqN n G d d' with _|b0
                ·rw[he]at e;exact t6 e
                ·
                  rw[he]at e
                  have hE:=(cG0 I h n A.in1 hu1 r0 r1 q0 q1 he).2.2
                  rcases b0 with _|_
                  ·exact .ne hE (lt_at I h n A.in1 hu1 r0 r1 q0 q1 e)
                  ·exact .eq hE (ih ds' vr vr' _ _ rt rt' qt qt' e)
       have hR:=main l l' vs vs' its its' rl rl' rr rr' e
       intro prog w E Q hq
       rcases k with _|_
       ·
         obtain⟨⟨cls,dd,data,sl⟩,ho,hc,m,hd⟩:=id sq
         obtain⟨⟨cls2,dd2,data2,sl2⟩,ho2,hc2,m2,hd2⟩:=id sq'
         simp only at hc hd hc2 hd2
         subst hc hd hc2 hd2
         exact JM ⟨_,ho,rfl⟩ ⟨_,ho2,rfl⟩ PySem.F.slot_list_lt PySem.F.entry_list_lt (PySem.F.args_list_lt_2 _ _) (cP9 a a' its.toArray its'.toArray m m2 dd dd2 sl sl2 b)
          ⟨ho,ho2,hR,show Value.bool b≠Value.notImplemented/\Q (.bool b) s from⟨(λx=>nomatch x),hq⟩⟩ hu0
       ·
         obtain⟨⟨cls,dd,data,sl⟩,ho,hc,m,hd⟩:=id sq
         obtain⟨⟨cls2,dd2,data2,sl2⟩,ho2,hc2,m2,hd2⟩:=id sq'
         simp only at hc hd hc2 hd2
         subst hc hd hc2 hd2
         exact JM ⟨_,ho,rfl⟩ ⟨_,ho2,rfl⟩ PySem.F.slot_tuple_lt PySem.F.entry_tuple_lt (PySem.F.args_tuple_lt_2 _ _) (cC3 a a' its.toArray its'.toArray m m2 dd dd2 sl sl2 b)
          ⟨ho,ho2,hR,show Value.bool b≠Value.notImplemented/\Q (.bool b) s from⟨(λx=>nomatch x),hq⟩⟩ hu0
def ltD:D->D->M D:=λx y G=>match ltN 40 G x y with
 |some b=>some (.ok (.bl b),G)
 |none=>none
theorem eU5(hu:X.A.units+64<xz):OpD X Z (zL .Lt) ltD:=⟨by
 intro pins s U H x y v u Q I rx ry hE0
 refine hE0.elim λdx dy μ G rdx rdy hr p=>?_
 unfold ltD at p
 rcases e:ltN 40 G dx dy with _|b
 ·rw[e]at p;exact p.elim
 ·
   rw[e]at p
   exact lt_at I hr 40 X.A (by lia) rdx rdy rx ry e X.prog X.w X.xe _ ⟨.bl b,H,I,rfl,c7.ok p hr _ ofB⟩⟩
end
noncomputable def aL9:D->Bool
 | .non=>true
 | .bl _=>true
 | .int _=>true
 | .str _=>true
 |_=>false
noncomputable def toV:D->V
 | .bl b=>.bl b
 | .int i=>.int i
 | .str x=>.str x
 |_=>.non
noncomputable def cU2:D->Option Key
 | .int i=>some (.inl i)
 | .str x=>some (.inr x)
 |_=>none
noncomputable def aS9(l:List (Key×D))(k:Key):Option D:=(l.find? λkv=>decide (kv.1=k)).map (·.2)
def inB(x y:D)(G:DH):Option Bool:=match y with
 | .str j=>match x with
   | .str i=>some (!(xK j i 0 j.length 1).isEmpty)
   |_=>none
 | .ref r=>match G[r]? with
   |some (.dct l)=>(cU2 x).map λk=>(aS9 l k).isSome
   |some (.rod _)=>none
   |some (.lst l)=>if aL9 x&&l.all aL9 then some (inV (toV x) (l.map toV))else none
   |some (.rol l)=>if aL9 x&&l.all aL9 then some (inV (toV x) (l.map toV))else none
   |none=>none
 | .tup l=>if aL9 x&&l.all aL9 then some (inV (toV x) (l.map toV))else none
 |_=>none
def inD:D->D->M D:=λx y G=>match inB x y G with
 |some b=>some (.ok (.bl b),G)
 |none=>none
section
theorem bX0(f:aL9 d=true)(r:d7 c μ H d v):v=toV d/\aO6 v=true:=by
 cases d<;>first
  |exact absurd (show false=true from f) zJ
  |(unfold d7 at r;subst r;exact⟨rfl,rfl⟩)
theorem bL1:∀ {l} {vs},l.all aL9=true->m6 c μ H l vs->vs=l.map toV/\vs.all aO6=true
 |[],_,_,r=>by cases r;exact⟨rfl,rfl⟩
 |d::ds,_,f,r=>by
   obtain⟨v,t,rfl,q,rt⟩:=r
   rw[jl,zQ]at f
   obtain⟨e1,e2⟩:=bX0 f.1 q
   obtain⟨e3,e4⟩:=bL1 f.2 rt
   refine⟨by rw[zA,<-e1,<-e3],?_⟩
   rw[jl,e2,e4];rfl
theorem cK0(e:cU2 d=some k)(r:d7 c μ H d v):v=kV k:=by
 cases d<;>first
  |(cases e;unfold d7 at r;exact r)
  |exact t6 e
theorem bJ5:∀ {l} {kvs},Z4 c μ H l kvs->match aS9 l k with|some d=>∃v,aQ4 kvs k=some v/\d7 c μ H d v|none=>aQ4 kvs k=none
 |[],_,r=>by cases r;exact rfl
 |(k',d)::t,_,r=>by
  obtain⟨v,kt,rfl,q,rt⟩:=r
  by_cases e:k'=k
  · have h1:aS9 ((k',d)::t) k=some d:=by unfold aS9;simp[e]
    rw[h1]
    exact⟨v,aS5 e,q⟩
  · have h1:aS9 ((k',d)::t) k=aS9 t k:=by unfold aS9;simp[e]
    rw[h1]
    have ih:=bJ5 (k:=k) rt
    rw[aS3 e]
    exact ih
theorem cE3(r:Z4 c μ H l kvs):(aS9 l k).isSome= (aQ4 kvs k).isSome:=by
 have q:=bJ5 (k:=k) r
 rcases e:aS9 l k with _|d
 ·rw[e]at q;rw[q];rfl
 ·rw[e]at q;obtain⟨v,q,_⟩:=q;rw[q];rfl
theorem eT1(hu:X.A.units+64<xz)(I:Inv X pins U H s)(hr:o5 (wc X) μ G H)(rdx:d7 (wc X) μ H dx x)(rdy:d7 (wc X) μ H dy y)(rx:u5 x v)(ry:u5 y u)
 (e:inB dx dy G=some b):
 (Q (.bl b) H->zt (zB X.prog X.w) X.A (zL .In v u) (EP X pins U Q) X.xe s)/\(Q (.bl (!b)) H->zt (zB X.prog X.w) X.A (zL .NotIn v u) (EP X pins U Q) X.xe s):=by
 have seq:∀(p:Addr) (l:List D) (vs:List V),y= .ref p->(SqL X.K H p vs\/SqT X.K H p vs)->m6 (wc X) μ H l vs->(if (aL9 dx&&l.all aL9)=true then some (inV (toV dx) (l.map toV))else none)=some b->
  (Q (.bl b) H->zt (zB X.prog X.w) X.A (zL .In v u) (EP X pins U Q) X.xe s)/\(Q (.bl (!b)) H->zt (zB X.prog X.w) X.A (zL .NotIn v u) (EP X pins U Q) X.xe s):=by
  intro p l vs hy hq rl e
  split at e
  · rename_i hf
    rw[zQ]at hf
    cases e
    obtain⟨e1,e2⟩:=bX0 hf.1 rdx
    obtain⟨e3,e4⟩:=bL1 hf.2 rl
    rw[<-e1,<-e3]
    exact⟨λq=>cQ8 pins s U H x y v u Q I rx ry ⟨p,vs,hy,hq,e2,e4,q⟩,λq=>bR1 pins s U H x y v u Q I rx ry ⟨p,vs,hy,hq,e2,e4,q⟩⟩
  ·exact t6 e
 rcases dy with _|_|_|j|l|i|_|_<;>try (cases e;done)
 ·
   rcases dx with _|_|_|i|_|_|_|_<;>try (cases e;done)
   ·
     cases e
     have e1:=aE6 rdx
     have e2:=aE6 rdy
     exact⟨λq=>cT9 pins s U H x y v u Q I rx ry ⟨i,j,e1,e2,q⟩,λq=>bS2 pins s U H x y v u Q I rx ry ⟨i,j,e1,e2,q⟩⟩
 ·
   unfold d7 at rdy
   obtain⟨a,vs,hy,q,rl⟩:=rdy
   exact seq a l vs hy (.inr q) rl e
 ·
   unfold d7 at rdy
   obtain⟨a,m,hy⟩:=rdy
   rcases g:G[i]? with _|o
   ·unfold inB at e;simp only[g]at e;exact t6 e
   ·
     have ro:=hr.obj i o a g m
     rcases o with l|l|l|l
     ·
       obtain⟨vs,q,rl⟩:=ro
       unfold inB at e;simp only[g]at e
       exact seq a l vs hy (.inl (SqL.of q)) rl e
     ·
       obtain⟨vs,q,rl⟩:=ro
       unfold inB at e;simp only[g]at e
       exact seq a l vs hy (.inl q.sq) rl e
     ·
       obtain⟨kvs,q,rk⟩:=ro
       unfold inB at e;simp only[g]at e
       rcases hk:cU2 dx with _|k
       ·rw[hk]at e;exact t6 e
       ·
         rw[hk]at e
         cases e
         have ek:=cK0 hk rdx
         have dg:cR4 H a x (aQ4 kvs k):=by rw[ek];exact cR4.k q
         subst hy
         cases ry
         dsimp only
         rw[cE3 rk]
         exact⟨λq=>fA8 (by lia) I dg rx λs' I'=>⟨.bl _,H,I',rfl,q⟩,λq=>dL8 (by lia) I dg rx λs' I'=>⟨.bl _,H,I',rfl,q⟩⟩
     ·unfold inB at e;simp only[g]at e;exact t6 e
theorem eV0(hu:X.A.units+64<xz):OpD X Z (zL .In) inD:=⟨by
 intro pins s U H x y v u Q I rx ry hE0
 refine hE0.elim λdx dy μ G rdx rdy hr p=>?_
 unfold inD at p
 rcases e:inB dx dy G with _|b
 ·rw[e]at p;exact p.elim
 ·rw[e]at p;exact(eT1 hu I hr rdx rdy rx ry e).1 (c7.ok p hr _ ofB)⟩
inductive Ty where
 |int|bool|str|tuple|list|dict
 deriving DecidableEq
noncomputable def Ty.name:Ty->String
 | .int=> "int"| .bool=> "bool"| .str=> "str"| .tuple=> "tuple"| .list=> "list"| .dict=> "dict"
noncomputable def Ty.of(n:String):Option Ty:=if n= "int" then some .int else if n= "bool" then some .bool else if n= "str" then some .str else if n= "tuple" then some .tuple else if n= "list" then some .list else if n= "dict" then some .dict else none
theorem Ty.of_name{n:String}{T:Ty}(h:Ty.of n=some T):n=T.name:=by
 unfold Ty.of at h
 split at h
 ·rename_i e;cases h;exact e
 split at h
 ·rename_i e;cases h;exact e
 split at h
 ·rename_i e;cases h;exact e
 split at h
 ·rename_i e;cases h;exact e
 split at h
 ·rename_i e;cases h;exact e
 split at h
 ·rename_i e;cases h;exact e
 ·exact t6 h
inductive Kd where
 |non|bool|int|str|tuple|list|dict
noncomputable def Kd.is:Kd->Ty->Bool
 | .bool,.int=>true
 | .bool,.bool=>true
 | .int,.int=>true
 | .str,.str=>true
 | .tuple,.tuple=>true
 | .list,.list=>true
 | .dict,.dict=>true
 |_,_=>false
def Kd.name:Kd->String
 | .non=> "NoneType"| .bool=> "bool"| .int=> "int"| .str=> "str"| .tuple=> "tuple"| .list=> "list"| .dict=> "dict"
noncomputable def aT7(G:DH):D->Option Kd
 | .non=>some .non
 | .bl _=>some .bool
 | .int _=>some .int
 | .str _=>some .str
 | .tup _=>some .tuple
 | .ref i=>match G[i]? with
   |some (.lst _)=>some .list
   |some (.rol _)=>some .list
   |some (.dct _)=>some .dict
   |some (.rod _)=>some .dict
   |none=>none
 |_=>none
def bF3:List D->Option (List Ty)
 |[]=>some []
 | .ty n::r=>match Ty.of n,bF3 r with
   |some T,some Ts=>some (T::Ts)
   |_,_=>none
 |_=>none
def u9:List D->M D:=λds G=>match ds with
 |[d,.ty n]=>match aT7 G d,Ty.of n with
   |some k,some T=>some (.ok (.bl (k.is T)),G)
   |_,_=>none
 |[d,.tup l]=>match aT7 G d,bF3 l with
   |some k,some Ts=>some (.ok (.bl (Ts.any k.is)),G)
   |_,_=>none
 |_=>none
theorem dP5(K:zc)(k:Kd)(T:Ty):PySem.W.kitOne K (.type k.name) (.type T.name)=some (k.is T):=by
 cases k<;>cases T<;>rfl
theorem dJ8{A:zT}{E:VSP}{pins:PNS}{U:St}{s:zm}{d:D}{x:V}{v:zg}{k:Kd}(I:Inv X pins U H s)(hr:o5 (wc X) μ G H)(r:d7 (wc X) μ H d x)(rv:u5 x v)(e:aT7 G d=some k):
 ∃HH:Heap->Prop,PySem.W.KitX X.K v (.type k.name) HH/\HH s.heap/\v≠ .builtin "__main__.__loader__#opaque":=by
 rcases d with _|b|b|b|l|i|_|_<;>try (cases e;done)
 ·cases e;unfold d7 at r;subst r;cases rv;exact⟨_,PySem.W.kitx_none,True.intro,λz=>nomatch z⟩
 ·cases e;unfold d7 at r;subst r;cases rv;exact⟨_,PySem.W.kitx_bool,True.intro,λz=>nomatch z⟩
 ·cases e;unfold d7 at r;subst r;obtain⟨t,rfl⟩:=rv;exact⟨_,PySem.W.kitx_int,True.intro,λz=>nomatch z⟩
 ·cases e;unfold d7 at r;subst r;obtain⟨t,rfl⟩:=rv;exact⟨_,PySem.W.kitx_str,True.intro,λz=>nomatch z⟩
 ·
   cases e
   unfold d7 at r
   obtain⟨a,vs,rfl,q,_⟩:=r
   cases rv
   obtain⟨its,_,⟨o,h1,h2,_⟩,_⟩:=I.tuple q
   exact⟨_,PySem.W.kitx_tuple,⟨o,h1,h2⟩,λz=>nomatch z⟩
 ·
   unfold d7 at r
   obtain⟨a,m,rfl⟩:=r
   cases rv
   unfold aT7 at e
   rcases g:G[i]? with _|o
   ·simp only[g]at e;exact t6 e
   ·
     have ro:=hr.obj i o a g m
     simp only[g]at e
     rcases o with l|l|l|l
     ·
       cases e
       obtain⟨vs,q,_⟩:=ro
       obtain⟨its,_,⟨o,n,h1,h2,_⟩,_⟩:=I.list (SqL.of q)
       exact⟨_,XW,⟨o,h1,h2⟩,λz=>nomatch z⟩
     ·
       cases e
       obtain⟨vs,q,_⟩:=ro
       obtain⟨its,_,⟨o,n,h1,h2,_⟩,_⟩:=I.list q.sq
       exact⟨_,XW,⟨o,h1,h2⟩,λz=>nomatch z⟩
     ·
       cases e
       obtain⟨kvs,q,_⟩:=ro
       obtain⟨_,_,vs,_,o,es,ep,h1,h2,_⟩:=(show O7 X.prog X.w H s.heap a (.dK kvs)from I.hok a _ q)
       exact⟨_,XX,⟨o,h1,h2.1⟩,λz=>nomatch z⟩
     ·
       cases e
       obtain⟨kvs,ob,q,_⟩:=ro
       obtain⟨_,_,_,vs,_,o,es,ep,h1,h2,_⟩:=(show O7 X.prog X.w H s.heap a (.frz ob (.dK kvs))from I.hok a _ q)
       exact⟨_,XX,⟨o,h1,h2.1⟩,λz=>nomatch z⟩
theorem cH8:∀ {l:List D} {vs:List V} {us:List zg} {Ts:List Ty},bF3 l=some Ts->m6 c μ H l vs->o6 vs us->us=Ts.map λT=>.type T.name
 |[],_,_,_,e,r,q=>by cases e;cases r;cases q;rfl
 |d::ds,_,_,Ts,e,r,q=>by
   obtain⟨v,t,rfl,r0,rt⟩:=r
   cases q with
   |cons q0 qt=>
     rcases d with _|_|_|_|_|_|_|n<;>try (cases e;done)
     ·
       replace e:(match Ty.of n,bF3 ds with|some T,some Ts=>some (T::Ts)|_,_=>none)=some Ts:=e
       rcases h1:Ty.of n with _|T
       ·rw[h1]at e;exact t6 e
       ·
         rcases h2:bF3 ds with _|Ts'
         ·rw[h1,h2]at e;exact t6 e
         ·
           rw[h1,h2]at e
           cases e
           unfold d7 at r0
           subst r0
           rw[cH8 h2 rt qt,zA,show _=Value.type n from q0,Ty.of_name h1]
theorem cL5(K:zc)(k:Kd):∀Ts:List Ty,PySem.W.kitAny K (.type k.name) (Ts.map λT=>.type T.name)=some (Ts.any k.is)
 |[]=>rfl
 |T::Ts=>by
   have ih:=cL5 K k Ts
   cases k<;>cases T<;>first
    |rfl
    |exact ih
theorem cR3:R6 X Z (.builtin "isinstance") u9:=⟨by
 intro pins s U H xs us Q I r hE0
 obtain⟨ds,μ,G,rl,hr,p⟩:=hE0
 rcases ds with _|⟨d,_|⟨_|_|_|_|l|_|_|n,_|⟨_,_⟩⟩⟩<;>try exact p.elim
 all_goals (delta u9 at p;dsimp only at p)
 · obtain⟨v,t,rfl,r0,v1,t1,rfl,r1,e⟩:=rl
   cases e
   obtain⟨u,u',rfl,ru,ru'⟩:=cM2 r
   unfold d7 at r1
   obtain⟨a,vs,rfl,q,rll⟩:=r1
   cases ru'
   rcases hk:aT7 G d with _|k
   ·rw[hk]at p;exact p.elim
   ·
     rcases hT:bF3 l with _|Ts
     ·rw[hk,hT]at p;exact p.elim
     ·
       rw[hk,hT]at p
       obtain⟨HH,kx,hh,hne⟩:=dJ8 (A:=X.A) (E:=X.xe) I hr r0 ru hk
       obtain⟨its,rr,⟨⟨cls,dd,data,sl⟩,h1,h2,n,h3⟩,_⟩:=I.tuple q
       simp only at h2 h3
       subst h2 h3
       exact PySem.W.kia_tup kx I.kIn hh h1 (by rw[cH8 hT rll rr];exact cL5 X.K k Ts) hne λtk=>⟨.bl _,H,I.tok tk,rfl,c7.ok p hr _ ofB⟩
 · obtain⟨v,t,rfl,r0,v1,t1,rfl,r1,e⟩:=rl
   cases e
   obtain⟨u,u',rfl,ru,ru'⟩:=cM2 r
   unfold d7 at r1
   subst r1
   cases ru'
   rcases hk:aT7 G d with _|k
   ·rw[hk]at p;exact p.elim
   ·
     rcases hT:Ty.of n with _|T
     ·rw[hk,hT]at p;exact p.elim
     ·
       rw[hk,hT]at p
       rw[Ty.of_name hT]
       obtain⟨HH,kx,hh,hne⟩:=dJ8 (A:=X.A) (E:=X.xe) I hr r0 ru hk
       exact PySem.W.kia_one kx I.kIn hh (dP5 X.K k T) hne λtk=>⟨.bl _,H,I.tok tk,rfl,c7.ok p hr _ ofB⟩⟩
end
theorem cJ6{c:Wc}{μ:List Addr}{H:Hp}{l:List D}{vs:List V}{i:Int}{d:D}(r:m6 c μ H l vs)(e:atI l i=some d):∃v,atI vs i=some v/\d7 c μ H d v:=by
 unfold atI at e ⊢
 rw[<-r.length]
 cases h:ixN l.length i with
 |none=>rw[h]at e;cases e
 |some j=>
   rw[h]at e
   obtain⟨v,h1,h2⟩:=r.get e
   exact⟨v,h1,h2⟩
def ixD:D->D->M D:=λx y=>match x,y with
 | .tup l,.int i=>aJ5 (atI l i)
 | .str z,.int i=>if z.length<=zd then do
    let c <-aJ5 (atI z.cps.toList i)
    pure (.str ⟨#[c]⟩)
   else M.stuck
 | .ref r,.int i=>do
   let l <-N5 r >>= listOf
   aJ5 (atI l i)
 |_,_=>M.stuck
section
variable{X:Cx}{Z:XC}{a b e:Expr}{fa fb:Fe}{pos:Pos}
def IxD(X:Cx)(Z:XC)(o:D->D->M D):Prop:=IxR X (aM1 (wc X) Z o)
theorem eA0{o:D->D->M D}(ho:IxD X Z o)(ha:DE X Z a fa)(hb:DE X Z b fb)(hs:bQ8 b):DE X Z (.Subscript a b pos) (binE o fa fb):=DE.of (eO4 ho ha.h hb.h hs) aR8
theorem bY7{c:Wc}{μ:List Addr}{H:Hp}{G:DH}{r:Option D}{K:D->List Addr->DH->Hp->Prop}(h:o5 c μ G H)(p:c7 c Z μ H (aJ5 r G) K):∃d,r=some d/\K d μ G H:=by
 cases r with
 |none=>exact p.elim
 |some d=>exact⟨d,rfl,c7.ok p h⟩
theorem eO9:IxD X Z ixD:=IxR.mono (dT0.or (ix_tup.or ix_str)) λx y H Q hE0=>hE0.elim λdx dy μ G rx ry hr p=>by
 rcases dx with _|_|_|_|_|_|_|_<;>rcases dy with _|_|_|_|_|_|_|_<;>first
  |exact p.elim
  |skip
 · rename_i z i
   refine .inr (.inr ?_)
   unfold ixD at p
   dsimp only at p
   split at p
   · rename_i hz
     obtain⟨c,ec,p2⟩:=Z1 p
     exact⟨z,i,c,aE6 rx,aA4 ry,hz,ec,c7.ok p2 hr _ ofS⟩
   ·exact p.elim
 · rename_i l i
   refine .inr (.inl ?_)
   unfold d7 at rx
   obtain⟨a,vs,rfl,q,rl⟩:=rx
   obtain⟨d,ed,k⟩:=bY7 hr p
   obtain⟨v,ev,rv⟩:=cJ6 rl ed
   exact⟨a,vs,i,v,rfl,aA4 ry,q,ev,k v rv⟩
 · rename_i r i
   refine .inl ?_
   obtain⟨l,a,vs,rfl,rl,p2,hq⟩:=aN0 hr rx p
   obtain⟨d,ed,k⟩:=bY7 hr p2
   obtain⟨v,ev,rv⟩:=cJ6 rl ed
   rcases hq with⟨z,_⟩|⟨_,_,_,⟨_,q⟩|⟨_,q⟩⟩
   ·cases z
   ·exact⟨a,vs,i,v,rfl,aA4 ry,SqL.of q,ev,k v rv⟩
   ·exact⟨a,vs,i,v,rfl,aA4 ry,q.sq,ev,k v rv⟩
theorem eN8(ha:DE X Z a fa)(hb:DE X Z b fb)(hs:bQ8 b):DE X Z (.Subscript a b pos) (binE ixD fa fb):=eA0 eO9 ha hb hs
def cutD(xs:List D)(lo hi:Option Int):List D:=(xs.drop (HT.sIx xs.length 0 lo)).take (HT.sIx xs.length xs.length hi-HT.sIx xs.length 0 lo)
abbrev Fo:=DSt->M (Option Int)
def J4:Fo:=λ_=>pure none
def J3(f:Fe):Fo:=λU=>do
 match <-f U with
 | .int i=>pure (some i)
 |_=>M.stuck
def cG6(c:Wc)(Z:XC)(f:Fo):TO:=λU H Q=>∃X9 μ G,G9 c μ H X9 U/\o5 c μ G H/\c7 c Z μ H (f X9 G) λo _ _ H'=>Q o H'
theorem cG6.elim{c:Wc}{Z:XC}{P:Prop}{f:Fo}{U:St}{H:Hp}{Q:Option Int->Hp->Prop}(h:cG6 c Z f U H Q)(k:∀X9 μ G,G9 c μ H X9 U->o5 c μ G H->c7 c Z μ H (f X9 G) (λo _ _ H'=>Q o H')->P):P:=by
 obtain⟨e0,e1,e2,e3,e4,e5⟩:=h
 exact k e0 e1 e2 e3 e4 e5
structure DOp(X:Cx)(Z:XC)(e:Option Expr)(f:Fo):Prop where
 h:PO X e (cG6 (wc X) Z f)
theorem PO.mono{e:Option Expr}{t t':TO}(h:PO X e t)(k:∀ U H Q,t' U H Q->t U H Q):PO X e t':=λpins s U H Q I q=>h pins s U H Q I (k U H Q q)
theorem DOp.of{e:Option Expr}{f:Fo}{t:TO}(h:PO X e t)(k:∀ U H Q,cG6 (wc X) Z f U H Q->t U H Q):DOp X Z e f:=⟨PO.mono h k⟩
theorem dS7:DOp X Z none J4:=DOp.of dP3 λU H Q hE0=>hE0.elim λX9 μ G s h p=>c7.ok p h
theorem dU9(h:DE X Z e fa):DOp X Z (some e) (J3 fa):=DOp.of (dR9 h.h) λU H Q hE0=>hE0.elim λX9 μ G s h p=>⟨X9,μ,G,s,h,(c7.bind p).mono λd X0 G1 H1 x1 h1 p1 v rv=>by
 cases d with
 |int i=>exact⟨i,aA4 rv,c7.ok p1 h1⟩
 |_=>exact p1.elim⟩
def slD:D->Option Int->Option Int->M D:=λx lo hi=>match x with
 | .tup l=>pure (.tup (cutD l lo hi))
 | .ref r=>do
   let l <-N5 r >>= listOf
   M4 (.lst (cutD l lo hi))
 |_=>M.stuck
def SlD(X:Cx)(Z:XC)(o:D->Option Int->Option Int->M D):Prop:=
 SlR X λx lo hi H Q=>∃dx μ G,d7 (wc X) μ H dx x/\o5 (wc X) μ G H/\c7 (wc X) Z μ H (o dx lo hi G) λd X2 _ H'=>∀v,d7 (wc X) X2 H' d v->Q v H'
theorem SlR.mono{r r':V->Option Int->Option Int->Hp->VK->Prop}(h:SlR X r)(k:∀x lo hi H Q,r' x lo hi H Q->r x lo hi H Q):SlR X r':=λpins s U H x v vl vu lo hi sl Q I rx hs pl pu q=>h pins s U H x v vl vu lo hi sl Q I rx hs pl pu (k x lo hi H Q q)
theorem aO3{prog:zC}{w:zN}{A:zT}{E:VSP}{s:zm}{t sl:Addr}{items:Array zg}{vl vu:zg}{lo hi:Option Int}{Q:VSP}(ht:XM s.heap t items)(hs:s.heap.IsSliceOf sl vl vu .none)(pl:IsPart vl lo)(pu:IsPart vu hi)
 (hw:HT.sIx items.size 0 lo=0/\HT.sIx items.size items.size hi=items.size) (h:Q (.ref t) s):zt (zB prog w) A (Zw (.ref t) (.ref sl)) Q E s:=by
 obtain⟨os,hos,hcs,hds⟩:=id hs
 have hTs:s.TypeIs (.ref sl) "slice":=⟨os,hos,hcs⟩
 unfold Zw
 try with_reducible refine yt ?_
 first|refine za (zo ?_)|skip
 refine za (Yy ht.typeIs (by decide) ?_)
 refine za (jF ht.typeIs zO
  (jU zO ht.typeIs Yc ?_ (Yr _ _)))
 show zt _ _ (xw (.ref t) >>= _) _ _ s
 refine za (Jn ht ?_)
 refine za (Zu hTs ?_)
 rw[if_pos (by decide)]
 refine za (HT.sliceApplied_gen hs pl pu ?_)
 have hyes:(((HT.sIx items.size 0 lo:Nat):Int)==0&&(1:Int)==1&&(HT.sIx items.size items.size hi-HT.sIx items.size 0 lo)==items.size)=true:=by
  rw[hw.1,hw.2];simp
 show zt _ _ (if (((HT.sIx items.size 0 lo:Nat):Int)==0&&(1:Int)==1&&(HT.sIx items.size items.size hi-HT.sIx items.size 0 lo)==items.size)=true then _ else _) _ _ s
 rw[if_pos hyes]
 unfold Builtin.Tuple.tupleIsExact
 refine za (za (Zu ht.typeIs (zo ?_)))
 rw[if_pos (by decide)]
 exact za (XA (zo ⟨_,rfl,zo h⟩))
def eY4(K:zc):V->Option Int->Option Int->Hp->VK->Prop:=λx lo hi H Q=>∃a xs,x= .ref a/\SqT K H a xs/\(HT.sIx xs.length 0 lo=0/\HT.sIx xs.length xs.length hi=xs.length)/\Q (.ref a) H
theorem dP9:SlR X (eY4 X.K):=by
 intro pins s U H x v vl vu lo hi sl Q I rx hs pl pu h
 obtain⟨a,xs,rfl,hx,hw,q⟩:=h
 cases rx
 obtain⟨its,r,ht,hz⟩:=I.tuple hx
 have hlen:its.toArray.size=xs.length:=by rw[zk];exact r.length.symm
 exact⟨"tuple",_,zO.lookup,ht.typeIs,aO3 ht hs pl pu (by rw[hlen];exact hw) ⟨.ref a,H,I,rfl,q⟩⟩
theorem bR2{c:Wc}{μ:List Addr}{H:Hp}{l:List D}{vs:List V}(r:m6 c μ H l vs)(lo hi:Option Int):m6 c μ H (cutD l lo hi) (bG6 vs lo hi):=by
 unfold cutD bG6
 rw[r.length]
 exact(r.drop _).take _
theorem eT5:SlD X Z slD:=SlR.mono (sl_tup.or (dP9.or dS1)) λx lo hi H Q ⟨dx,μ,G,rx,hr,p⟩=>by
 rcases dx with _|_|_|_|l|r|_|_<;>try (exact p.elim;done)
 ·
   unfold d7 at rx
   obtain⟨a,vs,rfl,q,rl⟩:=rx
   by_cases hw:HT.sIx vs.length 0 lo=0/\HT.sIx vs.length vs.length hi=vs.length
   · refine .inr (.inl ⟨a,vs,rfl,q,hw,aV1 hr q ?_ p⟩)
     have e:bG6 vs lo hi=vs:=by unfold bG6;rw[hw.1,hw.2];simp
     have:=bR2 rl lo hi
     rw[e]at this
     exact this
   ·exact .inl ⟨a,vs,rfl,q,hw,λp' hp=>aL6 hr (bR2 rl lo hi) p p' hp⟩
 ·
   obtain⟨l,a,vs,rfl,rl,p2,hq⟩:=aN0 hr rx p
   have hs:SqL (wc X).K H a vs:=by
    rcases hq with⟨z,_⟩|⟨_,_,_,⟨_,q⟩|⟨_,q⟩⟩
    ·cases z
    ·exact SqL.of q
    ·exact q.sq
   exact .inr (.inr ⟨a,vs,rfl,hs,λp' hp=>R8 hr (bR2 rl lo hi) p2 p' hp⟩)
variable{lo hi:Option Expr}{fl fh:Fo}{p2:Pos}
theorem aU3{prog:zC}{w:zN}{A:zT}{E:VSP}{s:zm}{sl:Addr}{t:Tok}{n:Nat}{Q:Int×Int×Nat->zm->Prop}(hs:s.heap.IsSliceOf sl .none .none (.int (-1) t))
 (h:Q ((n:Int)-1, -1,n) s):zt (zB prog w) A (yA (.ref sl) (pure (n:Int))) Q E s:=by
 obtain⟨os,hos,hcs,hds⟩:=id hs
 unfold yA ZM
 refine za (za (zV hos hds rfl (za (zV hos hds rfl (za (zV hos hds rfl (zo ?_)))))))
 refine za (slicePart_int ?_)
 show zt _ _ (if ((-1:Int)==0)=true then _ else _) _ _ s
 rw[if_neg (by decide)]
 refine za (ZS (za (ZS (za (zo ?_)))))
 have e1:jD none none (-1) (n:Int)= ((n:Int)-1, -1):=by simp[jD]
 have e2:jj ((n:Int)-1) (-1) (-1)=n:=by
  unfold jj
  rw[if_neg (by decide)]
  by_cases h0:n=0
  ·subst h0;rfl
  · rw[if_pos (by lia)]
    have e:((n:Int)-1 - -1-1) / (- -1)+1=n:=by
     rw[show (- -1:Int)=1 by decide,XU];lia
    rw[e];simp
 show zt _ _ (match jD none none (-1) (n:Int) with|(lo,hi)=>pure (lo,(-1:Int),jj lo hi (-1))) _ _ s
 rw[e1]
 show zt _ _ (pure ((n:Int)-1,(-1:Int),jj ((n:Int)-1) (-1) (-1))) _ _ s
 rw[e2]
 exact zo h
theorem dE1(l:List zg):((ja l.length).filterMap fun(k:Nat)=>l.toArray[(((l.length:Nat):Int)-1+(k:Int)*(-1)).toNat]?)=l.reverse:=by
 have gen:∀n,n<=l.length->((ja n).filterMap fun(k:Nat)=>l.toArray[(((l.length:Nat):Int)-1+(k:Int)*(-1)).toNat]?)=l.reverse.take n:=by
  intro n
  induction n with
  |zero=>intro _;simp
  |succ n ih=>
    intro hn
    rw[List.range_succ,List.filterMap_append,ih (by lia)]
    have hlt:n<l.reverse.length:=by simp;lia
    rw[List.take_succ_eq_append_getElem hlt]
    congr 1
    have e1:(((l.length:Nat):Int)-1+(n:Int)*(-1)).toNat=l.length-1-n:=by lia
    have hlt2:l.length-1-n<l.length:=by omega
    show xr _ [n]=_
    rw[jd,e1]
    have e2:l.toArray[l.length-1-n]? =some l[l.length-1-n]:=by simp[hlt2]
    rw[e2]
    simp
 have:=gen l.length (zj _)
 rw[this]
 rw[yB (by simp)]
theorem aT1{prog:zC}{w:zN}{A:zT}{E:VSP}{s:zm}{t sl:Addr}{tk:Tok}{its:List zg}{Q:VSP}(ht:XM s.heap t its.toArray)(hs:s.heap.IsSliceOf sl .none .none (.int (-1) tk))
 (h:Q (.ref s.heap.objs.size) {s with heap:=s.heap.push {cls:=.type "tuple",data:=.seq its.reverse.toArray}}) (hsz:its.length<=zd):zt (zB prog w) A (Zw (.ref t) (.ref sl)) Q E s:=by
 have htake:sizeOk (.seq its.reverse.toArray):=by
  show its.reverse.toArray.size<=zd
  rw[zk,ya];exact hsz
 obtain⟨os,hos,hcs,hds⟩:=id hs
 have hTs:s.TypeIs (.ref sl) "slice":=⟨os,hos,hcs⟩
 unfold Zw
 try with_reducible refine yt ?_
 first|refine za (zo ?_)|skip
 refine za (Yy ht.typeIs (by decide) ?_)
 refine za (jF ht.typeIs zO
  (jU zO ht.typeIs Yc ?_ (Yr _ _)))
 show zt _ _ (xw (.ref t) >>= _) _ _ s
 refine za (Jn ht ?_)
 refine za (Zu hTs ?_)
 rw[if_pos (by decide)]
 refine za (aU3 hs ?_)
 show zt _ _ (if ((((its.toArray.size:Nat):Int)-1)==0&&(-1:Int)==1&&its.toArray.size==its.toArray.size)=true then _ else _) _ _ s
 rw[if_neg (by simp)]
 have e:=dE1 its
 have e2:((ja its.toArray.size).filterMap fun(k:Nat)=>its.toArray[(((its.toArray.size:Nat):Int)-1+(k:Int)*(-1)).toNat]?)=its.reverse:=by
  rw[zk];exact e
 rw[e2]
 first
  |exact za (jq (zo ⟨_,rfl,zo h⟩) htake)
  |exact za (jq (za (zo (zo ⟨_,rfl,zo h⟩))) htake)
  |exact za (za (jq (zo (zo ⟨_,rfl,zo h⟩)) htake))
  |exact za (za (jq (zo ⟨_,rfl,zo h⟩) htake))
def eV4:D->M D:=λx=>match x with
 | .tup l=>pure (.tup l.reverse)
 | .ref r=>do
   let l <-N5 r >>= listOf
   M4 (.lst l.reverse)
 |_=>M.stuck
end
noncomputable def aZ3(r:Nat)(o:DO):M Unit:=λG=>some (.ok (),G.set r o)
noncomputable def aY2(l:List (Key×D))(k:Key)(d:D):List (Key×D):=if l.any (λkv=>decide (kv.1=k))then l.map (λkv=>if kv.1=k then (kv.1,d)else kv)else l++[(k,d)]
def bZ5:D->D->D->M Unit:=λo i d=>match o with
 | .ref r=>do
   match <-N5 r with
   | .lst l=>match i with
     | .int k=>match ixN l.length k with
       |some j=>aZ3 r (.lst (l.set j d))
       |none=>M.stuck
     |_=>M.stuck
   | .dct l=>match cU2 i with
     |some k=>if l.length<zd then aZ3 r (.dct (aY2 l k d))else M.stuck
     |none=>M.stuck
   | .rol _=>M.stuck
   | .rod _=>M.stuck
 |_=>M.stuck
def bF9(fo fi:Fe):Fg:=λd U=>do
 let o <-fo U
 let i <-fi U
 let _ <-bZ5 o i d
 pure U
section
variable{X:Cx}{Z:XC}{μ:List Addr}{H:Hp}{G:DH}
theorem dE0(rv:d7 c μ H d v):∀ {l} {kvs},Z4 c μ H l kvs->Z4 c μ H (aY2 l k d) (aV8 kvs k v):=by
 have any_eq:∀ {l:List (Key×D)} {kvs:List (Key×V)},Z4 c μ H l kvs->(l.any λkv=>decide (kv.1=k))= (kvs.any λkv=>decide (kv.1=k)):=by
  intro l
  induction l with
  |nil=>intro kvs r;cases r;rfl
  |cons p t ih=>
    intro kvs r
    obtain⟨v',kt,rfl,_,rt⟩:=r
    rw[yc,yc,ih rt]
 have map_eq:∀ {l:List (Key×D)} {kvs:List (Key×V)},Z4 c μ H l kvs->Z4 c μ H (l.map λkv=>if kv.1=k then (kv.1,d)else kv) (kvs.map λkv=>if kv.1=k then (kv.1,v)else kv):=by
  intro l
  induction l with
  |nil=>intro kvs r;cases r;rfl
  |cons p t ih=>
    intro kvs r
    obtain⟨k',d'⟩:=p
    obtain⟨v',kt,rfl,q,rt⟩:=r
    rw[zA,zA]
    by_cases e:k'=k
    · simp only[e,if_true]
      exact⟨v,_,rfl,rv,ih rt⟩
    · simp only[e,if_false]
      exact⟨v',_,rfl,q,ih rt⟩
 have app_eq:∀ {l:List (Key×D)} {kvs:List (Key×V)},Z4 c μ H l kvs->Z4 c μ H (l++[(k,d)]) (kvs++[(k,v)]):=by
  intro l
  induction l with
  |nil=>intro kvs r;cases r;exact⟨v, [],rfl,rv,rfl⟩
  |cons p t ih=>
    intro kvs r
    obtain⟨v',kt,rfl,q,rt⟩:=r
    exact⟨v',_,rfl,q,ih rt⟩
 intro l kvs r
 unfold aY2 aV8
 rw[any_eq r]
 split
 ·exact map_eq r
 ·exact app_eq r
theorem Z4.length:∀ {l} {kvs},Z4 c μ H l kvs->l.length=kvs.length
 |[],_,r=>by cases r;rfl
 |_::_,_,r=>by obtain⟨_,_,rfl,_,t⟩:=r;simp[Z4.length t]
theorem bY9{Q:List Addr->DH->Hp->Prop}(h:o5 c μ G H)(g:G[r]? =some o)(n:¬aH7 (some o))(m:μ[r]? =some a)(n':¬aH7 (some o'))(ho:∀x:Ext μ H μ (upd H a u),aE3 c μ (upd H a u) a o')
 (p:c7 c Z μ H (aZ3 r o' G) λ_ X2 G' H'=>Q X2 G' H'):Q μ (G.set r o') (upd H a u):=by
 obtain⟨u',e,n1,n2⟩:=(h.obj r o a g m).some_of n
 have x:Ext μ H μ (upd H a u):=Ext.mut (jn m) e n1 n2 u
 exact p μ _ x (h.set g n m x n' (ho x))
def bN2(c:Wc)(Z:XC)(f:D->D->D->M Unit):TSet:=λo i v H Q=>∃d1 d2 d3 μ G,d7 c μ H d1 o/\d7 c μ H d2 i/\d7 c μ H d3 v/\o5 c μ G H/\c7 c Z μ H (f d1 d2 d3 G) λ_ _ _ H'=>Q H'
theorem bN2.elim{P:Prop}{o:V}{i:V}{v:V}{H:Hp}(h:bN2 c Z f o i v H Q)(k:∀d1 d2 d3 μ G,d7 c μ H d1 o->d7 c μ H d2 i->d7 c μ H d3 v->o5 c μ G H->c7 c Z μ H (f d1 d2 d3 G) (λ_ _ _ H'=>Q H')->P):P:=by
 obtain⟨e0,e1,e2,e3,e4,e5,e6,e7,e8,e9⟩:=h
 exact k e0 e1 e2 e3 e4 e5 e6 e7 e8 e9
theorem eG4(hu:X.A.units+64<xz):eJ3 X (bN2 (wc X) Z bZ5):=by
 intro pins s U H o i v ov iv u Q I ro ri rv hE0
 obtain⟨d1,d2,d3,μ,G,r1,r2,r3,hr,p⟩:=hE0
 rcases d1 with _|_|_|_|_|r|_|_<;>try (exact p.elim;done)
 ·
   unfold d7 at r1
   obtain⟨a,m,rfl⟩:=r1
   obtain⟨ob,g,p1⟩:=K6 p
   have rob:=hr.obj r ob a g m
   rcases ob with l|l|l|l
   ·
     obtain⟨vs,ea,rl⟩:=rob
     rcases d2 with _|_|k|_|_|_|_|_<;>try (exact p1.elim;done)
     ·
       dsimp only at p1
       rcases hk:ixN l.length k with _|j
       ·simp only[hk]at p1;exact p1.elim
       ·
         simp only[hk]at p1
         exact dH7 pins s U H (.ref a) i v ov iv u Q I ro ri rv ⟨a,vs,k,j,rfl,aA4 r2,ea,by rw[<-rl.length];exact hk,bY9 (o':=.lst (l.set j d3)) hr g (λz=>z) m (λz=>z) (λx=>⟨_,M5,(rl.mono x).set (r3.mono x) j⟩) p1⟩
   ·exact p1.elim
   ·
     obtain⟨kvs,ea,rk⟩:=rob
     dsimp only at p1
     rcases hk:cU2 d2 with _|k
     ·simp only[hk]at p1;exact p1.elim
     ·
       simp only[hk]at p1
       split at p1
       · rename_i hz
         have ei:=cK0 hk r2
         subst ei
         cases ro
         refine cT0 (by lia) I (dT1.k ea (by rw[<-rk.length];exact hz)) ri rv λs' I'=>⟨_,I',?_⟩
         exact bY9 (o':=.dct (aY2 l k d3)) hr g (λz=>z) m (λz=>z) (λx=>⟨_,M5,dE0 (r3.mono x) (rk.mono x)⟩) p1
       ·exact p1.elim
   ·exact p1.elim
variable{a b e o i:Expr}{fa fb fo fi:Fe}
theorem eA5(hu:X.A.units+64<xz)(ho:DE X Z o fo)(hi:DE X Z i fi)
 (ha:∀v,Zg (.Subscript o i pos) X.env v= (do
   let ov <-ZV [v] (eval o X.env)
   let iv <-ZV [v,ov] (eval i X.env)
   standAt pos
   ZV [v,ov,iv] (setItem ov iv v)
   release [v,ov,iv] [])):DG X Z (.Subscript o i pos) (bF9 fo fi):=
 DG.of (eC5 ho.h hi.h (eG4 hu) ha) λv U H Q hE0=>hE0.elim λd X9 μ G r s h p=>⟨X9,μ,G,s,h,(c7.bind p).mono λd1 X0 G1 H1 x1 h1 p1 v1 r1=>
  ⟨X9,X0,G1,s.mono x1,h1,(c7.bind p1).mono λd2 WX G2 H2 x2 h2 p2 v2 r2=>⟨d1,d2,d,WX,G2,r1.mono x2,r2,r.mono (x1.trans x2),h2,(c7.bind p2).mono λ_ μ3 G3 H3 x3 h3 p3=>c7.ok p3 h3 U (s.mono (x1.trans (x2.trans x3)))⟩⟩⟩
def bB0:Fe:=λ_=>M4 (.dct [])
theorem dB3:DE X Z (.Dict [] [] pos) bB0:=DE.of dG9 λU H Q hE0=>hE0.elim λX9 μ G s h p q hq=>by
 have k:Ext μ H (μ++[q]) (upd H q (.dK [])):=Ext.add hq _
 refine p (μ++[q]) _ k (h.new hq ⟨[],M5,rfl⟩) _ ?_
 unfold d7
 exact⟨q,by rw[<-h.len];simp,rfl⟩
def W3:D->M Unit:=λx=>match x with
 | .ref r=>do
   match <-N5 r with
   | .lst _=>pure ()
   |_=>M.stuck
 |_=>M.stuck
noncomputable def mtE(t:D->M Unit)(m:D->List D->M D)(fo:Fe)(fs:DSt->M (List D)):Fe:=λU=>do
 let x <-fo U
 let _ <-t x
 let xs <-fs U
 m x xs
def lstM(r:Nat):M (List D):=do
 match <-N5 r with
 | .lst l=>pure l
 |_=>M.stuck
def aR3:D->List D->M D:=λx xs=>match x,xs with
 | .ref r, [y]=>do
   let l <-lstM r
   if l.length<zd then do
    let _ <-aZ3 r (.lst (l++[y]))
    pure .non
   else M.stuck
 |_,_=>M.stuck
def aQ7:D->List D->M D:=λx xs=>match x,xs with
 | .ref r, [.ref q]=>do
   let l <-lstM r
   let k <-lstM q
   if l.length+k.length<=zd then do
    let _ <-aZ3 r (.lst (l++k))
    pure .non
   else M.stuck
 |_,_=>M.stuck
def dC3:D->List D->M D:=λx xs=>match x,xs with
 | .ref r, []=>do
   let l <-lstM r
   match l.getLast? with
   |some y=>do
     let _ <-aZ3 r (.lst l.dropLast)
     pure y
   |none=>M.stuck
 |_,_=>M.stuck
theorem aN7{a:Addr}{f:List D->M α}{K:α->List Addr->DH->Hp->Prop}(h:o5 c μ G H)(m:μ[r]? =some a)(p:c7 c Z μ H ((lstM r >>= f) G) K):
 ∃l vs,G[r]? =some (.lst l)/\H a=some (.lst vs)/\m6 c μ H l vs/\c7 c Z μ H (f l G) K:=by
 have p':c7 c Z μ H ((N5 r >>= λo=>(match o with| .lst l=>pure l|_=>M.stuck:M (List D)) >>= f) G) K:=by rw[<-M.bind_assoc];exact p
 obtain⟨o,g,p2⟩:=K6 p'
 have ro:=h.obj r o a g m
 rcases o with l|_|_|_<;>try (exact p2.elim;done)
 ·obtain⟨vs,e,rl⟩:=ro;exact⟨l,vs,g,e,rl,p2⟩
def MtD(X:Cx)(Z:XC)(id:String)(m:D->List D->M D):Prop:=
 MtR X id λx xs H Q=>∃d ds μ G,d7 (wc X) μ H d x/\m6 (wc X) μ H ds xs/\o5 (wc X) μ G H/\c7 (wc X) Z μ H (m d ds G) λd X2 _ H'=>∀v,d7 (wc X) X2 H' d v->Q v H'
theorem bA9{r:Nat}{a:Addr}{f:M α}{K:α->List Addr->DH->Hp->Prop}(h:o5 c μ G H)(g:G[r]? =some (.lst l))(m:μ[r]? =some a)(rl:∀x:Ext μ H μ (upd H a (.lst vs')),m6 c μ (upd H a (.lst vs')) l' vs')
 (p:c7 c Z μ H ((aZ3 r (.lst l') >>= λ_=>f) G) K):Ext μ H μ (upd H a (.lst vs'))/\o5 c μ (G.set r (.lst l')) (upd H a (.lst vs'))/\c7 c Z μ (upd H a (.lst vs')) (f (G.set r (.lst l'))) K:=by
 obtain⟨u',e,n1,n2⟩:=(h.obj r _ a g m).some_of (λz=>z)
 have x:Ext μ H μ (upd H a (.lst vs')):=Ext.mut (jn m) e n1 n2 _
 have h':o5 c μ (G.set r (.lst l')) (upd H a (.lst vs')):=h.set g (λz=>z) m x (λz=>z) ⟨vs',M5,rl x⟩
 exact⟨x,h',c7.from p x⟩
theorem cO9:MtD X Z "list.append" aR3:=by
 intro pins s U H x xs v us Q I rx rs hE0
 obtain⟨d,ds,μ,G,rd,rds,hr,p⟩:=hE0
 rcases d with _|_|_|_|_|r|_|_<;>try (exact p.elim;done)
 ·
   unfold d7 at rd
   obtain⟨a,m,rfl⟩:=rd
   rcases ds with _|⟨y,t⟩
   ·exact p.elim
   ·
     rcases t with _|⟨_,_⟩
     ·
       obtain⟨yv,tv,rfl,ry,e⟩:=rds
       cases e
       obtain⟨l,vs,g,ea,rl,p1⟩:=aN7 hr m p
       split at p1
       · rename_i hz
         obtain⟨x1,h1,p2⟩:=bA9 hr g m (λx=>(rl.mono x).append (m6.cons (ry.mono x) m6.nil)) p1
         exact bI6 pins s U H (.ref a) [yv] v us Q I rx rs ⟨a,vs,yv,rfl,rfl,ea,by rw[<-rl.length];exact hz,c7.ok p2 h1 _ ofN⟩
       ·exact p1.elim
     ·exact p.elim
theorem cN7:MtD X Z "list.extend" aQ7:=by
 intro pins s U H x xs v us Q I rx rs hE0
 obtain⟨d,ds,μ,G,rd,rds,hr,p⟩:=hE0
 rcases d with _|_|_|_|_|r|_|_<;>try (exact p.elim;done)
 ·
   unfold d7 at rd
   obtain⟨a,m,rfl⟩:=rd
   rcases ds with _|⟨y,t⟩
   ·exact p.elim
   ·
     rcases t with _|⟨_,_⟩
     ·
       obtain⟨yv,tv,rfl,ry,e⟩:=rds
       cases e
       rcases y with _|_|_|_|_|q|_|_<;>try (exact p.elim;done)
       ·
         unfold d7 at ry
         obtain⟨b,m2,rfl⟩:=ry
         obtain⟨l,vs,g,ea,rl,p1⟩:=aN7 hr m p
         obtain⟨k,ws,g2,eb,rk,p2⟩:=aN7 hr m2 p1
         split at p2
         · rename_i hz
           obtain⟨x1,h1,p3⟩:=bA9 hr g m (λx=>(rl.mono x).append (rk.mono x)) p2
           exact cQ0 pins s U H (.ref a) [.ref b] v us Q I rx rs ⟨a,b,vs,ws,rfl,rfl,ea,eb,by rw[<-rl.length,<-rk.length];exact hz,c7.ok p3 h1 _ ofN⟩
         ·exact p2.elim
     ·cases y<;>exact p.elim
theorem eI0:MtD X Z "list.pop" dC3:=by
 intro pins s U H x xs v us Q I rx rs hE0
 obtain⟨d,ds,μ,G,rd,rds,hr,p⟩:=hE0
 rcases d with _|_|_|_|_|r|_|_<;>try (exact p.elim;done)
 ·
   unfold d7 at rd
   obtain⟨a,m,rfl⟩:=rd
   rcases ds with _|⟨_,_⟩
   ·
     cases rds
     obtain⟨l,vs,g,ea,rl,p1⟩:=aN7 hr m p
     rcases hy:l.getLast? with _|y
     ·simp only[hy]at p1;exact p1.elim
     ·
       simp only[hy]at p1
       obtain⟨x1,h1,p2⟩:=bA9 hr g m (λx=>(rl.mono x).dropLast) p1
       rw[List.getLast?_eq_getElem?]at hy
       obtain⟨yv,e1,ry⟩:=rl.get hy
       rw[rl.length]at e1
       exact eL9 pins s U H (.ref a) [] v us Q I rx rs ⟨a,vs,yv,rfl,rfl,ea,e1,c7.ok p2 h1 _ (ry.mono x1)⟩
   ·exact p.elim
variable{es:List Expr}{fs:DSt->M (List D)}{name:Str}{apos cpos:Pos}{id:String}{mm:D->List D->M D}
theorem aW9{f:Unit->M α}{K:α->List Addr->DH->Hp->Prop}(h:o5 c μ G H)(r:d7 c μ H d v)(p:c7 c Z μ H ((W3 d >>= f) G) K):tyV c.K "list" v H/\c7 c Z μ H (f () G) K:=by
 rcases d with _|_|_|_|_|i|_|_<;>try (exact p.elim;done)
 ·
   unfold d7 at r
   obtain⟨a,m,rfl⟩:=r
   have p':c7 c Z μ H ((N5 i >>= λo=>(match o with| .lst _=>pure ()|_=>M.stuck:M Unit) >>= f) G) K:=by rw[<-M.bind_assoc];exact p
   obtain⟨o,g,p2⟩:=K6 p'
   have ro:=h.obj i o a g m
   rcases o with l|_|_|_<;>try (exact p2.elim;done)
   ·obtain⟨vs,e,rl⟩:=ro;exact⟨.inl ⟨rfl,vs,SqL.of e⟩,p2⟩
theorem dW3(slot:Slot "list" name id)(hty:typeOf (.builtin id)=pure (.type "method_descriptor"))(hm:MtD X Z id mm)(ho:DE X Z o fo)(ha:DA X Z (e::es) fs)
 (hbase:xl o name X.env (eval o X.env)=eval o X.env)
 (hfew:((yb cpos (zy (e::es) X.env)).all (λx=> !x.1)&&(XE cpos (ZQ [] X.env)).all (λx=>x.1.isSome)
   && decide ((e::es).length+([]:List Keyword).length+(if ([]:List Keyword).isEmpty then 0 else 1)<30))=true)
 (hline:(apos.endLine==cpos.line)=true) (hs:zy (e::es) X.env= (false,eval e X.env)::zy es X.env) (hplain:(yb cpos (zy es X.env)).any (·.1)=false):
 DE X Z (.Call (.Attribute o name apos) (e::es) [] cpos) (mtE W3 mm fo fs):=
 DE.of (dZ3 YL slot hty hm ho.h ha.h hbase hfew hline hs hplain) λU H Q hE0=>hE0.elim λX9 μ G s h p=>⟨X9,μ,G,s,h,(c7.bind p).mono λd X0 G1 H1 x1 h1 p1 v rv=>by
  obtain⟨ty,p2⟩:=aW9 h1 rv p1
  exact⟨ty,X9,X0,G1,s.mono x1,h1,(c7.bind p2).mono λds WX G2 H2 x2 h2 p3 vs rvs=>⟨d,ds,WX,G2,rv.mono x2,rvs,h2,p3⟩⟩⟩
theorem eB0(slot:Slot "list" name id)(hty:typeOf (.builtin id)=pure (.type "method_descriptor"))(hm:MtD X Z id mm)(ho:DE X Z o fo)
 (hbase:xl o name X.env (eval o X.env)=eval o X.env) (hline:(apos.endLine==cpos.line)=true):DE X Z (.Call (.Attribute o name apos) [] [] cpos) (mtE W3 mm fo q11):=
 DE.of (eG2 YL slot hty hm ho.h hbase hline) λU H Q hE0=>hE0.elim λX9 μ G s h p=>⟨X9,μ,G,s,h,(c7.bind p).mono λd X0 G1 H1 x1 h1 p1 v rv=>by
  obtain⟨ty,p2⟩:=aW9 h1 rv p1
  exact⟨ty,d, [],X0,G1,rv,rfl,h1,p2⟩⟩
end
noncomputable def SI(k:Bool)(h:Heap)(it a:Addr)(i:Nat):Prop:=if k then h.IsTupleIter it a i else h.IsListIter it a i
noncomputable def SC(k:Bool)(h:Heap)(a:Addr)(items:Array zg):Prop:=if k then h.IsTuple a items else h.IsList a items
section
variable{prog:zC}{w:zN}{A:zT}{E:VSP}{s:zm}
theorem SI.keep(x:SI k h it a i)(q:∀o,h.get? it=some o->h'.get? it=some o):SI k h' it a i:=by
 rcases k with _|_
 ·exact Heap.IsListIter.at (show h.IsListIter it a i from x) q
 ·exact Heap.IsTupleIter.at (show h.IsTupleIter it a i from x) q
theorem SC.keep(x:SC k h a its)(q:∀o,h.get? a=some o->h'.get? a=some o):SC k h' a its:=by
 rcases k with _|_
 ·obtain⟨o,e,r⟩:=(show h.IsList a its from x);exact⟨o,q o e,r⟩
 ·obtain⟨o,e,r⟩:=(show h.IsTuple a its from x);exact⟨o,q o e,r⟩
theorem SI.there(x:SI k h it a i):∃o,h.get? it=some o/\∀v,o.data≠ .cell v:=by
 rcases k with _|_
 ·obtain⟨o,e,c,d⟩:=(show h.IsListIter it a i from x);exact⟨o,e,λv z=>by rw[d]at z;cases z⟩
 ·obtain⟨o,e,c,d⟩:=(show h.IsTupleIter it a i from x);exact⟨o,e,λv z=>by rw[d]at z;cases z⟩
theorem aR2(hit:s.heap.IsTupleIter it t i)(ht:s.heap.IsTuple t items)(hx:items[i]? =some x)
 (hQ:∀h',h'.IsTupleIter it t (i+1)->xp it s.heap h'->Q x {s with heap:=h'}):zt (zB prog w) A (zU (.ref it)) Q E s:=by
 obtain⟨ob,hob,hcls,hdat⟩:=id hit
 obtain⟨ot,hot,_,nt,hdt⟩:=ht
 unfold zU
 refine za (jF hit.typeIs yV (jU yV hit.typeIs Xl ?_ (Xe _)))
 show zt _ _ (Jt (.ref it) 0 >>= _) _ _ s
 refine za (zV hob hdat rfl ?_)
 show zt _ _ (if (Value.ref t==Value.none)=true then _ else _) _ _ s
 rw[if_neg (show ¬((Value.ref t==Value.none)=true)from zJ)]
 show zt _ _ (Jt (.ref it) 1 >>= _) _ _ s
 refine za (zV hob hdat rfl ?_)
 show zt _ _ (seqItems? (.ref t) >>= _) _ _ s
 refine za (yj hot hdt ?_)
 simp only[jA,hx]
 refine za (xc hob hdat (by simp) (zo ⟨x,rfl,zo (hQ _ ?_ (YD ..))⟩))
 exact⟨_,yi _ hob (xy (yE hdat _)),(Obj.cls_mapFields ..).trans hcls,by rw[yE hdat];simp[xg]⟩
theorem aW1(hh:A.handled=none)(hit:s.heap.IsTupleIter it t i)(ht:s.heap.IsTuple t items)(hx:items[i]? =none)
 (hE:∀h' e,Heap.ExtBut it s.heap h'->(∃o,h'.get? e=some o/\o.cls= .type "StopIteration")->E (.ref e) {s with heap:=h'}):zt (zB prog w) A (zU (.ref it)) Q E s:=by
 obtain⟨ob,hob,hcls,hdat⟩:=id hit
 obtain⟨ot,hot,_,nt,hdt⟩:=ht
 unfold zU
 refine za (jF hit.typeIs yV (jU yV hit.typeIs Xl ?_ (Xe _)))
 show zt _ _ (Jt (.ref it) 0 >>= _) _ _ s
 refine za (zV hob hdat rfl ?_)
 show zt _ _ (if (Value.ref t==Value.none)=true then _ else _) _ _ s
 rw[if_neg (show ¬((Value.ref t==Value.none)=true)from zJ)]
 show zt _ _ (Jt (.ref it) 1 >>= _) _ _ s
 refine za (zV hob hdat rfl ?_)
 show zt _ _ (seqItems? (.ref t) >>= _) _ _ s
 refine za (yj hot hdt ?_)
 simp only[jA,hx]
 refine za (XA (za (xc hob hdat (by simp) ?_)))
 show zt _ _ (newExc (.type "StopIteration") [] >>= _) _ _ _
 refine za ?_
 simp only[newExc,newTuple]
 refine za (jq ?_ (by size_fits))
 refine za (wpAny_of_eq (by first|rfl|(simp only[firstArgMember];rfl)) ?_)
 refine jq ?_ (by size_fits)
 delta raiseNew;dsimp only
 refine za (wpAny_handled ?_)
 first|rw[show A.in1.handled=none from hh]|rw[hh]
 refine za (zo (wpAny_throw ?_))
 exact hE _ _ (((YD ..).extBut.push _).push _) ⟨_,zq _ rfl,rfl⟩
theorem aM3(hit:SI k s.heap it a i)(hl:SC k s.heap a items)(hx:items[i]? =some x)
 (hQ:∀h',SI k h' it a (i+1)->xp it s.heap h'->Q x {s with heap:=h'}):zt (zB prog w) A (zU (.ref it)) Q E s:=by
 rcases k with _|_
 ·exact wpAny_nextOf_list_item hit hl hx hQ
 ·exact aR2 hit hl hx hQ
theorem bB1(hh:A.handled=none)(hit:SI k s.heap it a i)(hl:SC k s.heap a items)(hx:items[i]? =none)
 (hE:∀h' e,Heap.ExtBut it s.heap h'->(∃o,h'.get? e=some o/\o.cls= .type "StopIteration")->E (.ref e) {s with heap:=h'}):zt (zB prog w) A (zU (.ref it)) Q E s:=by
 rcases k with _|_
 ·exact wpAny_nextOf_list_end hh hit hl hx hE
 ·exact aW1 hh hit hl hx hE
structure ZA(z TI TO i1 i2:Addr):Prop where
 TIz:TI≠z
 TOz:TO≠z
 i1z:i1≠z
 i2z:i2≠z
 TITO:TI≠TO
 TIi1:TI≠i1
 TIi2:TI≠i2
 TOi1:TO≠i1
 TOi2:TO≠i2
 i12:i1≠i2
theorem eS9(n:Nat):ZA (n+4:Nat) (n+2:Nat) (n+3:Nat) n (n+1:Nat):=⟨(by show @Ne Nat _ _;lia),(by show @Ne Nat _ _;lia),(by show @Ne Nat _ _;lia),(by show @Ne Nat _ _;lia),(by show @Ne Nat _ _;lia),(by show @Ne Nat _ _;lia),(by show @Ne Nat _ _;lia),(by show @Ne Nat _ _;lia),(by show @Ne Nat _ _;lia),(by show @Ne Nat _ _;lia)⟩
theorem dH8(h:l<n):¬ @Ja Addr (List Addr) Jo [(n+4:Nat),(n+3:Nat),n,(n+1:Nat)] l:=by
 simp only[zi,zn,or_false,not_or]
 exact⟨(by show ¬ @Eq Nat _ _;lia),(by show ¬ @Eq Nat _ _;lia),(by show ¬ @Eq Nat _ _;lia),(by show ¬ @Eq Nat _ _;lia)⟩
theorem eV9(hb: @Ja Addr (List Addr) Jo [(n+4:Nat),(n+2:Nat),(n+3:Nat),n,(n+1:Nat)] b): @LE.le Nat instLENat n b:=by
 simp only[zi,zn,or_false]at hb
 rcases hb with rfl|rfl|rfl|rfl|rfl<;>(show @LE.le Nat instLENat _ _;lia)
variable{z TI TO i1 i2 l1 l2:Addr}{xs ys:Array zg}{k1 k2:Bool}{i:Nat}
theorem dD3{Q:VSP}(Ap:ZA z TI TO i1 i2)(n1:l1∉ [z,TO,i1,i2])(n2:l2∉ [z,TO,i1,i2])
 (hz:xR s.heap z TI TO .none) (hTI:yh s.heap TI (.ref i1) (.ref i2)) (hTO:yh s.heap TO a b)
 (h1:SI k1 s.heap i1 l1 i) (h2:SI k2 s.heap i2 l2 i) (hl1:SC k1 s.heap l1 xs) (hl2:SC k2 s.heap l2 ys) (hx:xs[i]? =some x) (hy:ys[i]? =some y)
 (hQ:∀h',xR h' z TI TO (xg s.heap.objs.size)->yh h' TO x y->SI k1 h' i1 l1 (i+1)->SI k2 h' i2 l2 (i+1)->yh h' s.heap.objs.size x y->h'.objs.size=s.heap.objs.size+1->
   (∀c o,c≠z->c≠TO->c≠i1->c≠i2->s.heap.get? c=some o->h'.get? c=some o)->Q (.ref s.heap.objs.size) {s with heap:=h'}):
 zt (zB prog w) A (Zx.«zip.__next__» ⟨[.ref z], []⟩) (λfin s'=>∃v,fin= .done (.ret v)/\Q v s') E s:=by
 simp only[zi,zn,or_false,not_or]at n1 n2
 show zt _ _ (Jt (.ref z) 2 >>= _) _ _ _
 refine za (zV hz rfl rfl ?_)
 show zt _ _ (Jt (.ref z) 3 >>= _) _ _ _
 refine za (zV hz rfl rfl ?_)
 refine za (yj hTI rfl ?_)
 show zt _ _ (jN (.ref z) >>= _) _ _ _
 refine za ?_
 unfold jN
 refine za (zV hz rfl rfl (zo ?_))
 simp only[if_true]
 refine za (XA ?_)
 refine za (zV hz rfl rfl ?_)
 refine za (yL hz (by simp) λg₁ hz₁ WV=>?_)
 replace hz₁:xR g₁ z TI TO .ellipsis:=hz₁
 refine za ?_
 simp only[Ym,Yt,Yu,List.forIn_nil]
 refine za (za (Yh ?_))
 show zt _ _ (zU (.ref i1) >>= _) _ _ _
 refine za (aM3 (h1.keep λo e=>WV.extBut _ _ Ap.i1z e) (hl1.keep λo e=>WV.extBut _ _ n1.1 e) hx λg₂ h1₂ WS=>zo ?_)
 have hTO₂:yh g₂ TO a b:=WS.extBut _ _ Ap.TOi1 (WV.extBut _ _ Ap.TOz hTO)
 refine za (yj hTO₂ rfl ?_)
 refine za (ZP hTO₂ λg₃ hTO₃ hs₃=>?_)
 replace hTO₃:yh g₃ TO x b:=hTO₃
 refine za (Xh (zo ?_))
 refine za (za (Yh ?_))
 show zt _ _ (zU (.ref i2) >>= _) _ _ _
 have up3:∀c o,c≠z->c≠TO->c≠i1->s.heap.get? c=some o->g₃.get? c=some o:=λc o c1 c2 c3 e=>hs₃.extBut _ _ c2 (WS.extBut _ _ c3 (WV.extBut _ _ c1 e))
 refine za (aM3 (h2.keep λo e=>up3 _ _ Ap.i2z Ap.TOi2.symm Ap.i12.symm e) (hl2.keep λo e=>up3 _ _ n2.1 n2.2.1 n2.2.2.1 e) hy λg₄ h2₄ hs₄=>zo ?_)
 have hTO₄:yh g₄ TO x b:=hs₄.extBut _ _ Ap.TOi2 hTO₃
 refine za (yj hTO₄ rfl ?_)
 refine za (ZP hTO₄ λWT hTO₅ hs₅=>?_)
 replace hTO₅:yh WT TO x y:=hTO₅
 refine za (Xh (zo (zo ?_)))
 refine za (yj hTO₅ rfl ?_)
 refine za (wpAny_newTuple ?_)
 have hsz:WT.objs.size=s.heap.objs.size:=by rw[hs₅.1,hs₄.1,hs₃.1,WS.1,WV.1]
 have hz₅:xR WT z TI TO .ellipsis:=hs₅.extBut _ _ Ap.TOz.symm (hs₄.extBut _ _ Ap.i2z.symm (hs₃.extBut _ _ Ap.TOz.symm (WS.extBut _ _ Ap.i1z.symm hz₁)))
 have hk₅:∀c o,c≠z->c≠TO->c≠i1->c≠i2->s.heap.get? c=some o->WT.get? c=some o:=λc o c1 c2 c3 c4 e=>hs₅.extBut _ _ c2 (hs₄.extBut _ _ c4 (up3 c o c1 c2 c3 e))
 have h1₅:SI k1 WT i1 l1 (i+1):=h1₂.keep λo e=>hs₅.extBut _ _ Ap.TOi1.symm (hs₄.extBut _ _ Ap.i12 (hs₃.extBut _ _ Ap.TOi1.symm e))
 have h2₅:SI k2 WT i2 l2 (i+1):=h2₄.keep λo e=>hs₅.extBut _ _ Ap.TOi2.symm e
 have hzlt:z<WT.objs.size:=zl hz₅
 show zt _ _ (xL (.ref z) (.ref WT.objs.size) >>= _) _ _ _
 refine za ?_
 unfold xL
 have hz₆:xR (WT.push {cls:=.type "tuple",data:=.seq #[x,y]}) z TI TO .ellipsis:=zf _ hz₅
 refine za (yL hz₆ (by simp) λg₇ hz₇ hs₇=>?_)
 replace hz₇:xR g₇ z TI TO (xg WT.objs.size):=hz₇
 refine yL hz₇ (by simp) λg₈ hz₈ hs₈=>?_
 replace hz₈:xR g₈ z TI TO (xg WT.objs.size):=hz₈
 have up:∀c o,c≠z->WT.get? c=some o->g₈.get? c=some o:=λc o c1 e=>hs₈.extBut _ _ c1 (hs₇.extBut _ _ c1 (zf _ e))
 have hT₈:yh g₈ WT.objs.size x y:=hs₈.extBut _ _ (yn hzlt) (hs₇.extBut _ _ (yn hzlt) (zq _ rfl))
 have hz8:g₈.objs.size=WT.objs.size+1:=by rw[hs₈.1,hs₇.1,yf]
 rw[hsz]at hz₈ hT₈ hz8
 refine zo ⟨_,rfl,?_⟩
 show Q (.ref WT.objs.size) _
 rw[hsz]
 exact hQ g₈ hz₈ (up _ _ Ap.TOz hTO₅) (h1₅.keep λo e=>up _ o Ap.i1z e) (h2₅.keep λo e=>up _ o Ap.i2z e) hT₈ hz8 λc o c1 c2 c3 c4 e=>up c o c1 (hk₅ c o c1 c2 c3 c4 e)
theorem dP1(hh:A.handled=none)(Ap:ZA z TI TO i1 i2)(n1:l1∉ [z,TO,i1,i2])(n2:l2∉ [z,TO,i1,i2])
 (hz:xR s.heap z TI TO .none) (hTI:yh s.heap TI (.ref i1) (.ref i2)) (hTO:yh s.heap TO a b)
 (h1:SI k1 s.heap i1 l1 i) (h2:SI k2 s.heap i2 l2 i) (hl1:SC k1 s.heap l1 xs) (hl2:SC k2 s.heap l2 ys) (hend:xs[i]? =none\/ys[i]? =none)
 (hE:∀h' e,(∀c o,c≠z->c≠TO->c≠i1->c≠i2->s.heap.get? c=some o->h'.get? c=some o)->(∃o,h'.get? e=some o/\o.cls= .type "StopIteration")->E (.ref e) {s with heap:=h'}):
 zt (zB prog w) A (Zx.«zip.__next__» ⟨[.ref z], []⟩) Q E s:=by
 simp only[zi,zn,or_false,not_or]at n1 n2
 show zt _ _ (Jt (.ref z) 2 >>= _) _ _ _
 refine za (zV hz rfl rfl ?_)
 show zt _ _ (Jt (.ref z) 3 >>= _) _ _ _
 refine za (zV hz rfl rfl ?_)
 refine za (yj hTI rfl ?_)
 show zt _ _ (jN (.ref z) >>= _) _ _ _
 refine za ?_
 unfold jN
 refine za (zV hz rfl rfl (zo ?_))
 simp only[if_true]
 refine za (XA ?_)
 refine za (zV hz rfl rfl ?_)
 refine za (yL hz (by simp) λg₁ hz₁ WV=>?_)
 replace hz₁:xR g₁ z TI TO .ellipsis:=hz₁
 refine za ?_
 simp only[Ym,Yt,Yu,List.forIn_nil]
 refine za (za (Yh ?_))
 show zt _ _ (zU (.ref i1) >>= _) _ _ _
 rcases hx:xs[i]? with _|x
 ·
   refine za (bB1 hh (h1.keep λo e=>WV.extBut _ _ Ap.i1z e) (hl1.keep λo e=>WV.extBut _ _ n1.1 e) hx λg₂ e WS he=>?_)
   obtain⟨oe,hoe,hce⟩:=he
   have hz₂:xR g₂ z TI TO .ellipsis:=WS _ _ Ap.i1z.symm hz₁
   have hez:e≠z:=λq=>by subst q;rw[hz₂]at hoe;cases hoe;simp at hce
   exact yL hz₂ (by simp) λg₃ _ hs₃=>hE g₃ e (λc o c1 _ c3 _ q=>hs₃.extBut _ _ c1 (WS _ _ c3 (WV.extBut _ _ c1 q))) ⟨oe,hs₃.extBut _ _ hez hoe,hce⟩
 ·
   have hy:ys[i]? =none:=by
    rcases hend with h|h
    ·rw[hx]at h;exact dR7 h
    ·exact h
   refine za (aM3 (h1.keep λo e=>WV.extBut _ _ Ap.i1z e) (hl1.keep λo e=>WV.extBut _ _ n1.1 e) hx λg₂ h1₂ WS=>zo ?_)
   have hTO₂:yh g₂ TO a b:=WS.extBut _ _ Ap.TOi1 (WV.extBut _ _ Ap.TOz hTO)
   refine za (yj hTO₂ rfl ?_)
   refine za (ZP hTO₂ λg₃ hTO₃ hs₃=>?_)
   refine za (Xh (zo ?_))
   refine za (za (Yh ?_))
   show zt _ _ (zU (.ref i2) >>= _) _ _ _
   have up3:∀c o,c≠z->c≠TO->c≠i1->s.heap.get? c=some o->g₃.get? c=some o:=λc o c1 c2 c3 e=>hs₃.extBut _ _ c2 (WS.extBut _ _ c3 (WV.extBut _ _ c1 e))
   refine za (bB1 hh (h2.keep λo e=>up3 _ _ Ap.i2z Ap.TOi2.symm Ap.i12.symm e) (hl2.keep λo e=>up3 _ _ n2.1 n2.2.1 n2.2.2.1 e) hy λg₄ e hs₄ he=>?_)
   obtain⟨oe,hoe,hce⟩:=he
   have hz₄:xR g₄ z TI TO .ellipsis:=hs₄ _ _ Ap.i2z.symm (hs₃.extBut _ _ Ap.TOz.symm (WS.extBut _ _ Ap.i1z.symm hz₁))
   have hez:e≠z:=λq=>by subst q;rw[hz₄]at hoe;cases hoe;simp at hce
   exact yL hz₄ (by simp) λWT _ hs₅=>hE WT e (λc o c1 c2 c3 c4 q=>hs₅.extBut _ _ c1 (hs₄ _ _ c4 (up3 c o c1 c2 c3 q))) ⟨oe,hs₅.extBut _ _ hez hoe,hce⟩
theorem aY8(Ap:ZA z TI TO i1 i2)(n1:l1∉ [z,TO,i1,i2])(n2:l2∉ [z,TO,i1,i2])
 (hz:xR s.heap z TI TO .none) (hTI:yh s.heap TI (.ref i1) (.ref i2)) (hTO:yh s.heap TO a b)
 (h1:SI k1 s.heap i1 l1 i) (h2:SI k2 s.heap i2 l2 i) (hl1:SC k1 s.heap l1 xs) (hl2:SC k2 s.heap l2 ys) (hx:xs[i]? =some x) (hy:ys[i]? =some y)
 (hQ:∀h',xR h' z TI TO (xg s.heap.objs.size)->yh h' TO x y->SI k1 h' i1 l1 (i+1)->SI k2 h' i2 l2 (i+1)->yh h' s.heap.objs.size x y->h'.objs.size=s.heap.objs.size+1->
   (∀c o,c≠z->c≠TO->c≠i1->c≠i2->s.heap.get? c=some o->h'.get? c=some o)->Q (some (.ref s.heap.objs.size)) {s with heap:=h'}):
 zt (zB prog w) A (Yq (.ref z)) Q E s:=by
 have hT:s.TypeIs (.ref z) "zip":=⟨_,hz,rfl⟩
 unfold Yq
 exact za (wpAny_attempt (jF hT Zs (jU Zs hT F.entry_zip_next
  (dD3 Ap n1 n2 hz hTI hTO h1 h2 hl1 hl2 hx hy λh' a1 a2 a3 a4 a5 a6 a7=>zo (hQ h' a1 a2 a3 a4 a5 a6 a7)) (F.args_zip_next_1 _))))
theorem bC4(hh:A.handled=none)(Ap:ZA z TI TO i1 i2)(n1:l1∉ [z,TO,i1,i2])(n2:l2∉ [z,TO,i1,i2])
 (hz:xR s.heap z TI TO .none) (hTI:yh s.heap TI (.ref i1) (.ref i2)) (hTO:yh s.heap TO a b)
 (h1:SI k1 s.heap i1 l1 i) (h2:SI k2 s.heap i2 l2 i) (hl1:SC k1 s.heap l1 xs) (hl2:SC k2 s.heap l2 ys) (hend:xs[i]? =none\/ys[i]? =none)
 (hQ:∀h',(∀c o,c≠z->c≠TO->c≠i1->c≠i2->s.heap.get? c=some o->h'.get? c=some o)->Q none {s with heap:=h'}):zt (zB prog w) A (Yq (.ref z)) Q E s:=by
 have hT:s.TypeIs (.ref z) "zip":=⟨_,hz,rfl⟩
 unfold Yq
 refine za (wpAny_attempt (jF hT Zs (jU Zs hT F.entry_zip_next
  (dP1 hh Ap n1 n2 hz hTI hTO h1 h2 hl1 hl2 hend λh' e hk he=>?_) (F.args_zip_next_1 _))))
 obtain⟨o,ho,hc⟩:=he
 exact za (wpAny_isInstance ⟨o,ho,hc⟩ isSubtype_stop (zo (hQ _ hk)))
end
noncomputable def bK5(k:Bool)(a:Addr):Obj:={cls:=.type (if k then "tuple_iterator" else "list_iterator"),data:=.fields #[.ref a,.int 0 0]}
abbrev zh1(k1:Bool)(h:Heap)(l1:Addr):Heap:=h.push (bK5 k1 l1)
abbrev zh2(k1 k2:Bool)(h:Heap)(l1 l2:Addr):Heap:=(zh1 k1 h l1).push (bK5 k2 l2)
noncomputable abbrev zh3(k1 k2:Bool)(h:Heap)(l1 l2:Addr):Heap:=(zh2 k1 k2 h l1 l2).push {cls:=.type "tuple",data:=.seq #[.ref h.objs.size,.ref (zh1 k1 h l1).objs.size]}
noncomputable abbrev zh4(k1 k2:Bool)(h:Heap)(l1 l2:Addr):Heap:=(zh3 k1 k2 h l1 l2).push {cls:=.type "tuple",data:=.seq #[.none,.none]}
noncomputable abbrev zh5(k1 k2:Bool)(h:Heap)(l1 l2:Addr):Heap:=(zh4 k1 k2 h l1 l2).push {cls:=.type "zip",data:=.fields #[.none,.bool false,.bool false,.ref (zh2 k1 k2 h l1 l2).objs.size,.ref (zh3 k1 k2 h l1 l2).objs.size]}
theorem bB4(hl:SC k s.heap a items)(h:Q (.ref s.heap.objs.size) {s with heap:=s.heap.push (bK5 k a)}):zt (zB prog w) A (pyIter (.ref a)) Q E s:=by
 rcases k with _|_
 ·exact Yz hl h
 ·exact wpAny_pyIter_tuple hl h
theorem dN0(k1 k2:Bool)(l1 l2:Addr)(xs ys:Array zg):
 Meets (Zx.«zip.__new__» ⟨[.type "zip",.ref l1,.ref l2], []⟩) (λ_ R s=>SC k1 s.heap l1 xs/\SC k2 s.heap l2 ys/\R (.ok (.ret (.ref (zh4 k1 k2 s.heap l1 l2).objs.size))) {s with heap:=zh5 k1 k2 s.heap l1 l2}):=
 .of_wp λprog w A R s h=>by
  obtain⟨hp,g,d,tk,os⟩:=s
  obtain⟨hl1,hl2,h⟩:=h
  have hsub:=sub_zip
  have hL1:SC k1 (Shared.heap ⟨hp,g,d,tk,os⟩) l1 xs:=hl1
  have hL2:SC k2 (Shared.heap ⟨hp.push (bK5 k1 l1),g,d,tk,os⟩) l2 ys:=hl2.keep λo e=>zf _ e
  wp_walk using bB4 hL1,bB4 hL2
  exact⟨_,rfl,h⟩
section
theorem bK4{ch:List Addr}(I:Inv X pins U H s)(hf:∀b∈ch,aK2 X pins H b)(k:∀b o,b∉ch->s.heap.get? b=some o->h'.get? b=some o)
 (hz:vs.length<=zd) (rv:o6 vs us) (ht:W8 h' s.heap.objs.size us.toArray):Inv X pins U (upd H s.heap.objs.size (.tup vs)) {s with heap:=h',toks:=t'}:=by
 have hq:H s.heap.objs.size=none:=I.hok.fresh (zj _)
 have neq:∀b o,s.heap.get? b=some o->b≠s.heap.objs.size:=λb o e=>zE (zl e)
 have nch:∀b u,H b=some u->b∉ch:=λb u e z=>by rw[(hf b z).1]at e;cases e
 refine I.step (λb hb=>⟨(hf b hb).2.2.2.1,(hf b hb).2.1,(hf b hb).2.2.2.2.1,(hf b hb).2.2.2.2.2⟩) (λb o _ _ hc e _=>k b o hc e) (λb o _ _ hc e _=>⟨o.slots,k b o hc e⟩)
  (λb o _ e n=>by rw[o9 (neq b o e)];exact n) (λb o hc e=>⟨o,k b o hc e⟩) (λb xs e=>by rw[o9 (v5 e hq)];exact e) (λb o u e=>by rw[o9 (v5 e hq)];exact e)
  (λb ps e=>⟨#[],by rw[o9 (v5 e hq),e];simp⟩) (λm hm=>?_) (λb u e=>?_) I.bare
 · obtain⟨o,es,ep,ho,r⟩:=hm
   exact⟨o,es,ep,k _ o (λz=>(hf _ z).2.1 rfl) ho,r⟩
 · by_cases hb:b=s.heap.objs.size
   · subst hb
     rw[M5]at e
     cases e
     exact⟨hz,us,rv,ht⟩
   · rw[o9 hb]at e
     refine(I.hok b u e).stay (λc v hc q=>k c v ?_ q) (λc q=>by rw[o9 (v5 q hq)];exact q) λc xs q=>by rw[o9 (v5 q hq)];exact q
     rcases hc with z|z
     ·rw[z];exact nch b u e
     ·exact nch c _ z
theorem aP4{ch:List Addr}(I:Inv X pins U H s)(hf:∀b∈ch,aK2 X pins H b)(k:∀b o,b∉ch->s.heap.get? b=some o->h'.get? b=some o):Inv X pins U H {s with heap:=h',toks:=t'}:=by
 have nch:∀b u,H b=some u->b∉ch:=λb u e z=>by rw[(hf b z).1]at e;cases e
 refine I.step (λb hb=>⟨(hf b hb).2.2.2.1,(hf b hb).2.1,(hf b hb).2.2.2.2.1,(hf b hb).2.2.2.2.2⟩) (λb o _ _ hc e _=>k b o hc e) (λb o _ _ hc e _=>⟨o.slots,k b o hc e⟩)
  (λ_ _ _ _ n=>n) (λb o hc e=>⟨o,k b o hc e⟩) (λ_ _ e=>e) (λ_ _ _ e=>e) (λb ps e=>⟨#[],by rw[e];simp⟩) (λm hm=>?_) (λb u e=>?_) I.bare
 · obtain⟨o,es,ep,ho,r⟩:=hm
   exact⟨o,es,ep,k _ o (λz=>(hf _ z).2.1 rfl) ho,r⟩
 · refine(I.hok b u e).stay (λc v hc q=>k c v ?_ q) (λ_ q=>q) λ_ _ q=>q
   rcases hc with z|z
   ·rw[z];exact nch b u e
   ·exact nch c _ z
end
def Sq(K:zc)(k:Bool)(H:Hp)(a:Addr)(vs:List V):Prop:=if k then SqT K H a vs else SqL K H a vs
theorem bK0(I:Inv X pins U H s)(h:Sq X.K k H a vs):∃its:List zg,o6 vs its/\SC k s.heap a its.toArray/\vs.length<=zd:=by
 rcases k with _|_
 ·obtain⟨its,r,p,z⟩:=I.list h;exact⟨its,r,p.isList,z⟩
 ·obtain⟨its,r,p,z⟩:=I.tuple h;exact⟨its,r,p,z⟩
theorem dD5(I:Inv X pins U H s)(h:Sq X.K k H a vs)(h':Sq X.K k H a ws):vs=ws:=by
 rcases k with _|_
 ·exact I.list_inj h h'
 ·exact I.tuple_inj h h'
def Itz(K:zc)(k1 k2:Bool)(a b:Addr):It:=
 ⟨λi H=>∃xs ys x y,Sq K k1 H a xs/\Sq K k2 H b ys/\xs[i]? =some x/\ys[i]? =some y,
  λi H v H'=>∃q x y,H q=none/\v= .ref q/\H'=upd H q (.tup [x,y])/\(∀xs,Sq K k1 H a xs->xs[i]? =some x)/\∀ys,Sq K k2 H b ys->ys[i]? =some y,
  λi H=>∃xs ys,Sq K k1 H a xs/\Sq K k2 H b ys/\(xs.length<=i\/ys.length<=i)⟩
theorem bQ9(r:o6 vs its){i:Nat}(h:vs[i]? =some x):∃u,its.toArray[i]? =some u/\u5 x u:=by
 obtain⟨u,e,ru⟩:=r.get h
 exact⟨u,by simpa using e,ru⟩
theorem dG8{w:zN}{K:zc}{es:List Expr}{x1:Nat}{tp:Pos}{l1 l2 z TI TO i1 i2:Addr}(Ap:ZA z TI TO i1 i2)(n1:l1∉ [z,TO,i1,i2])(n2:l2∉ [z,TO,i1,i2]):
 bC7 P w K (.Tuple es x1 tp) (Itz K k1 k2 l1 l2) [z,TI,TO,i1,i2] z (λi h=>xR h z TI TO .none/\yh h TI (.ref i1) (.ref i2)/\(∃a b,yh h TO a b)/\SI k1 h i1 l1 i/\SI k2 h i2 l2 i) where
 mem:=by simp
 obj:=λi h st b hb=>by
  obtain⟨s1,s2,⟨a,c,s3⟩,s4,s5⟩:=st
  simp only[zi,zn,or_false]at hb
  rcases hb with rfl|rfl|rfl|rfl|rfl
  ·exact⟨_,s1,λv z=>nomatch z⟩
  ·exact⟨_,s2,λv z=>nomatch z⟩
  ·exact⟨_,s3,λv z=>nomatch z⟩
  ·exact s4.there
  ·exact s5.there
 keep:=λi h h' st k=>by
  obtain⟨s1,s2,⟨a,c,s3⟩,s4,s5⟩:=st
  exact⟨k _ (by simp) _ s1,k _ (by simp) _ s2,⟨a,c,k _ (by simp) _ s3⟩,s4.keep (k _ (by simp)),s5.keep (k _ (by simp))⟩
 item:=by
  intro X hP hw hK hc i pins s U H E I hf st hg
  subst hP hw hK
  obtain⟨xs,ys,x,y,q1,q2,hx,hy⟩:=hg
  obtain⟨its1,r1,c1,z1⟩:=bK0 I q1
  obtain⟨its2,r2,c2,z2⟩:=bK0 I q2
  obtain⟨u1,e1,ru1⟩:=bQ9 r1 hx
  obtain⟨u2,e2,ru2⟩:=bQ9 r2 hy
  obtain⟨s1,s2,⟨a,c,s3⟩,s4,s5⟩:=st
  refine aY8 Ap n1 n2 s1 s2 s3 s4 s5 c1 c2 e1 e2 λg b1 b2 b3 b4 b5 b6 b7=>⟨_,rfl,?_⟩
  refine wpAny_letOwnedTupleGo_zip b1 λg2 c1' sb=>?_
  have keep:∀b o,b∉ [z,TI,TO,i1,i2]->s.heap.get? b=some o->g2.get? b=some o:=λb o hb e=>by
   simp only[zi,zn,or_false,not_or]at hb
   exact(sb.2 b hb.1).trans (b7 b o hb.1 hb.2.2.1 hb.2.2.2.1 hb.2.2.2.2 e)
  have zlt:z<s.heap.objs.size:=zl s1
  have hnew:W8 g2 s.heap.objs.size [u1,u2].toArray:=⟨_,(sb.2 _ (yn zlt)).trans b5,rfl,_,rfl⟩
  have hq:H s.heap.objs.size=none:=I.hok.fresh (zj _)
  refine⟨.ref s.heap.objs.size,upd H s.heap.objs.size (.tup [x,y]),bK4 I hf keep (by show 2<=zd;decide) (.cons ru1 (.cons ru2 .nil)) hnew,rfl,⟨_,x,y,hq,rfl,rfl,λxs' h=>by rw[dD5 I h q1];exact hx,λys' h=>by rw[dD5 I h q2];exact hy⟩,?_,λb hb=>?_⟩
  · refine⟨c1',?_,⟨_,_,(sb.2 _ Ap.TOz).trans b2⟩,b3.keep λo e=>(sb.2 _ Ap.i1z).trans e,b4.keep λo e=>(sb.2 _ Ap.i2z).trans e⟩
    exact(sb.2 _ Ap.TIz).trans (b7 TI _ Ap.TIz Ap.TITO Ap.TIi1 Ap.TIi2 s2)
  · have hb':b<s.heap.objs.size:=by
     simp only[zi,zn,or_false]at hb
     rcases hb with rfl|rfl|rfl|rfl|rfl
     ·exact zlt
     ·exact zl s2
     ·exact zl s3
     ·obtain⟨_,e,_⟩:=s4.there;exact zl e
     ·obtain⟨_,e,_⟩:=s5.there;exact zl e
    rw[o9 (zE hb')]
    exact(hf b hb).1
 done:=by
  intro X hP hw hK hc i pins s U H E I hf st hg
  subst hP hw hK
  obtain⟨xs,ys,q1,q2,hend⟩:=hg
  obtain⟨its1,r1,c1,z1⟩:=bK0 I q1
  obtain⟨its2,r2,c2,z2⟩:=bK0 I q2
  obtain⟨s1,s2,⟨a,c,s3⟩,s4,s5⟩:=st
  have hl1:=r1.length
  have hl2:=r2.length
  refine bC4 (I.ok.hd hc) Ap n1 n2 s1 s2 s3 s4 s5 c1 c2 (by rcases hend with h|h;left;simp;lia;right;simp;lia) λg b7=>⟨rfl,aP4 I hf λb o hb e=>?_⟩
  simp only[zi,zn,or_false,not_or]at hb
  exact b7 b o hb.1 hb.2.2.1 hb.2.2.2.1 hb.2.2.2.2 e
 self:=λ_ _ _ _ _ st h=>wpAny_pyIter_zip st.1 h
def fA7(K:zc)(ta:TA):TI:=λU H R=>ta U H λvs H1=>∃k1 k2 a b xs ys,vs= [.ref a,.ref b]/\Sq K k1 H1 a xs/\Sq K k2 H1 b ys/\R (Itz K k1 k2 a b) H1
section
theorem bN9(hl1:SC k1 s.heap l1 xs)(hl2:SC k2 s.heap l2 ys)
 (h:Q (.ref (zh4 k1 k2 s.heap l1 l2).objs.size) {s with heap:=zh5 k1 k2 s.heap l1 l2}):zt (zB prog w) A (call (.type "zip") [.ref l1,.ref l2]) Q E s:=by
 refine callType_new F.called_zip (by decide) (F.typeCall_zip_2 _ _) (F.newCall_zip_2 _ _) (λobj=>F.args_object_init_3 obj _ _) F.entry_zip_new (dN0 k1 k2 l1 l2 xs ys) ⟨hl1,hl2,?_⟩
 exact⟨⟨_,zq _ rfl,rfl⟩,h⟩
structure ZMk(k1 k2:Bool)(h h5:Heap)(l1 l2:Addr)(n:Nat):Prop where
 keep:∀b o,h.get? b=some o->h5.get? b=some o
 sz:h5.objs.size=n+5
 g5:xR h5 (n+4:Nat) (n+2:Nat) (n+3:Nat) .none
 g4:yh h5 (n+3:Nat) .none .none
 g3:yh h5 (n+2:Nat) (.ref n) (.ref (n+1:Nat))
 s1:SI k1 h5 n l1 0
 s2:SI k2 h5 (n+1:Nat) l2 0
theorem zmk:(zh4 k1 k2 h l1 l2).objs.size=h.objs.size+4/\ZMk k1 k2 h (zh5 k1 k2 h l1 l2) l1 l2 h.objs.size:=by
 have z1:(zh1 k1 h l1).objs.size=h.objs.size+1:=yf ..
 have z2:(zh2 k1 k2 h l1 l2).objs.size=h.objs.size+2:=by rw[yf,z1]
 have z3:(zh3 k1 k2 h l1 l2).objs.size=h.objs.size+3:=by rw[yf,z2]
 have z4:(zh4 k1 k2 h l1 l2).objs.size=h.objs.size+4:=by rw[yf,z3]
 have z5:(zh5 k1 k2 h l1 l2).objs.size=h.objs.size+5:=by rw[yf,z4]
 have g5:xR (zh5 k1 k2 h l1 l2) (zh4 k1 k2 h l1 l2).objs.size (zh2 k1 k2 h l1 l2).objs.size (zh3 k1 k2 h l1 l2).objs.size .none:=zq _ rfl
 have g4:yh (zh5 k1 k2 h l1 l2) (zh3 k1 k2 h l1 l2).objs.size .none .none:=zf _ (zq _ rfl)
 have g3:yh (zh5 k1 k2 h l1 l2) (zh2 k1 k2 h l1 l2).objs.size (.ref h.objs.size) (.ref (zh1 k1 h l1).objs.size):=zf _ (zf _ (zq _ rfl))
 have g2:(zh5 k1 k2 h l1 l2).get? (zh1 k1 h l1).objs.size=some (bK5 k2 l2):=zf _ (zf _ (zf _ (zq _ (by cases k2<;>rfl))))
 have g1:(zh5 k1 k2 h l1 l2).get? h.objs.size=some (bK5 k1 l1):=zf _ (zf _ (zf _ (zf _ (zq _ (by cases k1<;>rfl)))))
 rw[z4,z2,z3]at g5
 rw[z3]at g4
 rw[z2,z1]at g3
 rw[z1]at g2
 refine⟨z4,λb o e=>zf _ (zf _ (zf _ (zf _ (zf _ e)))),z5,g5,g4,g3,?_,?_⟩
 · rcases k1 with _|_
   ·exact⟨_,g1,rfl,rfl⟩
   ·exact⟨_,g1,rfl,rfl⟩
 · rcases k2 with _|_
   ·exact⟨_,g2,rfl,rfl⟩
   ·exact⟨_,g2,rfl,rfl⟩
theorem SC.lt(c:SC k h a xs): @LT.lt Nat instLTNat a h.objs.size:=by
 rcases k with _|_
 ·obtain⟨o,e,_⟩:=(show h.IsList a _ from c);exact zl e
 ·obtain⟨o,e,_⟩:=(show h.IsTuple a _ from c);exact zl e
theorem bV0(hl1:SC k1 s.heap l1 xs)(hl2:SC k2 s.heap l2 ys)
 (h:∀h5 n,n=s.heap.objs.size->ZMk k1 k2 s.heap h5 l1 l2 n->Q (.ref (n+4:Nat)) {s with heap:=h5}):zt (zB prog w) A (call (.type "zip") [.ref l1,.ref l2]) Q E s:=by
 refine bN9 hl1 hl2 ?_
 have:=zmk (k1:=k1) (k2:=k2) (h:=s.heap) (l1:=l1) (l2:=l2)
 rw[this.1]
 exact h _ _ rfl this.2
theorem eD7{es:List Expr}{ta:TA}{p pos:Pos}(hg:Gl X "zip")(hm:X.mg "zip" =none)(ha:PA X [a,b] ta)(hs:zy [a,b] X.env= [(false,eval a X.env),(false,eval b X.env)])(hs2:zy [b] X.env= [(false,eval b X.env)])(hbt:zK "zip" =some (.type "zip")):
 PI X (.Tuple es x1 tp) (.Call (.Name "zip" p) [a,b] [] pos) (fA7 X.K ta):=by
 intro pins s U H R I h
 refine Call_ (aK6 I hg hm hbt (jB (thn (ha pos pins s U H _ I h) λus s1 hE1=>hE1.elim λvs H1 I1 r1 q1=>?_) (by rw[hs,hs2]) (by rw[hs2];rfl)))
 obtain⟨k1,k2,l1,l2,xs,ys,rfl,q1,q2,q⟩:=q1
 obtain⟨u1,u2,rfl,ru1,ru2⟩:=cM2 r1
 cases ru1
 cases ru2
 obtain⟨its1,rr1,c1,z1⟩:=bK0 I1 q1
 obtain⟨its2,rr2,c2,z2⟩:=bK0 I1 q2
 refine bV0 c1 c2 λh5 n en Z=>?_
 have n1:=dH8 (en▸c1.lt)
 have n2:=dH8 (en▸c2.lt)
 refine wpAny_pyIter_zip Z.g5 ?_
 refine⟨(n+4:Nat),_,_,Itz X.K k1 k2 l1 l2,H1,rfl,I1.kept Z.keep,dG8 (eS9 n) n1 n2,⟨Z.g5,Z.g3,⟨_,_,Z.g4⟩,Z.s1,Z.s2⟩,λb hb=>?_,q⟩
 have hb':s1.heap.objs.size<=b:=en▸eV9 hb
 exact I1.fpOk hb' (I1.hok.fresh hb')
end
def Ite(K:zc)(a:Addr):It:=
 ⟨λi H=>∃xs x,SqL K H a xs/\xs[i]? =some x,
  λi H v H'=>∃q x,H q=none/\v= .ref q/\H'=upd H q (.tup [.int i,x])/\∀xs,SqL K H a xs->xs[i]? =some x,
  λi H=>∃xs,SqL K H a xs/\xs.length<=i⟩
theorem cO8{K:zc}{x1:Nat}{tp:Pos}(hne:e≠it):
 bC7 P w K (.Tuple es x1 tp) (Ite K l) [e,it] e (λi h=>(∃old,IsEnum h e it i old)/\h.IsListIter it l i) where
 mem:=by simp
 obj:=λi h st b hb=>by
  obtain⟨⟨old,s1⟩,s2⟩:=st
  simp only[zi,zn,or_false]at hb
  rcases hb with rfl|rfl
  ·exact⟨_,s1,λv z=>nomatch z⟩
  · obtain⟨o,q,c,d⟩:=s2
    exact⟨o,q,λv z=>by rw[d]at z;cases z⟩
 keep:=λi h h' st k=>by
  obtain⟨⟨old,s1⟩,s2⟩:=st
  exact⟨⟨old,k _ (by simp) _ s1⟩,s2.at λo q=>k _ (by simp) o q⟩
 item:=by
  intro X hP hw hK hc i pins s U H E I hf st hg
  subst hP hw hK
  obtain⟨xs,x,q1,hx⟩:=hg
  obtain⟨its,r1,c1,z1⟩:=I.list q1
  obtain⟨u,e1,ru⟩:=bQ9 r1 hx
  obtain⟨⟨old,s1⟩,s2⟩:=st
  refine wpAny_pyNext_enum_item s1 s2 c1.isList e1 hne λg b1 b2 b3 b4 b5=>⟨_,rfl,?_⟩
  refine wpAny_letOwnedTupleGo_enum b1 λg2 c1' sb=>?_
  have elt:e<s.heap.objs.size:=zl s1
  have ilt:it<s.heap.objs.size:=by obtain⟨_,q,_⟩:=s2;exact zl q
  have keep:∀b o,b∉ [e,it]->s.heap.get? b=some o->g2.get? b=some o:=λb o hb q=>by
   simp only[zi,zn,or_false,not_or]at hb
   exact(sb.2 b hb.1).trans (b5 b o hb.1 hb.2 q)
  have hnew:W8 g2 s.heap.objs.size [.int (i:Int) s.toks,u].toArray:=⟨_,(sb.2 _ (yn elt)).trans b3,rfl,_,rfl⟩
  have hq:H s.heap.objs.size=none:=I.hok.fresh (zj _)
  refine⟨.ref s.heap.objs.size,upd H s.heap.objs.size (.tup [.int i,x]),bK4 I hf keep (by show 2<=zd;decide) (.cons ⟨_,rfl⟩ (.cons ru .nil)) hnew,rfl,⟨_,x,hq,rfl,rfl,λxs' h=>by rw[I.list_inj h q1];exact hx⟩,?_,λb hb=>?_⟩
  ·exact⟨⟨_,c1'⟩,b2.at λo q=>(sb.2 _ (Ne.symm hne)).trans q⟩
  · have hb':b<s.heap.objs.size:=by
     simp only[zi,zn,or_false]at hb
     rcases hb with rfl|rfl
     ·exact elt
     ·exact ilt
    rw[o9 (zE hb')]
    exact(hf b hb).1
 done:=by
  intro X hP hw hK hc i pins s U H E I hf st hg
  subst hP hw hK
  obtain⟨xs,q1,hend⟩:=hg
  obtain⟨its,r1,c1,z1⟩:=I.list q1
  obtain⟨⟨old,s1⟩,s2⟩:=st
  have hl:=r1.length
  refine wpAny_pyNext_enum_end (I.ok.hd hc) s1 s2 c1.isList (by simp;lia) λg b7=>⟨rfl,aP4 I hf λb o hb q=>?_⟩
  simp only[zi,zn,or_false,not_or]at hb
  exact b7 b o hb.2 q
 self:=λ_ _ _ _ _ st h=>by obtain⟨⟨old,s1⟩,_⟩:=st;exact wpAny_pyIter_enum s1 h
def eU0(K:zc)(ta:TA):TI:=λU H R=>ta U H λvs H1=>∃a xs,vs= [.ref a]/\SqL K H1 a xs/\R (Ite K a) H1
section
theorem dQ0{es:List Expr}{ta:TA}(hg:Gl X "enumerate")(hm:X.mg "enumerate" =none)(ha:PA X [a] ta)(hs:zy [a] X.env= [(false,eval a X.env)])(hbt:zK "enumerate" =some (.type "enumerate")):
 PI X (.Tuple es x1 tp) (.Call (.Name "enumerate" p) [a] [] pos) (eU0 X.K ta):=by
 intro pins s U H R I h
 refine Call_ (aK6 I hg hm hbt (jB (thn (ha pos pins s U H _ I h) λus s1 hE1=>hE1.elim λvs H1 I1 r1 q1=>?_) hs rfl))
 obtain⟨l,xs,rfl,q1,q⟩:=q1
 obtain⟨u1,rfl,ru1⟩:=W5 r1
 cases ru1
 obtain⟨its,rr,c1,z1⟩:=I1.list q1
 refine call_enumerate_list c1.isList λg b1 b2 b3 b4=>wpAny_pyIter_enum b1 ?_
 have hne: @Ne Nat (s1.heap.objs.size+1) s1.heap.objs.size:=by lia
 refine⟨s1.heap.objs.size+1, [s1.heap.objs.size+1,s1.heap.objs.size],_,Ite X.K l,H1,rfl,I1.kept b4,cO8 hne,⟨⟨_,b1⟩,b2⟩,λb hb=>?_,q⟩
 have hb':s1.heap.objs.size<=b:=by
  simp only[zi,zn,or_false]at hb
  rcases hb with rfl|rfl
  ·exact jz _
  ·exact zj _
 exact I1.fpOk hb' (I1.hok.fresh hb')
open Classical in
noncomputable def ckO(r:Nat)(o:DO):DH->Bool:=λG=>decide (G[r]? =some o)
def aE9:D->M Src:=λx=>match x with
 | .tup l=>pure ⟨l,λ_=>true⟩
 | .ref r=>do
   let o <-N5 r
   let l <-listOf o
   pure ⟨l,ckO r o⟩
 |_=>M.stuck
def eO2(c:Wc)(μ:List Addr)(H:Hp)(k:Bool)(a:Addr)(s:Src):Prop:=∀ X2 G' H',Ext μ H X2 H'->o5 c X2 G' H'->s.ck G'=true->∃vs,Sq c.K k H' a vs/\m6 c X2 H' s.items vs
theorem aN2{H:Hp}{G:DH}{d:D}{v:V}{f:Src->M α}{K:α->List Addr->DH->Hp->Prop}(h:o5 c μ G H)(r:d7 c μ H d v)(p:c7 c Z μ H ((aE9 d >>= f) G) K):
 ∃s k a vs,v= .ref a/\Sq c.K k H a vs/\m6 c μ H s.items vs/\eO2 c μ H k a s/\s.ck G=true/\(∀i,d= .ref i->k=false)/\c7 c Z μ H (f s G) K:=by
 rcases d with _|_|_|_|l|i|_|_<;>try (exact p.elim;done)
 ·
   unfold d7 at r
   obtain⟨a,vs,rfl,q,rl⟩:=r
   exact⟨⟨l,λ_=>true⟩,true,a,vs,rfl,q,rl,λX2 G' H' x h' _=>⟨vs,x.sqT q,rl.mono x⟩,rfl,(λi z=>nomatch z),p⟩
 ·
   unfold d7 at r
   obtain⟨a,m,rfl⟩:=r
   have p':c7 c Z μ H ((N5 i >>= λo=>(listOf o >>= λl=>(pure ⟨l,ckO i o⟩:M Src)) >>= f) G) K:=by rw[<-M.bind_assoc];exact p
   obtain⟨o,g,p2⟩:=K6 p'
   have ro:=h.obj i o a g m
   have ck:ckO i o G=true:=by unfold ckO;simp[g]
   cases o with
   |lst l=>
     obtain⟨vs,q,rl⟩:=ro
     refine⟨⟨l,ckO i (.lst l)⟩,false,a,vs,rfl,SqL.of q,rl,λX2 G' H' x h' hck=>?_,ck,(λ_ _=>rfl),p2⟩
     have g':G'[i]? =some (.lst l):=by unfold ckO at hck;simpa using hck
     obtain⟨vs',q',rl'⟩:=h'.obj i _ a g' (bP7 x.pre m)
     exact⟨vs',SqL.of q',rl'⟩
   |rol l=>
     obtain⟨vs,q,rl⟩:=ro
     refine⟨⟨l,ckO i (.rol l)⟩,false,a,vs,rfl,q.sq,rl,λX2 G' H' x h' hck=>?_,ck,(λ_ _=>rfl),p2⟩
     have g':G'[i]? =some (.rol l):=by unfold ckO at hck;simpa using hck
     obtain⟨vs',q',rl'⟩:=h'.obj i _ a g' (bP7 x.pre m)
     exact⟨vs',q'.sq,rl'⟩
   |dct l=>exact p2.elim
   |rod l=>exact p2.elim
theorem cL4{H:Hp}{i:Nat}{d:D}{x:V}(r:m6 c μ H l vs)(h:l[i]? =some d)(hx:vs[i]? =some x):d7 c μ H d x:=by
 obtain⟨v,e,q⟩:=r.get h
 rw[hx]at e
 cases e
 exact q
noncomputable def J1(lo:Int)(n:Nat):List D:=(ja n).map fun(i:Nat)=>D.int (lo+(i:Int))
def U0(fs:DSt->M (List D)):DSt->M Src:=λU=>do
 match <-fs U with
 |[.int j]=>if -(2 ^ 62)<=j/\j<2 ^ 62 then pure ⟨J1 0 j.toNat,λ_=>true⟩else M.stuck
 |_=>M.stuck
theorem cQ7(lo:Int)(n:Nat):ItD c μ H (Itr lo n) ⟨J1 lo n,λ_=>true⟩:=λX2 G' H' x' h' _ i=>by
 refine⟨λd hd=>?_,λhi=>?_⟩
 · have hi:i<n:=by have:=lt_of_get hd;simpa [J1]using this
   have e:d= .int (lo+i):=by
    unfold J1 at hd
    rw[jk,List.getElem?_range hi]at hd
    simp at hd
    exact hd.symm
   subst e
   exact⟨hi,λx H2 ⟨e1,e2⟩=>by subst e1 e2;exact⟨Ext.refl _ _,h',ofI⟩⟩
 · show n<=i
   simpa [J1]using hi
theorem dO1(hg:Gl X "range")(hm:X.mg "range" =none)(ha:DA X Z [a] fs)(hs:zy [a] X.env= [(false,eval a X.env)]):DI X Z tg (.Call (.Name "range" p) [a] [] pos) (U0 fs):=
 DI.of (cS8 hg hm ha.h hs) λU H R hE0=>hE0.elim λX9 μ G s h p=>⟨X9,μ,G,s,h,(c7.bind p).mono λds X0 G1 H1 x1 h1 p1 vs rv=>by
  rcases ds with _|⟨_|_|j|_|_|_|_|_,_|⟨_,_⟩⟩<;>dsimp only at p1<;>try exact p1.elim
  · split at p1
    · rename_i hj
      obtain⟨v,t,rfl,r0,e⟩:=rv
      cases e
      exact⟨j,by rw[aA4 r0],hj.1,hj.2,c7.ok p1 h1 _ (cQ7 0 _)⟩
    ·exact p1.elim⟩
def bL9(fs:DSt->M (List D)):DSt->M Src:=λU=>do
 match <-fs U with
 |[a,b]=>do
   let s1 <-aE9 a
   let s2 <-aE9 b
   pure ⟨(s1.items.zip s2.items).map λp=>.tup [p.1,p.2],λG=>s1.ck G&&s2.ck G⟩
 |_=>M.stuck
def aV5(fs:DSt->M (List D)):DSt->M Src:=λU=>do
 match <-fs U with
 |[.ref r]=>do
   let s <-aE9 (.ref r)
   pure ⟨s.items.zipIdx.map λp=>.tup [.int ((p.2:Nat):Int),p.1],s.ck⟩
 |_=>M.stuck
theorem cM6(h:o5 c μ G H)(hq:H q=none)(r:m6 c μ H ds vs):Ext μ H μ (upd H q (.tup vs))/\o5 c μ G (upd H q (.tup vs))/\d7 c μ (upd H q (.tup vs)) (.tup ds) (.ref q):=by
 have k:Ext μ H μ (upd H q (.tup vs)):=Ext.lay hq _
 refine⟨k,h.same k λa o e n=>by rw[o9 (v5 e hq)];exact e,?_⟩
 unfold d7
 exact⟨q,vs,rfl,SqT.of M5,r.mono k⟩
theorem eE1{tp:Pos}{p pos:Pos}(hg:Gl X "zip")(hm:X.mg "zip" =none)(ha:DA X Z [a,b] fs)(hs:zy [a,b] X.env= [(false,eval a X.env),(false,eval b X.env)])(hs2:zy [b] X.env= [(false,eval b X.env)])(hbt:zK "zip" =some (.type "zip")):
 DI X Z (.Tuple es x1 tp) (.Call (.Name "zip" p) [a,b] [] pos) (bL9 fs):=
 DI.of (eD7 hg hm ha.h hs hs2 hbt) λU H R hE0=>hE0.elim λX9 μ G s h p=>⟨X9,μ,G,s,h,(c7.bind p).mono λds X0 G1 H1 x1 h1 p1 vs rv=>by
  rcases ds with _|⟨d1,_|⟨d2,_|⟨_,_⟩⟩⟩<;>dsimp only at p1<;>try exact p1.elim
  · obtain⟨v1,t1,rfl,r1,v2,t2,rfl,r2,e⟩:=rv
    cases e
    obtain⟨s1,k1,a1,w1,rfl,q1,l1,is1,ck1,_,p2⟩:=aN2 h1 r1 p1
    obtain⟨s2,k2,a2,w2,rfl,q2,l2,is2,ck2,_,p3⟩:=aN2 h1 r2 p2
    refine⟨k1,k2,a1,a2,w1,w2,rfl,q1,q2,c7.ok p3 h1 _ λX2 G' H' x' h' ck' i=>?_⟩
    have ck'':s1.ck G'=true/\s2.ck G'=true:=by simpa using ck'
    obtain⟨u1,q1',l1'⟩:=is1 X2 G' H' x' h' ck''.1
    obtain⟨u2,q2',l2'⟩:=is2 X2 G' H' x' h' ck''.2
    refine⟨λd hd=>?_,λhi=>?_⟩
    · rw[jk]at hd
      rcases hz:(s1.items.zip s2.items)[i]? with _|pr
      ·rw[hz]at hd;cases hd
      ·
        rw[hz]at hd
        obtain⟨e1,e2⟩:=pr
        have hd':d= .tup [e1,e2]:=by simpa using hd.symm
        subst hd'
        rw[List.getElem?_zip_eq_some]at hz
        obtain⟨y1,hy1,ry1⟩:=l1'.get hz.1
        obtain⟨y2,hy2,ry2⟩:=l2'.get hz.2
        refine⟨⟨u1,u2,y1,y2,q1',q2',hy1,hy2⟩,λx H2 ⟨q,z1,z2,hq,ex,eH,f1,f2⟩=>?_⟩
        subst ex eH
        have g1:=f1 u1 q1'
        have g2:=f2 u2 q2'
        rw[hy1]at g1
        rw[hy2]at g2
        cases g1
        cases g2
        exact cM6 h' hq ⟨y1,_,rfl,ry1,y2,_,rfl,ry2,rfl⟩
    · refine⟨u1,u2,q1',q2',?_⟩
      rw[<-l1'.length,<-l2'.length]
      simp at hi
      lia⟩
theorem dK5{a:Expr}{p pos:Pos}(hg:Gl X "enumerate")(hm:X.mg "enumerate" =none)(ha:DA X Z [a] fs)(hs:zy [a] X.env= [(false,eval a X.env)])(hbt:zK "enumerate" =some (.type "enumerate")):
 DI X Z (.Tuple es x1 tp) (.Call (.Name "enumerate" p) [a] [] pos) (aV5 fs):=
 DI.of (dQ0 hg hm ha.h hs hbt) λU H R hE0=>hE0.elim λX9 μ G s h p=>⟨X9,μ,G,s,h,(c7.bind p).mono λds X0 G1 H1 x1 h1 p1 vs rv=>by
  rcases ds with _|⟨_|_|_|_|_|r|_|_,_|⟨_,_⟩⟩<;>dsimp only at p1<;>try exact p1.elim
  · obtain⟨v1,t1,rfl,r1,e⟩:=rv
    cases e
    obtain⟨s1,k1,a1,w1,rfl,q1,l1,is1,ck1,hk,p2⟩:=aN2 h1 r1 p1
    have hk:=hk r rfl
    subst hk
    refine⟨a1,w1,rfl,q1,c7.ok p2 h1 _ λX2 G' H' x' h' ck' i=>?_⟩
    obtain⟨u1,q1',l1'⟩:=is1 X2 G' H' x' h' ck'
    refine⟨λd hd=>?_,λhi=>?_⟩
    · rw[jk,List.getElem?_zipIdx]at hd
      rcases hz:s1.items[i]? with _|e1
      ·rw[hz]at hd;cases hd
      ·
        rw[hz]at hd
        have hd':d= .tup [.int ((i:Nat):Int),e1]:=by simpa using hd.symm
        subst hd'
        obtain⟨y1,hy1,ry1⟩:=l1'.get hz
        refine⟨⟨u1,y1,q1',hy1⟩,λx H2 ⟨q,z1,hq,ex,eH,f1⟩=>?_⟩
        subst ex eH
        have g1:=f1 u1 q1'
        rw[hy1]at g1
        cases g1
        exact cM6 h' hq ⟨_,_,rfl,ofI,y1,_,rfl,ry1,rfl⟩
    · refine⟨u1,q1',?_⟩
      rw[<-l1'.length]
      simpa using hi⟩
end
def lenF:List D->M D:=λds=>match ds with
 |[.str z]=>if z.length<=zd then pure (.int z.length)else M.stuck
 |[.tup l]=>pure (.int l.length)
 |[.ref r]=>do
   match <-N5 r with
   | .lst l=>pure (.int l.length)
   | .rol l=>pure (.int l.length)
   | .dct l=>pure (.int l.length)
   | .rod _=>M.stuck
 |_=>M.stuck
def aD3:List D->M D:=λds=>match ds with
 |[.tup l]=>pure (.tup l)
 |[.ref r]=>do
   let l <-N5 r >>= listOf
   pure (.tup l)
 |_=>M.stuck
def bY5:List D->M D:=λds=>match ds with
 |[.tup l]=>M4 (.lst l)
 |[.ref r]=>do
   let l <-N5 r >>= listOf
   M4 (.lst l)
 |_=>M.stuck
def cW6:List D->M D:=λds=>match ds with
 |[.int i]=>pure (.int (if i<0 then -i else i))
 |_=>M.stuck
def eU8:List D->M D:=λds=>match ds with
 |[.int i]=>pure (.int i)
 |[.bl k]=>pure (.int (if k then 1 else 0))
 |_=>M.stuck
noncomputable def aK5:List D->Option (List Int)
 |[]=>some []
 | .int i::r=>(aK5 r).map (i :: ·)
 |_=>none
noncomputable def bC2:List D->Option (List Bool)
 |[]=>some []
 | .bl b::r=>(bC2 r).map (b :: ·)
 |_=>none
def dF1:List D->M D:=λds=>match ds with
 |[.ref r]=>do
   let l <-N5 r >>= listOf
   let ns <-aJ5 (aK5 l)
   pure (.int ns.sum)
 |_=>M.stuck
def bO1:List D->M D:=λds=>match ds with
 |[.ref r]=>do
   let l <-N5 r >>= listOf
   let bs <-aJ5 (bC2 l)
   pure (.bl (bs.all id))
 |_=>M.stuck
theorem dJ4{F:List D->M α}{c:Wc}{Z:XC}{H:Hp}{G:DH}{K:α->List Addr->DH->Hp->Prop}(p:c7 c Z μ H (F ds G) K)(h0:F []=M.stuck)(h2:∀a b t,F (a::b::t)=M.stuck)(hn:F [.non]=M.stuck)(hb:∀b,F [.bl b]=M.stuck)(hi:∀b,F [.int b]=M.stuck)(hs:∀b,F [.str b]=M.stuck)(ht:∀b,F [.tup b]=M.stuck)(hf:∀b,F [.fn b]=M.stuck)(hy:∀b,F [.ty b]=M.stuck):∃r,ds= [.ref r]:=by
 rcases ds with _|⟨d,_|⟨_,_⟩⟩
 ·rw[h0]at p;exact p.elim
 · rcases d with _|b|b|b|b|b|b|b
   ·rw[hn]at p;exact p.elim
   ·rw[hb]at p;exact p.elim
   ·rw[hi]at p;exact p.elim
   ·rw[hs]at p;exact p.elim
   ·rw[ht]at p;exact p.elim
   ·exact⟨b,rfl⟩
   ·rw[hf]at p;exact p.elim
   ·rw[hy]at p;exact p.elim
 ·rw[h2]at p;exact p.elim
section
theorem aK0(r:m6 c μ H [d] vs):∃v,vs= [v]/\d7 c μ H d v:=by
 obtain⟨v,t,rfl,q,e⟩:=r
 cases e
 exact⟨v,rfl,q⟩
theorem eY6(r:m6 c μ H [d,e] vs):∃v w,vs= [v,w]/\d7 c μ H d v/\d7 c μ H e w:=by
 obtain⟨v,t,rfl,q,v',t',rfl,q',z⟩:=r
 cases z
 exact⟨v,v',rfl,q,q'⟩
theorem eJ5:R6 X Z (.builtin "len") lenF:=R6.of (U7.or bS4 (U7.or bO0 cQ9)) λxs H Q hE0=>hE0.elim λds μ G rl hr p=>by
 rcases ds with _|⟨_|_|_|z|l|i|_|_,_|⟨_,_⟩⟩<;>try exact p.elim
 all_goals (delta lenF at p;dsimp only at p)
 · obtain⟨v,rfl,r⟩:=aK0 rl
   split at p
   · rename_i hz
     exact .inr (.inl ⟨z,by rw[aE6 r],hz,c7.ok p hr _ ofI⟩)
   ·exact p.elim
 · obtain⟨v,rfl,r⟩:=aK0 rl
   unfold d7 at r
   obtain⟨a,vs,rfl,q,rl'⟩:=r
   exact .inl ⟨a,vs,rfl,.inr q,by rw[<-rl'.length];exact c7.ok p hr _ ofI⟩
 · obtain⟨v,rfl,r⟩:=aK0 rl
   unfold d7 at r
   obtain⟨a,m,rfl⟩:=r
   obtain⟨o,g,p1⟩:=K6 p
   have ro:=hr.obj i o a g m
   rcases o with l|l|l|l
   ·obtain⟨vs,q,rl'⟩:=ro;exact .inl ⟨a,vs,rfl,.inl (SqL.of q),by rw[<-rl'.length];exact c7.ok p1 hr _ ofI⟩
   ·obtain⟨vs,q,rl'⟩:=ro;exact .inl ⟨a,vs,rfl,.inl q.sq,by rw[<-rl'.length];exact c7.ok p1 hr _ ofI⟩
   ·obtain⟨kvs,q,rk⟩:=ro;exact .inr (.inr ⟨a,kvs,rfl,q,by rw[<-rk.length];exact c7.ok p1 hr _ ofI⟩)
   ·exact p1.elim
theorem aD9{f:List D->M α}{K:α->List Addr->DH->Hp->Prop}(h:o5 c μ G H)(rv:d7 c μ H (.ref r) v)(p:c7 c Z μ H (((N5 r >>= listOf) >>= f) G) K):
 ∃l a vs,v= .ref a/\m6 c μ H l vs/\SqL c.K H a vs/\c7 c Z μ H (f l G) K:=by
 obtain⟨l,a,vs,rfl,rl,p2,hq⟩:=aN0 h rv p
 refine⟨l,a,vs,rfl,rl,?_,p2⟩
 rcases hq with⟨z,_⟩|⟨_,_,_,⟨_,q⟩|⟨_,q⟩⟩
 ·cases z
 ·exact SqL.of q
 ·exact q.sq
theorem dG2:R6 X Z (.type "tuple") aD3:=R6.of bH0 λxs H Q hE0=>hE0.elim λds μ G rl hr p=>by
 rcases ds with _|⟨_|_|_|_|l|i|_|_,_|⟨_,_⟩⟩<;>try exact p.elim
 all_goals (delta aD3 at p;dsimp only at p)
 · obtain⟨v,rfl,r⟩:=aK0 rl
   have r':=r
   unfold d7 at r'
   obtain⟨a,vs,rfl,q,rl'⟩:=r'
   exact⟨a,vs,rfl,.inr ⟨q,c7.ok p hr _ r⟩⟩
 · obtain⟨v,rfl,r⟩:=aK0 rl
   obtain⟨l,a,vs,rfl,rl',q,p2⟩:=aD9 hr r p
   exact⟨a,vs,rfl,.inl ⟨q,λl' hl=>aL6 hr rl' p2 l' hl⟩⟩
theorem dQ6:R6 X Z (.type "list") bY5:=R6.of bR8 λxs H Q hE0=>hE0.elim λds μ G rl hr p=>by
 rcases ds with _|⟨_|_|_|_|l|i|_|_,_|⟨_,_⟩⟩<;>try exact p.elim
 all_goals (delta bY5 at p;dsimp only at p)
 · obtain⟨v,rfl,r⟩:=aK0 rl
   unfold d7 at r
   obtain⟨a,vs,rfl,q,rl'⟩:=r
   exact⟨a,vs,rfl,.inr q,λl' hl=>R8 hr rl' p l' hl⟩
 · obtain⟨v,rfl,r⟩:=aK0 rl
   obtain⟨l,a,vs,rfl,rl',q,p2⟩:=aD9 hr r p
   exact⟨a,vs,rfl,.inl q,λl' hl=>R8 hr rl' p2 l' hl⟩
theorem eD9:R6 X Z (.builtin "abs") cW6:=R6.of dF2 λxs H Q hE0=>hE0.elim λds μ G rl hr p=>by
 rcases ds with _|⟨_|_|_|_|_|_|_|_,_|⟨_,_⟩⟩<;>try exact p.elim
 all_goals (delta cW6 at p;dsimp only at p)
 · obtain⟨v,rfl,r⟩:=aK0 rl
   exact⟨_,by rw[aA4 r],c7.ok p hr _ ofI⟩
theorem dA8:R6 X Z (.type "int") eU8:=R6.of cR1 λxs H Q hE0=>hE0.elim λds μ G rl hr p=>by
 rcases ds with _|⟨_|_|_|_|_|_|_|_,_|⟨_,_⟩⟩<;>try exact p.elim
 all_goals (delta eU8 at p;dsimp only at p)
 · obtain⟨v,rfl,r⟩:=aK0 rl
   exact .inr ⟨_,by rw[bG2 r],c7.ok p hr _ ofI⟩
 · obtain⟨v,rfl,r⟩:=aK0 rl
   exact .inl ⟨_,by rw[aA4 r],c7.ok p hr _ ofI⟩
theorem bM1:∀ {l} {ns} {vs} {us},aK5 l=some ns->m6 c μ H l vs->o6 vs us->us.length=ns.length/\∀i u,us[i]? =some u->∃t,u=Value.int (ns.getD i 0) t
 |[],_,_,_,e,r,q=>by cases e;cases r;cases q;exact⟨rfl,λi u h=>by simp at h⟩
 |d::ds,ns,_,_,e,r,q=>by
   obtain⟨v,t,rfl,r0,rt⟩:=r
   cases q with
   |cons q0 qt=>
     rcases d with _|_|n|_|_|_|_|_<;>try (cases e;done)
     ·
       replace e:(aK5 ds).map (n :: ·)=some ns:=e
       rcases h:aK5 ds with _|ms
       ·rw[h]at e;exact t6 e
       ·
         rw[h]at e
         cases e
         obtain⟨h1,h2⟩:=bM1 h rt qt
         refine⟨by simp[h1],λi u hu=>?_⟩
         cases i with
         |zero=>
           simp at hu;subst hu
           rw[aA4 r0]at q0
           exact q0
         |succ i=>simpa using h2 i u (by simpa using hu)
theorem bW8:∀ {l} {bs} {vs} {us},bC2 l=some bs->m6 c μ H l vs->o6 vs us->us.length=bs.length/\∀i u,us[i]? =some u->u=Value.bool (bs.getD i false)
 |[],_,_,_,e,r,q=>by cases e;cases r;cases q;exact⟨rfl,λi u h=>by simp at h⟩
 |d::ds,ns,_,_,e,r,q=>by
   obtain⟨v,t,rfl,r0,rt⟩:=r
   cases q with
   |cons q0 qt=>
     rcases d with _|n|_|_|_|_|_|_<;>try (cases e;done)
     ·
       replace e:(bC2 ds).map (n :: ·)=some ns:=e
       rcases h:bC2 ds with _|ms
       ·rw[h]at e;exact t6 e
       ·
         rw[h]at e
         cases e
         obtain⟨h1,h2⟩:=bW8 h rt qt
         refine⟨by simp[h1],λi u hu=>?_⟩
         cases i with
         |zero=>
           simp at hu;subst hu
           rw[bG2 r0]at q0
           exact q0
         |succ i=>simpa using h2 i u (by simpa using hu)
theorem cS4(bs:List Bool):((ja bs.length).all λi=>bs.getD i false)=bs.all id:=by
 induction bs with
 |nil=>rfl
 |cons b t ih=>rw[zp,Ze,jl,Yb,jl];simp[ZC];rw[<-ih];simp
theorem bJ2{U:St}{a:Addr}{its:List zg}(hc:X.calm=true)(I:Inv X pins U H s)(hl:s.heap.IsList a its.toArray)
 (h:Walks X.prog X.w X.A.in1 s.heap.objs.size [s.heap.objs.size,a] [s.heap.objs.size] its.toArray.size (λi v=>its.toArray[i]? =some v) (λi h=>h.IsListIter s.heap.objs.size a i/\h.IsList a its.toArray)->
   ∀h2:Heap,(h2.IsListIter s.heap.objs.size a 0/\h2.IsList a its.toArray)->(∀b∈ [s.heap.objs.size,a],b<h2.objs.size)->(∀h' tk,(∀b o,b∉ [s.heap.objs.size]->h2.get? b=some o->h'.get? b=some o)->Inv X pins U H {s with heap:=h',toks:=tk})->Q (.ref s.heap.objs.size) {s with heap:=h2}):
 zt (zB X.prog X.w) X.A.in1 (pyIter (.ref a)) Q E s:=by
 have hlt:a<s.heap.objs.size:=by obtain⟨_,e,_⟩:=hl;exact zl e
 refine Yz hl ?_
 have hh:X.A.in1.handled=none:=I.ok.hd hc
 refine h (Walks.list hh s.heap.objs.size a (zE hlt) its.toArray) _ ⟨⟨_,zq _ rfl,rfl,rfl⟩,hl.push _⟩ (λb hb=>?_) λh' tk k=>?_
 · rw[yf]
   simp only[zi,zn,or_false]at hb
   rcases hb with rfl|rfl
   ·exact yW _
   ·exact Yf hlt
 ·exact I.kept λb o e=>k b o (by simp only[zM];exact zE (zl e)) (zf _ e)
theorem eK5(hc:X.calm=true):R6 X Z (.builtin "sum") dF1:=⟨by
 intro pins s U H xs us Q I r hE0
 obtain⟨ds,μ,G,rl,hr,p⟩:=hE0
 obtain⟨i,rfl⟩:=dJ4 p rfl (λa _ _=>by cases a<;>rfl) rfl (λ_=>rfl) (λ_=>rfl) (λ_=>rfl) (λ_=>rfl) (λ_=>rfl) λ_=>rfl
 · obtain⟨v,rfl,rv⟩:=aK0 rl
   obtain⟨u,rfl,ru⟩:=W5 r
   obtain⟨l,a,vs,rfl,rl',q,p2⟩:=aD9 hr rv p
   cases ru
   obtain⟨ns,en,p3⟩:=Z1 p2
   obtain⟨its,rr,pl,hz⟩:=I.list q
   obtain⟨h1,h2⟩:=bM1 en rl' rr
   refine call_sum_walkG (bJ2 hc I pl.isList λW g hg hb hk=>⟨_,_,_,_,_,_,λi=>ns.getD i 0,rfl,W,hg,hb,λi v hv=>h2 i v (by simpa using hv),λh' tk t' k=>?_⟩)
   refine⟨.int ns.sum,H,hk h' tk k,⟨t',?_⟩,c7.ok p3 hr _ ofI⟩
   have e:=preSum_getD ns its.toArray.size
   rw[e,yB (by rw[zk];lia)]⟩
theorem eH1(hc:X.calm=true):R6 X Z (.builtin "all") bO1:=⟨by
 intro pins s U H xs us Q I r hE0
 obtain⟨ds,μ,G,rl,hr,p⟩:=hE0
 obtain⟨i,rfl⟩:=dJ4 p rfl (λa _ _=>by cases a<;>rfl) rfl (λ_=>rfl) (λ_=>rfl) (λ_=>rfl) (λ_=>rfl) (λ_=>rfl) λ_=>rfl
 · obtain⟨v,rfl,rv⟩:=aK0 rl
   obtain⟨u,rfl,ru⟩:=W5 r
   obtain⟨l,a,vs,rfl,rl',q,p2⟩:=aD9 hr rv p
   cases ru
   obtain⟨bs,en,p3⟩:=Z1 p2
   obtain⟨its,rr,pl,hz⟩:=I.list q
   obtain⟨h1,h2⟩:=bW8 en rl' rr
   refine call_all_walk (bJ2 hc I pl.isList λW g hg hb hk=>⟨_,_,_,_,_,_,λi=>bs.getD i false,rfl,W,hg,λi v s' Q' E' hv hq=>?_,λh' tk k=>?_⟩)
   · rw[h2 i v (by simpa using hv)]
     exact yp hq
   · refine⟨.bl (bs.all id),H,hk h' tk k,?_,c7.ok p3 hr _ ofB⟩
     have e:its.toArray.size=bs.length:=by rw[zk];exact h1
     rw[e,cS4];rfl⟩
theorem eS4(hg:Gl X x)(hm:X.mg x=none)(hv:zK x=some (.type n))(hn:x≠ "__name__")(hd:(x==("__debug__" :Str))=false):DE X Z (.Name x pos) (cE (.ty n)):=
 dM1 (v:=.ty n) (dM6 hg hm hv rfl hn hd) λ_ _=>by unfold d7;rfl
end
def aC9:D->M Bool:=λx=>match x with
 | .non=>pure false
 | .bl b=>pure b
 | .int i=>pure (i != 0)
 | .str y=>if y.length<=zd then pure ((y.length:Int) != 0)else M.stuck
 | .tup l=>pure (!l.isEmpty)
 | .ref r=>do
   match <-N5 r with
   | .lst l=>pure (!l.isEmpty)
   | .rol l=>pure (!l.isEmpty)
   | .dct l=>pure (!l.isEmpty)
   | .rod _=>M.stuck
 |_=>M.stuck
def truthE(f:Fe):DSt->M Bool:=λU=>do aC9 (<-f U)
section
theorem X8(r:m6 cc μ H l vs):vs.isEmpty=l.isEmpty:=by
 cases l with
 |nil=>cases r;rfl
 |cons _ _=>obtain⟨_,_,rfl,_⟩:=r;rfl
theorem bD8(r:Z4 cc μ H l vs):vs.isEmpty=l.isEmpty:=by
 cases l with
 |nil=>cases r;rfl
 |cons _ _=>obtain⟨_,_,rfl,_⟩:=r;rfl
theorem cZ5(ha:DE X Z a fa)(he:∀whole,isTrue a X.env whole= (do let v <-whole;standAt a.pos;ZV [v] (truthy v))):DT X Z a (truthE fa):=
 DT.of (dA6 ha.h he) λU H Q hE0=>hE0.elim λX9 μ G s h p=>⟨X9,μ,G,s,h,(c7.bind p).mono λd X0 G1 H1 x1 h1 p1 v rv=>by
  cases d with
  |non=>rw[dE2 rv];exact⟨false,rfl,c7.ok p1 h1⟩
  |bl b=>rw[bG2 rv];exact⟨b,rfl,c7.ok p1 h1⟩
  |int b=>rw[aA4 rv];exact⟨_,rfl,c7.ok p1 h1⟩
  |str y=>
    rw[aE6 rv]
    unfold aC9 at p1
    dsimp only at p1
    split at p1
    ·rename_i hz;exact⟨_,⟨hz,rfl⟩,c7.ok p1 h1⟩
    ·exact p1.elim
  |tup l=>
    unfold d7 at rv
    obtain⟨a,vs,rfl,q,rl⟩:=rv
    exact⟨!vs.isEmpty,.inr (.inl ⟨vs,q,rfl⟩),by rw[X8 rl];exact c7.ok p1 h1⟩
  |ref r=>
    unfold d7 at rv
    obtain⟨a,m,rfl⟩:=rv
    obtain⟨o,g,p2⟩:=K6 p1
    have ro:=h1.obj r o a g m
    cases o with
    |lst l=>obtain⟨vs,q,rl⟩:=ro;exact⟨!vs.isEmpty,.inl ⟨vs,SqL.of q,rfl⟩,by rw[X8 rl];exact c7.ok p2 h1⟩
    |rol l=>obtain⟨vs,q,rl⟩:=ro;exact⟨!vs.isEmpty,.inl ⟨vs,q.sq,rfl⟩,by rw[X8 rl];exact c7.ok p2 h1⟩
    |dct l=>obtain⟨vs,q,rl⟩:=ro;exact⟨!vs.isEmpty,.inr (.inr ⟨vs,q,rfl⟩),by rw[bD8 rl];exact c7.ok p2 h1⟩
    |rod l=>exact p2.elim
  |_=>exact p1.elim⟩
def aG3(o o':D->D->M D)(fa fb fc:Fe):Fe:=λU=>do
 let x <-fa U
 let y <-fb U
 if <-dC6 (<-o x y)then o' y (<-fc U)else pure (.bl false)
theorem dE8(ho:OpD X Z (zL op) o)(ho':OpD X Z (zL op') o')(ha:DE X Z a fa)(hb:DE X Z b fb)(hc:DE X Z c fc)
 (hm:Jr [op,op'] [b,c]=false):DE X Z (.Compare a [op,op'] [b,c] pos) (aG3 o o' fa fb fc):=
 DE.of (dG7 ho.h ho'.h ha.h hb.h hc.h hm) λU H Q hE0=>hE0.elim λX9 μ G s h p=>⟨X9,μ,G,s,h,(c7.bind p).mono λx X0 G1 H1 x1 h1 p1 v rv=>
  ⟨X9,X0,G1,s.mono x1,h1,(c7.bind p1).mono λy WX G2 H2 x2 h2 p2 u ru=>⟨x,y,WX,G2,rv.mono x2,ru,h2,(c7.bind p2).mono λz μ3 G3 H3 x3 h3 p3 w rw'=>by
   obtain⟨k,rfl,p4⟩:=aV3 p3
   refine⟨k,bG2 rw',?_⟩
   cases k with
   |true=>exact⟨X9,μ3,G3,s.mono (x1.trans (x2.trans x3)),h3,(c7.bind p4).mono λt μ4 G4 H4 x4 h4 p5 q rq=>⟨y,t,μ4,G4,ru.mono (x3.trans x4),rq,h4,p5⟩⟩
   |false=>exact c7.ok p4 h3 _ ofB⟩⟩⟩
end
noncomputable def bA0(osc scope:Scope)(N XN:List Str)(caps:List (Option Nat)):Bool:=
 decide (scope.kind= .function)&&scope.names.all (λy=>decide (y.2≠ .cell))&&scope.names.all (λy=>decide (y.2= .local->scope.names.lookup y.1=some .local)) &&
 scope.names.all (λy=>decide (y.2= .free->(osc.names.lookup y.1=some .cell\/osc.names.lookup y.1=some .free)))&&scope.names.all (λy=>decide (y.2= .free->scope.names.lookup y.1=some .free)) &&
 decide (caps.length=N.length)&&(ja caps.length).all λi=>match caps[i]? with
  |some (some j)=>match N[i]?,XN[j]? with
    |some x,some y=>decide (x=y)&&decide ((x,NameKind.free)∈scope.names)
    |_,_=>false
  |_=>true
theorem W9.of{caps:List (Option Nat)}(h:bA0 osc scope N XN caps=true)(hs:X.env.scope=osc)(hN:X.N=XN):W9 X scope N caps:=by
 unfold bA0 at h
 simp only[zQ,decide_eq_true_eq,yU]at h
 obtain⟨⟨⟨⟨⟨⟨h1,h2⟩,h3⟩,h4⟩,h5⟩,h6⟩,h7⟩:=h
 refine⟨h1,h2,h3,λy hy e=>?_,h5,h6,λi j e=>?_⟩
 · have:=h4 y hy e
   show X.env.scope.names.lookup y.1=_\/X.env.scope.names.lookup y.1=_
   rw[hs];exact this
 · have hi:i∈ja caps.length:=by rw[yr];exact lt_of_get e
   have q:=h7 i hi
   simp only[e]at q
   rw[hN]
   split at q
   · rename_i x y e1 e2
     simp only[zQ,decide_eq_true_eq]at q
     exact⟨x,e1,by rw[e2,q.1],q.2⟩
   ·exact bL8 q
def t7(m:Nat)(fb:Fs):List D->M D:=λds=>do
 match <-fb (ds.map some++zZ (m-ds.length) none) with
 | .nx _=>pure .non
 | .rt d=>pure d
 |_=>M.stuck
structure FF(K:zc)(mg:Str->Option zg)(x:Str)(st:Stmt)(ps:List Str)(f:Addr)(fd:yF):Prop where
 F:Fun K x x st f fd
 b:aO9 K fd ps []
 m:mg x=some (.ref f)
theorem bJ3(r:m6 c μ H ds vs):G9 c μ H (ds.map some++zZ (N.length-ds.length) none) (L2.start N vs):=by
 unfold L2.start
 rw[r.length]
 refine⟨by simp[r.length],λi d e=>?_⟩
 by_cases hi:i<ds.length
 · rw[zF (by simpa using hi),jk]at e
   have hd:ds[i]? =some d:=by
    cases h:ds[i]? with
    |none=>rw[h]at e;exact t6 e
    |some d'=>rw[h]at e;simpa using e
   obtain⟨v,hv,rv⟩:=r.get hd
   refine⟨v,?_,rv⟩
   rw[zF (by simp;rw[<-r.length];exact hi),jk,hv]
   rfl
 · rw[jH (by simpa using hi),Xr]at e
   split at e<;>cases e
theorem eW3{w:zN}{K:zc}{base:Heap}{x:Str}{st:Stmt}{f:Addr}{k n m:Nat}{fb:Fs}(F:FF K mg x st ps f fd)(S:O5 N ps (o4 st))(hn:ps.length=n)(hm:N.length=m)
 (hbody:∀(cdv:zg) (A:zT) (outer:List Env) (s:zm) (H:Hp) (E:XK),N8 k (A.deeper (jJ x (o4 st) s.heap.objs.size f cdv))->DB (W7 CX0 P w K mg base N x (o4 st) f cdv A outer s H E).nox ZF (O4 st) fb):
 X3 P w K mg base CX0 (k+1) f fd ps (spD ⟨K,mg⟩ n (t7 m fb)):=by
 refine F.F.ok S (λvs H Q E h=>by rw[hn];exact h.1) λcdv A outer s H vs Q E hr h=>⟨_,(hbody cdv A outer s H E hr).h,?_⟩
 obtain⟨hl,ds,μ,G,rl,hG,p⟩:=h
 subst hm
 refine⟨_,μ,G,bJ3 rl,hG,(c7.bind p).mono λfl X0 G1 H1 x1 h1 p1=>?_⟩
 cases fl with
 |nx X9=>exact λU _=>c7.ok p1 h1 _ ofN
 |rt d=>exact λv rv=>c7.ok p1 h1 v rv
 |bk _=>exact p1.elim
 |ct _=>exact p1.elim
def cL6(K:zc):Sp:=λvs H Q _=>∃(a:Addr) (ns:List Int),vs= [.ref a]/\SqL K H a (ns.map V.int)/\dR8 H/\ns.length<=63/\∀H',Q (.bl true) H'
theorem bW0:∀ns:List Int,m6 c μ H (ns.map D.int) (ns.map V.int)
 |[]=>rfl
 |n::t=>⟨.int n,_,rfl,ofI,bW0 t⟩
theorem eD5{w:zN}{K:zc}{base:Heap}{f:Addr}{k:Nat}(hF:X3 P w K mg base CX0 k f fd ["script"] (spD ⟨K,mg⟩ 1 F))
 (pure:∀ns:List Int,ns.length<=63->∃G',F [.ref 0] [.rol (ns.map D.int)]=some (.ok (.bl true),G')):X3 P w K mg base CX0 k f fd ["script"] (cL6 K):=
 hF.imp λvs H Q E h=>by
  obtain⟨a,ns,rfl,hS,hO,hl,q⟩:=h
  obtain⟨G',e⟩:=pure ns hl
  refine⟨rfl, [.ref 0], [a], [.rol (ns.map D.int)],⟨.ref a, [],rfl,by unfold d7;exact⟨a,rfl,rfl⟩,rfl⟩,⟨rfl,λi j b e1 e2=>?_,λi o b e1 e2=>?_⟩,?_⟩
  · have h1:=lt_of_get e1
    have h2:=lt_of_get e2
    simp at h1 h2
    left;lia
  · have h1:=lt_of_get e2
    simp at h1
    subst h1
    have e1':o= .rol (ns.map D.int):=by simpa using e1.symm
    have e2':b=a:=by simpa using e2.symm
    subst e1' e2'
    refine⟨ns.map V.int,?_,bW0 ns⟩
    rcases hS with(hS|⟨o,hS⟩)|hS
    · rcases hO b with z|⟨o,xs,z⟩
      ·rw[z]at hS;exact t6 hS
      ·rw[z]at hS;cases hS
    ·exact .inl ⟨o,hS⟩
    ·exact .inr (.inr hS)
  · rw[e]
    exact λX2 H' _ _ v rv=>by rw[bG2 rv];exact q H'
theorem eG0:zK "len" =some (.builtin "len"):=by decide +kernel
theorem bI0:zK "isinstance" =some (.builtin "isinstance"):=by decide +kernel
theorem eC1:zK "all" =some (.builtin "all"):=by decide +kernel
theorem eB9:zK "sum" =some (.builtin "sum"):=by decide +kernel
theorem eJ8:zK "abs" =some (.builtin "abs"):=by decide +kernel
theorem cS7:zK "sorted" =some (.builtin "sorted"):=by decide +kernel
theorem cZ3:zK "tuple" =some (.type "tuple"):=by decide +kernel
theorem dM5:zK "list" =some (.type "list"):=by decide +kernel
theorem eC3:zK "int" =some (.type "int"):=by decide +kernel
theorem eM9:zK "str" =some (.type "str"):=by decide +kernel
theorem eI8:zK "zip" =some (.type "zip"):=by decide +kernel
theorem bQ5:zK "enumerate" =some (.type "enumerate"):=by decide +kernel
end DL
namespace DL
open PySem L2
noncomputable def Wp{α:Type}(m:M α)(G:DH)(Q:α->DH->Prop):Prop:=∃a G',m G=some (.ok a,G')/\Q a G'
section
theorem Wp.mono(h:Wp m G Q)(k:∀a G',Q a G'->Q' a G'):Wp m G Q':=let ⟨a,G',e,q⟩:=h;⟨a,G',e,k a G' q⟩
theorem d8:Wp (pure a) G Q↔Q a G:=by
 constructor
 · rintro⟨b,G',e,q⟩
   cases e
   exact q
 ·exact λq=>⟨a,G,rfl,q⟩
theorem aA5:Wp (M.stuck:M α) G Q↔False:=by
 constructor
 · rintro⟨b,G',e,q⟩
   exact t6 e
 ·exact jG
theorem g8:Wp (m >>= f) G Q↔Wp m G λa G1=>Wp (f a) G1 Q:=by
 constructor
 · rintro⟨a,G',e,q⟩
   rw[M.bind_eq]at e
   match h:m G,e with
   |some (.ok b,G1),e=>exact⟨b,G1,h,a,G',e,q⟩
 · rintro⟨b,G1,e,a,G',e',q⟩
   exact⟨a,G',by rw[M.bind_ok e];exact e',q⟩
theorem aT8(h:m G=some (.ok a,G')):Wp m G Q↔Q a G':=⟨fun⟨b,G2,e,q⟩=>by rw[h]at e;cases e;exact q,λq=>⟨a,G',h,q⟩⟩
theorem aI8:Wp (aJ5 o) G Q↔∃a,o=some a/\Q a G:=by
 rcases o with _|a
 ·
   constructor
   · rintro⟨_,_,e,_⟩
     exact t6 e
   · rintro⟨_,e,_⟩
     exact t6 e
 ·
   constructor
   · rintro⟨_,_,e,q⟩
     cases e
     exact⟨_,rfl,q⟩
   · rintro⟨_,e,q⟩
     cases e
     exact⟨_,_,rfl,q⟩
theorem O6{Q:DO->DH->Prop}:Wp (N5 r) G Q↔∃o,G[r]? =some o/\Q o G:=by
 constructor
 · rintro⟨a,G',e,q⟩
   delta N5 at e
   rcases h:G[r]? with _|o
   ·rw[h]at e;exact t6 e
   ·rw[h]at e;cases e;exact⟨_,rfl,q⟩
 · rintro⟨o,e,q⟩
   refine⟨o,G,?_,q⟩
   delta N5
   rw[e]
theorem R9{Q:DPP}:Wp (M4 o) G Q↔Q (.ref G.length) (G++[o]):=aT8 rfl
theorem bE6{Q:Unit->DH->Prop}:Wp (aZ3 r o) G Q↔Q () (G.set r o):=aT8 rfl
end
section
theorem aA9:Wp (aD8 i U) G Q↔∃d,U[i]? =some (some d)/\Q d G:=by
 constructor
 · rintro⟨d,G',e,q⟩
   delta aD8 at e
   rcases h:U[i]? with _|o
   ·rw[h]at e;exact t6 e
   ·
     rw[h]at e
     rcases o with _|d'
     ·exact t6 e
     ·cases e;exact⟨_,rfl,q⟩
 · rintro⟨d,h,q⟩
   exact⟨d,G,by delta aD8;rw[h],q⟩
theorem cQ3:Wp (cE d U) G Q↔Q d G:=d8
theorem aP1:Wp (binE o a b U) G Q↔Wp (a U) G λx G1=>Wp (b U) G1 λy G2=>Wp (o x y) G2 Q:=by unfold binE;simp only[g8]
theorem dY5:Wp (unE o a U) G Q↔Wp (a U) G λx G1=>Wp (o x) G1 Q:=by unfold unE;simp only[g8]
theorem aK8:Wp (if k=true then m else n) G R↔if k=true then Wp m G R else Wp n G R:=by cases k<;>exact Iff.rfl
theorem bP9:Wp (dC6 d) G B↔∃k,d= .bl k/\B k G:=by
 constructor
 · rintro⟨k,G',e,q⟩
   rcases d with _|b|_|_|_|_|_|_<;>try (cases e;done)
   ·cases e;exact⟨_,rfl,q⟩
 · rintro⟨k,e,q⟩
   subst e
   exact⟨k,G,rfl,q⟩
theorem bO3:Wp (ifE t a b U) G Q↔Wp (t U) G λk G1=>if k=true then Wp (a U) G1 Q else Wp (b U) G1 Q:=by unfold ifE;simp only[g8,aK8]
theorem bS5:Wp (bE4 a U) G B↔Wp (a U) G λx G1=>∃k,x= .bl k/\B k G1:=by unfold bE4;simp only[g8,bP9]
theorem R4:Wp (truthE a U) G B↔Wp (a U) G λx G1=>Wp (aC9 x) G1 B:=by unfold truthE;simp only[g8]
theorem dV0:Wp (aQ2 t u U) G B↔Wp (t U) G λk G1=>if k=true then Wp (u U) G1 B else B false G1:=by unfold aQ2;simp only[g8,aK8,d8]
theorem eK4:Wp (orT t u U) G B↔Wp (t U) G λk G1=>if k=true then B true G1 else Wp (u U) G1 B:=by unfold orT;simp only[g8,aK8,d8]
theorem bR3:Wp (bM7 t U) G B↔Wp (t U) G λk G1=>B (!k) G1:=by unfold bM7;simp only[g8,d8]
theorem j8:Wp (q11 U) G R↔R [] G:=d8
theorem aI3:Wp (q10 a fs U) G R↔Wp (a U) G λx G1=>Wp (fs U) G1 λxs G2=>R (x::xs) G2:=by unfold q10;simp only[g8,d8]
theorem aF0:Wp (q12 F fs U) G Q↔Wp (fs U) G λds G1=>Wp (F ds) G1 Q:=by unfold q12;simp only[g8]
theorem bZ7{α:Type}{m:M α}{R:α->DH->Prop}:Wp (noX m) G R↔Wp m G R:=by
 constructor
 · rintro⟨x,G',e,q⟩
   delta noX at e
   rcases h:m G with _|p
   ·rw[h]at e;exact t6 e
   ·
     rw[h]at e
     obtain⟨_|y,G1⟩:=p
     ·exact t6 e
     ·cases e;exact⟨_,_,h,q⟩
 · rintro⟨x,G',e,q⟩
   exact⟨x,G',by delta noX;rw[e],q⟩
theorem N7:Wp (fnX n F ds) G Q↔ds.length=n/\Wp (F ds) G Q:=by
 unfold fnX
 by_cases h:ds.length=n
 ·rw[if_pos h,bZ7];exact⟨λq=>⟨h,q⟩,λq=>q.2⟩
 ·rw[if_neg h];exact⟨λq=>(aA5.mp q).elim,λq=>(h q.1).elim⟩
theorem P0:Wp (aK1 fs U) G Q↔Wp (fs U) G λxs G1=>xs.length<=zd/\Q (.tup xs) G1:=by
 unfold aK1
 simp only[g8]
 constructor
 · rintro⟨xs,G1,e,q⟩
   refine⟨xs,G1,e,?_⟩
   by_cases h:xs.length<=zd
   ·rw[if_pos h]at q;exact⟨h,d8.mp q⟩
   ·rw[if_neg h]at q;exact(aA5.mp q).elim
 · rintro⟨xs,G1,e,h,q⟩
   exact⟨xs,G1,e,by dsimp only;rw[if_pos h];exact d8.mpr q⟩
theorem aA6:Wp (O3 fs U) G Q↔Wp (fs U) G λxs G1=>xs.length<=zd/\Q (.ref G1.length) (G1++[.lst xs]):=by
 unfold O3
 simp only[g8]
 constructor
 · rintro⟨xs,G1,e,q⟩
   refine⟨xs,G1,e,?_⟩
   by_cases h:xs.length<=zd
   ·rw[if_pos h]at q;exact⟨h,R9.mp q⟩
   ·rw[if_neg h]at q;exact(aA5.mp q).elim
 · rintro⟨xs,G1,e,h,q⟩
   exact⟨xs,G1,e,by dsimp only;rw[if_pos h];exact R9.mpr q⟩
theorem m5:Wp (J2 U) G P↔P (.nx U) G:=d8
theorem f9:Wp (m9 f g U) G P↔Wp (f U) G λfl G1=>match fl with
 | .nx X1=>Wp (g X1) G1 P
 |r=>P r G1:=by
 delta m9
 refine Iff.trans g8 ?_
 constructor
 · rintro⟨fl,G1,e,q⟩
   refine⟨fl,G1,e,?_⟩
   cases fl<;>first
    |exact q
    |exact d8.mp q
 · rintro⟨fl,G1,e,q⟩
   refine⟨fl,G1,e,?_⟩
   cases fl<;>first
    |exact q
    |exact d8.mpr q
theorem aU1:Wp (u6 a U) G P↔Wp (a U) G λd G1=>P (.rt d) G1:=by unfold u6;simp only[g8,d8]
theorem aZ7:Wp (bF4 a U) G P↔Wp (a U) G λ_ G1=>P (.nx U) G1:=by unfold bF4;simp only[g8,d8]
theorem dG0:Wp (ifS t f g U) G P↔Wp (t U) G λk G1=>if k=true then Wp (f U) G1 P else Wp (g U) G1 P:=by unfold ifS;simp only[g8,aK8]
theorem aQ3:Wp (J7 a gg U) G P↔Wp (a U) G λd G1=>Wp (gg d U) G1 λX1 G2=>P (.nx X1) G2:=by unfold J7;simp only[g8,d8]
theorem Q4:Wp (q14 i d U) G S↔S (U.set i (some d)) G:=d8
theorem aN1:Wp (t7 m f ds) G Q↔Wp (f (ds.map some++zZ (m-ds.length) none)) G λfl G1=>match fl with
 | .nx _=>Q .non G1
 | .rt d=>Q d G1
 |_=>False:=by
 delta t7
 refine Iff.trans g8 ?_
 constructor
 · rintro⟨fl,G1,e,q⟩
   refine⟨fl,G1,e,?_⟩
   cases fl<;>first
    |exact d8.mp q
    |exact aA5.mp q
 · rintro⟨fl,G1,e,q⟩
   refine⟨fl,G1,e,?_⟩
   cases fl<;>first
    |exact d8.mpr q
    |exact aA5.mpr q
noncomputable def eV7(o:Option Bool)(g:Bool->Bool)(G:DH):Option (Except Str D×DH):=match o with
 |some b=>some (.ok (.bl (g b)),G)
 |none=>none
theorem aZ8{g:Bool->Bool}(h:m G=eV7 o g G):Wp m G Q↔∃k,o=some k/\Q (.bl (g k)) G:=by
 unfold Wp
 rw[h]
 rcases o with _|k
 ·
   constructor
   · rintro⟨_,_,e,_⟩
     exact t6 e
   · rintro⟨_,e,_⟩
     exact t6 e
 ·
   constructor
   · rintro⟨_,_,e,q⟩
     cases e
     exact⟨_,rfl,q⟩
   · rintro⟨_,e,q⟩
     cases e
     exact⟨_,_,rfl,q⟩
theorem cK3:Wp (eqD x y) G Q↔∃k,eqN 40 G x y=some k/\Q (.bl k) G:=aZ8 rfl
theorem dD9:Wp (neD x y) G Q↔∃k,eqN 40 G x y=some k/\Q (.bl (!k)) G:=aZ8 rfl
theorem dH0:Wp (ltD x y) G Q↔∃k,ltN 40 G x y=some k/\Q (.bl k) G:=aZ8 rfl
theorem aV0(hT:Ty.of n=some T):Wp (u9 [d,.ty n]) G Q↔∃k,aT7 G d=some k/\Q (.bl (k.is T)) G:=by
 have e:u9 [d,.ty n] G=match aT7 G d with|some k=>some (.ok (.bl (k.is T)),G)|none=>none:=by
  delta u9
  dsimp only
  rw[hT]
  cases aT7 G d<;>rfl
 unfold Wp
 rw[e]
 rcases aT7 G d with _|k
 ·
   constructor
   · rintro⟨_,_,e,_⟩
     exact t6 e
   · rintro⟨_,e,_⟩
     exact t6 e
 ·
   constructor
   · rintro⟨_,_,e,q⟩
     cases e
     exact⟨_,rfl,q⟩
   · rintro⟨_,e,q⟩
     cases e
     exact⟨_,_,rfl,q⟩
end
end DL
namespace DL
open PySem PySem.Spec L2
open PyProof.Rows hiding St
section
theorem cY3(hc:X.calm=true)(hi:DI X Z tg iter it)(k:W9 X scope N caps)
 (hg:∀C s H ex,DG (O1 X scope N C s H ex) ZF tg gg) (ht:∀C s H ex,DTs (O1 X scope N C s H ex) ZF ifs tt) (he:∀C s H ex,DE (O1 X scope N C s H ex) ZF elt fe)
 (hs:∀x,yq iter X.env x=pure x) (hgo:DG X Z (.Name y py) g2) (hsw:Jq (.ListComp elt [⟨tg,iter,ifs,0⟩] scope pos) (some (.Name y py)) spos.line X.env=pure true):
 DS X Z (.Assign [.Name y py] (.ListComp elt [⟨tg,iter,ifs,0⟩] scope pos) spos) (J7 (R1 it caps gg tt fe) g2):=by
 refine⟨?_⟩
 intro pins s U H En I hE0
 refine hE0.elim λX9 μ G sr hr p0=>?_
 obtain⟨Q,hQ,p⟩:∃Q:VK,(∀v H',Q v H'->bJ1 (wc X) Z g2 v U H' En.nx)/\c7 (wc X) Z μ H (R1 it caps gg tt fe X9 G) λd X2 _ H'=>∀v,d7 (wc X) X2 H' d v->Q v H':=
  ⟨λv H'=>bJ1 (wc X) Z g2 v U H' En.nx,λ_ _ z=>z,(c7.bind p0).mono λd X0 G1 H1 x' h1 p1 v rv=>⟨d,X9,X0,G1,rv,sr.mono x',h1,(c7.bind p1).mono λdσ2 WX G2 H2 x2 h2 p2 WL s2=>c7.ok p2 h2 WL s2⟩⟩
 rw[exec_Assign_Name_used _ _ _ _ hsw]
 refine za (Jd (za ?_))
 show zt _ X.A (do let _ <-comprehension (.ListComp elt [⟨tg,iter,ifs,0⟩] scope pos) scope X.env _ (newList []) false (eval iter X.env) (some (Zg (.Name y py) X.env))) _ _ s
 refine za (jx (bI8 hc hi k hg ht he hs I sr hr p λDD C s4 H' m o hn fin hCn hf q9=>?_) (λ_ s' hq=>zo (zo hq)) λ_ _ e=>e)
 have fC:∀ {H9:Hp},H9 C=none->∀b∈ [C],aK2 X pins H9 b:=λ{H9} hn9 b hb=>by
  rw[zM]at hb
  subst hb
  exact hf H9 hn9
 obtain⟨oC,zC1,zC2,hoC,zC3⟩:=id hn
 have I5:=(fin s4.heap ⟨rfl,λ_ _=>rfl⟩).pinned (fC hCn) (λb hb=>by
  rw[zM]at hb
  subst hb
  exact⟨oC,hoC,λv z=>by first|(rw[zC3.1]at z;cases z)|(rw[zC3.2.1]at z;cases z)⟩)
 refine thn (hgo.h _ s4 U H' (.ref DD) (.ref DD) _ I5 rfl (hQ _ _ q9)) λ_ s5 ⟨σ5,H5,I6,q6⟩=>?_
 obtain⟨g5,g5n,_⟩:=I6.pin (C,oC) (zR _ (zR _ (aE1 (by simp) hoC)))
 refine⟨m,hn.at' (λo e=>by rw[hoC]at e;cases e;exact g5),λh'' sb=>⟨σ5,H5,aP4 I6.unpinned (fC g5n) λb o hb e=>(sb.2 b (by simpa using hb)).trans e,q6⟩⟩
end
noncomputable def aA8:List D->Option (List Str)
 |[]=>some []
 | .str x::r=>(aA8 r).map (x :: ·)
 |_=>none
noncomputable def v7:List (Key×D)->Option (List Str)
 |[]=>some []
 |(.inr x,_)::r=>(v7 r).map (x :: ·)
 |_=>none
noncomputable def leS(a b:Str):Bool:= !decide (b.cps.toList<a.cps.toList)
def aD4(l:List Str):List Str:=l.mergeSort leS
theorem aZ6:leS a b=true↔a.cps.toList<=b.cps.toList:=by unfold leS;simp
theorem aU6(a b c:Str)(h1:leS a b=true)(h2:leS b c=true):leS a c=true:=by
 rw[aZ6]at *;exact List.le_trans h1 h2
theorem bK7(a b:Str):(leS a b||leS b a)=true:=by
 rw[Bool.or_eq_true,aZ6,aZ6];exact List.le_total _ _
theorem aR6(h1:leS a b=true)(h2:leS b a=true):a=b:=by
 rw[aZ6]at *
 have e:a.cps.toList=b.cps.toList:=List.le_antisymm h1 h2
 cases a;cases b
 congr 1
 exact JZ.mp e
theorem bL7:∀l p,risingS p l=true->(p::l).Pairwise λa b=>leS a b=true
 |[],p,_=>by simp
 |x::r,p,h=>by
   unfold risingS at h
   rw[zQ]at h
   have ih:=bL7 r x h.2
   have hpx:leS p x=true:=by unfold leS;rw[<-ltCps_eq];exact h.1
   refine yg.mpr ⟨λy hy=>?_,ih⟩
   rcases zi.mp hy with rfl|hy
   ·exact hpx
   ·exact aU6 _ _ _ hpx ((yg.mp ih).1 y hy)
theorem bU5(hp:l'.Perm l)(hs:sortedS l'=true):l'=aD4 l:=by
 have h1:l'.Pairwise λa b=>leS a b=true:=by
  rcases l' with _|⟨x,r⟩
  ·simp
  ·exact bL7 r x hs
 have h2:(aD4 l).Pairwise λa b=>leS a b=true:=Xq aU6 bK7 l
 exact List.Perm.eq_of_pairwise (λa b _ _ h1 h2=>aR6 h1 h2) h1 h2 (hp.trans (yZ l leS).symm)
section
theorem cA6(K:PySem.W.KdlSrc prog w T r d n P OK)(hh:A.handled=none)(hok:OK s.heap)(hn:n<64)(hP:∀vs:List zg,vs.length=n->(∀(j:Nat) v,vs[j]? =some v->P j v)->StrsAre vs ss)
 (h:∀(h1 h':Heap) (tk e:Nat) out ss',(∀b o,s.heap.get? b=some o->h1.get? b=some o)->(∀b o,h1.get? b=some o->h'.get? b=some o)->h'.get? h1.objs.size=some (JU "list" out.toArray e)->StrsAre out ss'->ss'.Perm ss->sortedS ss'=true->Q (.ref h1.objs.size) {s with heap:=h',toks:=tk}):
 zt (zB prog w) A (call (.builtin "sorted") [.ref r]) Q E s:=by
 have hz:n<=zd:=zu (yX hn) (by decide)
 refine YM kind_sorted plain_sorted entry_sorted (args_sorted1 _) ?_
 unfold Zx.«sorted»
 refine za (zo ?_)
 refine za (PySem.W.kdu_collect K hh hok hz λh1 tk acc hk hacc=>?_)
 have hl:acc.toList.length=n:=by rw[jZ];exact hacc.1
 refine za (wpAny_newList ?_ (by rw[hl];exact hz))
 have hS:StrsAre acc.toList ss:=hP acc.toList hl λj v e=>hacc.2 j v (by rw[<-jb];exact e)
 have hoL:(h1.push (JU "list" acc.toList.toArray 0)).get? h1.objs.size=some (JU "list" acc.toList.toArray 0):=zq _ rfl
 refine za (yt (jU slot_list_sort ⟨_,hoL,rfl⟩ entry_list_sort (list_sort_treeK strKind_oneLt hoL hS.keysOf (λv₁ v₂ j9 e=>keyKind_strs (by rw[<-e];exact hS)) (by rw[hl];exact hn) λst' a1 a2=>⟨_,rfl,?_⟩) (args_list_sort _)))
 obtain⟨ss',b1,b2,b3⟩:=sorted_out_str hS a1 a2
 obtain⟨e,he⟩:=sortedHeap_at hoL
 refine zo ⟨_,rfl,h h1 _ tk e ((jY st').map (·.2)).toList ss' hk (λb o hb=>?_) (by rw[Zq];exact he) b1 b2 b3⟩
 have hlt:b<h1.objs.size:=zl hb
 rw[sortedHeap_old (zE hlt) (by rw[size_push'];exact Yf hlt),JR _ _ _ (zE hlt)]
 exact hb
end
def bM8:List D->M D:=λds=>match ds with
 |[.ref r]=>do
   match <-N5 r with
   | .dct l=>do
     let ss <-aJ5 (v7 l)
     if ss.length<64 then M4 (.lst ((aD4 ss).map .str))else M.stuck
   |_=>M.stuck
 |_=>M.stuck
section
theorem aM2:∀ {l} {ss},v7 l=some ss->ss.length=l.length
 |[],_,e=>by cases e;rfl
 |(.inr x,_)::r,ss,e=>by
  replace e:=show (v7 r).map (_ :: ·)=some _ from e
  rcases h:v7 r with _|t
  ·rw[h]at e;cases e
  ·rw[h]at e;cases e;simp[aM2 h]
 |(.inl _,_)::_,_,e=>by cases e
theorem aR1{w:zN}:∀ {l} {ss:List Str} {kvs} {xs} {vs},v7 l=some ss->Z4 c μ H l kvs->KV kvs xs->vs.length=xs.length->
 (∀(j:Nat) (v:zg),vs[j]? =some v->∃k x,xs[j]? =some (k,x)/\(N6 P w).is k v=true)->StrsAre vs ss
 |[],_,_,xs,vs,e,r,kv,hl,hv=>by
   cases e;cases r;cases kv
   rcases vs with _|⟨_,_⟩
   ·exact .nil
   ·simp at hl
 |(.inr x,d)::t,ss,kvs,xs,vs,e,r,kv,hl,hv=>by
  replace e:=show (v7 t).map (_ :: ·)=some _ from e
  rcases h:v7 t with _|q
  ·rw[h]at e;cases e
  ·
    rw[h]at e
    cases e
    obtain⟨v0,tl,rfl,r0,rt⟩:=r
    cases kv with
    |cons hk ht=>
      cases vs with
      |nil=>simp at hl
      |cons u us=>
        obtain⟨k,y,e1,e2⟩:=hv 0 u rfl
        simp only[zG,zI]at e1
        have hk1:(Sum.inr x:Key)=_:=hk.1
        rw[e1]at hk1
        have e3:bA8 (.inr x) u=true:=by rw[hk1];exact e2
        rcases K4 e3 with⟨_,_,z,_⟩|⟨x',t',z,eu⟩
        ·cases z
        · cases z
          subst eu
          exact .cons _ _ (aR1 h rt ht (by simpa using hl) λj v hj=>by simpa using hv (j+1) v (by simpa using hj))
 |(.inl _,_)::_,_,_,_,_,e,_,_,_,_=>by cases e
theorem bA7:∀ {out} {ss},StrsAre out ss->∃vs,vs=ss.map V.str/\o6 vs out/\m6 c μ H (ss.map D.str) vs
 |_,_,.nil=>⟨[],rfl,.nil,rfl⟩
 |_,_,.cons x t q=>by
   obtain⟨vs,e,h1,h2⟩:=bA7 q
   subst e
   exact⟨_,rfl,.cons ⟨t,rfl⟩ h1,_,_,rfl,by unfold d7;rfl,h2⟩
theorem cP2(hc:X.calm=true):R6 X Z (.builtin "sorted") bM8:=⟨by
 intro pins s U H xs us Q I r hE0
 obtain⟨ds,μ,G,rl,hr,p⟩:=hE0
 rcases ds with _|⟨_|_|_|_|_|i|_|_,_|⟨_,_⟩⟩<;>try exact p.elim
 all_goals (delta bM8 at p;dsimp only at p)
 · obtain⟨v,rfl,rv⟩:=aK0 rl
   obtain⟨u,rfl,ru⟩:=W5 r
   unfold d7 at rv
   obtain⟨a,m,rfl⟩:=rv
   cases ru
   obtain⟨o,g,p1⟩:=K6 p
   have ro:=hr.obj i o a g m
   cases o with
   |dct l=>
     obtain⟨kvs,q,rk⟩:=ro
     obtain⟨ss,es,p2⟩:=Z1 p1
     split at p2
     case isFalse=>exact p2.elim
     rename_i h64
     obtain⟨z,hd,vs,rel,dd⟩:=dB5 I.hok q
     obtain⟨ep,hat⟩:=dd.dictAt
     have hn:vs.length=ss.length:=by rw[aM2 es,<-rel.length,<-rk.length]
     refine cA6 (PySem.W.kdl_dict hd) (I.ok.hd hc) hat (by omega) (λus hl hu=>aR1 es rk rel (by omega) hu) λh1 h' tk e out ss' k1 k2 he hS hp hs=>?_
     have e2:=bU5 hp hs
     subst e2
     obtain⟨ws,ew,rv,rl2⟩:=bA7 (μ:=μ) hS
     have I1:Inv X pins U H {s with heap:=h1,toks:=tk}:=I.kept k1
     have hf:=I1.hok.fresh (zj _)
     have hlen:ws.length<=zd:=by
      rw[ew,zh]
      have:=(yZ ss leS).length_eq
      have e3:(aD4 ss).length=ss.length:=this
      have:(64:Nat)<=zd:=by decide
      omega
     refine⟨.ref h1.objs.size,upd H h1.objs.size (.lst ws),I1.laid k2 (zj _) ⟨hlen,out,e,rv,he⟩,rfl,R8 hr rl2 p2 _ hf⟩
   |lst l=>exact p1.elim
   |rod l=>exact p1.elim
   |rol l=>exact p1.elim⟩
end
noncomputable def Its(z:Str):It:=⟨λi _=>∃c,z.cps[i]? =some c,λi H x H'=>H'=H/\∃c,z.cps[i]? =some c/\x= .str ⟨#[c]⟩,λi _=>z.cps[i]? =none⟩
theorem cF1{K:zc}(z:Str)(t:Tok)(it:Addr):bC7 P w K tg (Its z) [it] it (λi h=>h.IsStrIter it "str_ascii_iterator" z t i) where
 mem:=by simp
 obj:=λi h st b hb=>by
  have e:b=it:=by simpa using hb
  subst e
  obtain⟨o,e,c,d⟩:=st
  exact⟨o,e,λv z=>by rw[d]at z;cases z⟩
 keep:=λi h h' st k=>let ⟨o,ho,r⟩:=st;⟨o,k it (by simp) o ho,r⟩
 item:=by
  intro X hP hw hK hc i pins s U H E I hf st hg
  subst hP hw hK
  obtain⟨c,hx⟩:=hg
  obtain⟨f0,f1,f2,f3,f4,f5⟩:=hf it (by simp)
  refine wpAny_pyNext_ascii_item st hx λh' st' sb=>?_
  have I1:Inv X pins U H {s with heap:=h',toks:=s.toks+1}:=I.turned (λb o hb e=>(sb.2 b hb).trans e) f0 f1 f3 f4 f5
  obtain⟨o,e,cc,d⟩:=id st'
  exact⟨_,rfl,bJ7 e cc d (by decide) ⟨.str ⟨#[c]⟩,H,I1,⟨_,rfl⟩,⟨rfl,c,hx,rfl⟩,st',λb hb=>(hf b hb).1⟩⟩
 done:=by
  intro X hP hw hK hc i pins s U H E I hf st hg
  subst hP hw hK
  obtain⟨f0,f1,f2,f3,f4,f5⟩:=hf it (by simp)
  exact wpAny_pyNext_ascii_end (I.ok.hd hc) st hg λh' eb=>⟨rfl,I.turned (λb o hb e=>eb b o hb e) f0 f1 f3 f4 f5⟩
 self:=λ_ _ _ _ _ st h=>wpAny_pyIter_striter_ascii st h
theorem cT8{K:zc}(z:Str)(t:Tok)(it:Addr):bC7 P w K tg (Its z) [it] it (λi h=>h.IsStrIter it "str_iterator" z t i) where
 mem:=by simp
 obj:=λi h st b hb=>by
  have e:b=it:=by simpa using hb
  subst e
  obtain⟨o,e,c,d⟩:=st
  exact⟨o,e,λv z=>by rw[d]at z;cases z⟩
 keep:=λi h h' st k=>let ⟨o,ho,r⟩:=st;⟨o,k it (by simp) o ho,r⟩
 item:=by
  intro X hP hw hK hc i pins s U H E I hf st hg
  subst hP hw hK
  obtain⟨c,hx⟩:=hg
  obtain⟨f0,f1,f2,f3,f4,f5⟩:=hf it (by simp)
  refine wpAny_pyNext_wide_item st hx λh' st' sb=>?_
  have I1:Inv X pins U H {s with heap:=h',toks:=s.toks+1}:=I.turned (λb o hb e=>(sb.2 b hb).trans e) f0 f1 f3 f4 f5
  obtain⟨o,e,cc,d⟩:=id st'
  exact⟨_,rfl,bJ7 e cc d (by decide) ⟨.str ⟨#[c]⟩,H,I1,⟨_,rfl⟩,⟨rfl,c,hx,rfl⟩,st',λb hb=>(hf b hb).1⟩⟩
 done:=by
  intro X hP hw hK hc i pins s U H E I hf st hg
  subst hP hw hK
  obtain⟨f0,f1,f2,f3,f4,f5⟩:=hf it (by simp)
  exact wpAny_pyNext_wide_end (I.ok.hd hc) st hg λh' eb=>⟨rfl,I.turned (λb o hb e=>eb b o hb e) f0 f1 f3 f4 f5⟩
 self:=λ_ _ _ _ _ st h=>wpAny_pyIter_striter_wide st h
section
noncomputable def aU0(z:Str):List D:=z.cps.toList.map λc=>.str ⟨#[c]⟩
def dT9:D->M Src:=λx=>match x with
 | .str z=>pure ⟨aU0 z,λ_=>true⟩
 | .tup l=>aE9 (.tup l)
 | .ref r=>aE9 (.ref r)
 |_=>M.stuck
end
section
end
theorem cU9{w:zN}{K:zc}{base:Heap}{CX:CXT}{k n:Nat}{f:Addr}(hn:ps.length=n):X3 P w K mg base CX k f fd ps (spD ⟨K,mg⟩ n λ_=>M.stuck):=
 ⟨λvs H Q E h=>by rw[hn];exact h.1,λA outer s H args us vs Q E hr=>by
  intros
  rename_i h
  first
   |exact h.2.elim
   |(obtain⟨_,_,_,_,_,_,z⟩:=h;exact z.elim)⟩
end DL
namespace W
open PySem PySem.Spec L2 DL
open PyProof.Rows hiding St
theorem eH3:Ty.of "int" =some .int:=by rfl
theorem dV1:Ty.of "bool" =some .bool:=by rfl
def aR7(G:DH)(d:D):Prop:=∃k,aT7 G d=some k
theorem st1:([d].map some++zZ n none:DSt)[0]? =some (some d):=by rfl
theorem cN1{P:Bool->Prop}:(∃k,D.bl b= .bl k/\P k)↔P b:=⟨fun⟨k,e,p⟩=>by cases e;exact p,λp=>⟨b,rfl,p⟩⟩
theorem M8{P:α->Prop}:(∃k,some b=some k/\P k)↔P b:=⟨fun⟨k,e,p⟩=>by cases e;exact p,λp=>⟨b,rfl,p⟩⟩
noncomputable def eG5:Option Int->D
 |none=>.non
 |some i=>.int i
theorem aO8:Wp (gtD (.int i) (.int j)) G Q↔Q (.bl (decide (j<i))) G:=d8
theorem ix_tup:Wp (ixD (.tup l) (.int i)) G Q↔∃d,atI l i=some d/\Q d G:=aI8
def bD7:Nat->DH->D->Prop
 |0,G,d=>aR7 G d
 |n+1,G,d=>aR7 G d/\∀l,d= .tup l->∀x∈l,bD7 n G x
theorem bD7.there(h:bD7 n G d):aR7 G d:=by cases n;exact h;exact h.1
theorem eN6(h:aT7 G (.ref i)=some k):k= .list\/k= .dict:=by
 delta aT7 at h
 dsimp only at h
 generalize G[i]? =x at h
 rcases x with _|_|_|_|_<;>cases h<;>first|exact .inl rfl|exact .inr rfl
theorem cM1(f:D->Bool)(P:Kd->Bool)(h:aT7 G d=some k)(a:∀i,f (.ref i)=P .list/\f (.ref i)=P .dict)(b:f .non=P .non)(c:∀x,f (.bl x)=P .bool)(e:∀x,f (.int x)=P .int)(g:∀x,f (.str x)=P .str)(t:∀x,f (.tup x)=P .tuple):P k=f d:=by
 rcases d with _|x|x|x|x|i|_|_<;>try (cases h;done)
 ·cases h;exact b.symm
 ·cases h;exact(c x).symm
 ·cases h;exact(e x).symm
 ·cases h;exact(g x).symm
 ·cases h;exact(t x).symm
 ·rcases eN6 h with rfl|rfl;exact(a i).1.symm;exact(a i).2.symm
theorem S5:Wp (aC9 (.bl b)) G B↔B b G:=d8
theorem bA2:Wp (lenF [.tup l]) G Q↔Q (.int l.length) G:=d8
theorem T4:Wp (eqD (.int i) (.int j)) G Q↔Q (.bl (decide (i=j))) G:=by
 have e:eqN 40 G (.int i) (.int j)=some (decide (i=j)):=by rfl
 rw[cK3,e];exact M8
theorem bT9(h:Wp m G λa G'=>a=x/\G'=G):m G=some (.ok x,G):=by
 obtain⟨a,G',e,e1,e2⟩:=h
 subst e1 e2
 exact e
theorem aU5{g:Fg}{e:Fe}{G:DH}{I:DSt->Prop}(hck:ck G=true):∀items (U:DSt),I U->
 (∀d∈items,∀ U,I U->∃ WZ,g d U G=some (.ok WZ,G)/\I WZ/\t WZ G=some (.ok true,G)/\e WZ G=some (.ok (f d),G))->K9 g t e ck items U G=some (.ok (items.map f),G)
 |[],U,_,_=>by unfold K9;simp only[hck,if_true,List.map]
 |d::r,U,i,h=>by
   obtain⟨WZ,h1,i1,h2,h3⟩:=h d (by simp) U i
   have h4:=aU5 hck r WZ i1 λd hd=>h d (by simp[hd])
   unfold K9
   simp only[hck,if_true]
   rw[M.bind_ok h1,M.bind_ok h2,if_pos rfl,M.bind_ok h3,M.bind_ok h4]
   rfl
theorem cL7:∀l:List α,bC2 (l.map λx=>D.bl (f x))=some (l.map f)
 |[]=>rfl
 |a::r=>by show (bC2 (r.map λx=>D.bl (f x))).map (f a :: ·)=_;rw[cL7 r];rfl
theorem cB1{l:List D}{Q:DPP}(h:G[r]? =some (.lst (l.map λx=>.bl (f x)))):Wp (bO1 [.ref r]) G Q↔Q (.bl (l.all f)) G:=by
 unfold bO1
 simp only[g8,O6,h,M8,DL.listOf,d8,aI8,cL7]
 simp[Yb,ZC]
theorem bD9:Wp (ltD (.int i) (.int j)) G Q↔Q (.bl (decide (i<j))) G:=by
 have e:ltN 40 G (.int i) (.int j)=some (decide (i<j)):=by rfl
 rw[dH0,e];exact M8
theorem Z6:Wp (addD (.int i) (.int j)) G Q↔Q (.int (i+j)) G:=d8
theorem at0:atI [a,b] 0=some a:=by rfl
theorem at1:atI [a,b] 1=some b:=by rfl
theorem dX3(l:List D):DL.cutD l (some 1) none=l.drop 1:=by
 unfold DL.cutD
 rw[HT.sIx_none,show (some (1:Int))=some ((1:Nat):Int)from rfl,HT.sIx_nat]
 rcases l with _|⟨a,r⟩
 ·rfl
 ·simp[zp]
section
theorem aJ4:Wp (aE2 g b ck [] U) G P↔ck G=true/\P (.nx U) G:=by
 unfold aE2
 constructor
 · rintro⟨a,G',e,q⟩
   by_cases h:ck G=true
   ·simp only[h,if_true]at e;cases e;exact⟨h,q⟩
   ·simp only[h]at e;exact t6 e
 · rintro⟨h,q⟩
   exact⟨_,G,by simp only[h,if_true],q⟩
theorem aI5:Wp (aE2 g b ck (d::r) U) G P↔ck G=true/\Wp (g d U) G λWZ G1=>Wp (b WZ) G1 λfl G2=>match fl with
 | .nx X1=>Wp (aE2 g b ck r X1) G2 P
 | .ct X1=>Wp (aE2 g b ck r X1) G2 P
 | .bk X1=>P (.nx X1) G2
 | .rt d=>P (.rt d) G2:=by
 have e:Wp (aE2 g b ck (d::r) U) G P↔ck G=true/\Wp (do
  match <-b (<-g d U) with
  | .nx X1=>aE2 g b ck r X1
  | .ct X1=>aE2 g b ck r X1
  | .bk X1=>pure (.nx X1)
  | .rt d=>pure (.rt d):M Fl) G P:=by
  rw[aE2]
  constructor
  · rintro⟨a,G',e,q⟩
    by_cases h:ck G=true
    ·simp only[h,if_true]at e;exact⟨h,a,G',e,q⟩
    ·simp only[h]at e;exact t6 e
  · rintro⟨h,a,G',e,q⟩
    exact⟨a,G',by simp only[h,if_true];exact e,q⟩
 rw[e]
 simp only[g8]
 refine and_congr_right λ_=>?_
 constructor
 · rintro⟨WZ,G1,e1,fl,G2,e2,q⟩
   refine⟨WZ,G1,e1,fl,G2,e2,?_⟩
   cases fl<;>first
    |exact q
    |exact d8.mp q
 · rintro⟨WZ,G1,e1,fl,G2,e2,q⟩
   refine⟨WZ,G1,e1,fl,G2,e2,?_⟩
   cases fl<;>first
    |exact q
    |exact d8.mpr q
theorem aP0:Wp (aR4 it g b U) G P↔Wp (it U) G λs G1=>Wp (aE2 g b s.ck s.items U) G1 P:=by unfold aR4;simp only[g8]
end
theorem aN4:Wp (aO1 (.int i) (.int j)) G Q↔Q (.int (i-j)) G:=d8
theorem cX6:Wp (neD (.int i) (.int j)) G Q↔Q (.bl (!decide (i=j))) G:=by
 have e:eqN 40 G (.int i) (.int j)=some (decide (i=j)):=by rfl
 rw[dD9,e];exact M8
theorem atI_nat{k:Nat}(h:l[k]? =some s):atI l (k:Int)=some s:=by
 have hk:k<l.length:=by
  by_cases hk:k<l.length
  ·exact hk
  ·rw[zX (by omega)]at h;exact t6 h
 unfold atI ixN
 rw[if_pos (by omega),if_pos (by omega)]
 simpa using h
section
theorem aF8(h:0<j):Wp (bF0 (.int i) (.int j)) G Q↔Q (.int (i % j)) G:=by
 have e:bF0 (.int i) (.int j)=if 0<j then pure (.int (i % j))else M.stuck:=rfl
 rw[e,if_pos h];exact d8
theorem bC5(h:0<j/\j<2 ^ 100):Wp (bM0 (.int i) (.int j)) G Q↔Q (.int (i / j)) G:=by
 have e:bM0 (.int i) (.int j)=if bL6 i j then pure (.int (i / j))else M.stuck:=rfl
 rw[e,if_pos (show bL6 i j from h)];exact d8
theorem aS4(h:bI1 i j):Wp (aK4 (.int i) (.int j)) G Q↔Q (.int (i*j)) G:=by
 have e:aK4 (.int i) (.int j)=if bI1 i j then pure (.int (i*j))else M.stuck:=rfl
 rw[e,if_pos h];exact d8
theorem bR0{l:List D}(h:G[r]? =some (.lst l)):Wp (ixD (.ref r) (.int i)) G Q↔∃d,atI l i=some d/\Q d G:=by
 have e:ixD (.ref r) (.int i)= (do
  let l <-N5 r >>= DL.listOf
  aJ5 (atI l i)):=rfl
 rw[e]
 simp only[g8,O6,h,M8,DL.listOf,d8,aI8]
theorem dK9{d:D}{R:Unit->DH->Prop}(h:G[r]? =some (.lst l))(hj:ixN l.length k=some j):Wp (bZ5 (.ref r) (.int k) d) G R↔R () (G.set r (.lst (l.set j d))):=by
 unfold bZ5
 simp only[g8,O6,h,M8,hj,bE6]
theorem dI6:Wp (bF9 fo fi d U) G S↔Wp (fo U) G λo G1=>Wp (fi U) G1 λi G2=>Wp (bZ5 o i d) G2 λ_ G3=>S U G3:=by
 unfold bF9;simp only[g8,d8]
end
noncomputable def J8(G:DH)(r:Nat):Prop:=∃a b c e:Int,G[r]? =some (.lst [.int a,.int b,.int c,.int e])/\0<=b/\b<2 ^ 40
def Fr(r:Nat)(G G':DH):Prop:=G.length<=G'.length/\(∀i,i≠r->i<G.length->G'[i]? =G[i]?)/\J8 G' r
theorem J8.lt(h:J8 G r):r<G.length:=by
 obtain⟨a,b,c,e,hr,_⟩:=h
 by_cases hi:r<G.length
 ·exact hi
 ·rw[zX (by omega)]at hr;exact t6 hr
theorem J8.app(h:J8 G r):J8 (G++t) r:=by
 have hl:=h.lt
 obtain⟨a,b,c,e,hr,hb⟩:=h
 exact⟨a,b,c,e,by rw[zF hl];exact hr,hb⟩
theorem Fr.refl(h:J8 G r):Fr r G G:=⟨zj _,λ_ _ _=>rfl,h⟩
theorem Fr.trans(h:Fr r G G1)(k:Fr r G1 G2):Fr r G G2:=
 ⟨zu h.1 k.1,λi hi hl=>by rw[k.2.1 i hi (by have:=h.1;omega),h.2.1 i hi hl],k.2.2⟩
theorem Fr.app(h:J8 G r):Fr r G (G++t):=⟨by simp,λi _ hl=>zF hl,h.app⟩
theorem Fr.set(h:J8 (G.set r o) r):Fr r G (G.set r o):=⟨by simp,λi hi hl=>by rw[jT (Ne.symm hi)],h⟩
theorem dT7:Wp (bV3 (.int i)) G Q↔Q (.int (-i)) G:=d8
theorem bB2{l:List D}{k:Int}(h0:0<=k)(h1:k<l.length):∃d,d∈l/\atI l k=some d:=by
 obtain⟨n,rfl⟩:=jW h0
 have hn:n<l.length:=by omega
 exact⟨l[n],jO hn,atI_nat (zv hn)⟩
theorem sz{l:List D}(h:Nat.ble l.length 100=true:=by rfl):l.length<=zd:=zu (jt h) (by decide)
theorem Fr.lt(h:Fr r G G'):r<G'.length:=h.2.2.lt
theorem Fr.at(h:Fr r G G')(hp:p≠r)(e:G[p]? =some o):G'[p]? =some o:=by
 have hl:p<G.length:=by
  by_cases hi:p<G.length
  ·exact hi
  ·rw[zX (by omega)]at e;exact t6 e
 rw[h.2.1 p hp hl];exact e
theorem eM2{G t:DH}:(G++t)[G.length+k]? =t[k]? :=by
 rw[jH (by omega)];congr 1;omega
theorem cG8{G t:DH}:(G++t)[G.length]? =t[0]? :=eM2 (k:=0)
section
theorem aX6:Wp (mtE t m fo fs U) G Q↔Wp (fo U) G λx G1=>Wp (t x) G1 λ_ G2=>Wp (fs U) G2 λxs G3=>Wp (m x xs) G3 Q:=by
 unfold mtE;simp only[g8]
theorem V2(h:G[r]? =some (.lst l)):Wp (W3 (.ref r)) G R↔R () G:=by
 delta W3;exact g8.trans ((O6.trans (by rw[h];exact M8)).trans d8)
theorem aP6{l:List D}(h:G[r]? =some (.lst l))(hl:l.length<zd):Wp (aR3 (.ref r) [y]) G Q↔Q .non (G.set r (.lst (l++[y]))):=by
 have e:aR3 (.ref r) [y]= (do
  let l <-lstM r
  if l.length<zd then do
   let _ <-aZ3 r (.lst (l++[y]))
   pure .non
  else M.stuck):=rfl
 rw[e]
 unfold lstM
 simp only[g8,O6,h,M8,d8,hl,if_true,bE6]
theorem aC7{l:List D}(h:G[r]? =some (.lst l)):Wp (aD3 [.ref r]) G Q↔Q (.tup l) G:=by
 have e:aD3 [.ref r]= (do
  let l <-N5 r >>= DL.listOf
  pure (.tup l)):=rfl
 rw[e]
 simp only[g8,O6,h,M8,DL.listOf,d8]
theorem dF0:Wp (bY5 [.tup l]) G Q↔Q (.ref G.length) (G++[.lst l]):=R9
theorem rng1:Wp (U0 fs U) G R↔Wp (fs U) G λxs G1=>Wp (match xs with
 |[.int j]=>if -(2 ^ 62)<=j/\j<2 ^ 62 then pure ⟨J1 0 j.toNat,λ_=>true⟩else M.stuck
 |_=>M.stuck:M Src) G1 R:=by
 delta U0;exact g8
theorem rng1_int(h: -(2 ^ 62)<=j/\j<2 ^ 62):Wp (match [D.int j] with
 |[.int j]=>if -(2 ^ 62)<=j/\j<2 ^ 62 then pure ⟨J1 0 j.toNat,λ_=>true⟩else M.stuck
 |_=>M.stuck:M Src) G R↔R ⟨J1 0 j.toNat,λ_=>true⟩ G:=by
 show Wp (if -(2 ^ 62)<=j/\j<2 ^ 62 then pure ⟨J1 0 j.toNat,λ_=>true⟩else M.stuck:M Src) G R↔_
 rw[if_pos h];exact d8
theorem cJ2{a b:List D}(ha:G[i]? =some (.lst a))(hb:G[j]? =some (.lst b))(hl:a.length+b.length<=zd):Wp (addD (.ref i) (.ref j)) G Q↔Q (.ref G.length) (G++[.lst (a++b)]):=by
 have e:addD (.ref i) (.ref j)= (do
  match <-N5 i,<-N5 j with
  | .lst a,.lst b=>if a.length+b.length<=zd then M4 (.lst (a++b))else M.stuck
  |_,_=>M.stuck):=rfl
 rw[e]
 simp only[g8,O6,ha,hb,M8,if_pos hl,R9]
theorem bP1(hl:a.length+b.length<=zd):Wp (addD (.tup a) (.tup b)) G Q↔Q (.tup (a++b)) G:=by
 have e:addD (.tup a) (.tup b)=if a.length+b.length<=zd then pure (.tup (a++b))else M.stuck:=rfl
 rw[e,if_pos hl];exact d8
theorem cS2:Wp (J4 U) G R↔R none G:=d8
theorem dV5:Wp (J3 f U) G R↔Wp (f U) G λx G1=>∃i,x= .int i/\R (some i) G1:=by
 delta J3
 refine Iff.trans g8 ?_
 constructor
 · rintro⟨x,G1,e,q⟩
   refine⟨x,G1,e,?_⟩
   rcases x with _|_|i|_|_|_|_|_<;>try (exact(aA5.mp q).elim;done)
   ·exact⟨i,rfl,d8.mp q⟩
 · rintro⟨x,G1,e,i,rfl,q⟩
   exact⟨_,G1,e,d8.mpr q⟩
theorem sl_tup{lo hi:Option Int}:Wp (slD (.tup l) lo hi) G Q↔Q (.tup (DL.cutD l lo hi)) G:=d8
end
def bK1(d:D):Prop:=∃x y:Option Int,d= .tup [eG5 x,eG5 y]
def Fr2(r p:Nat)(G G':DH):Prop:=G.length<=G'.length/\(∀i,i≠r->i≠p->i<G.length->G'[i]? =G[i]?)/\J8 G' r
theorem Fr2.trans(h:Fr2 r p G G1)(k:Fr2 r p G1 G2):Fr2 r p G G2:=
 ⟨zu h.1 k.1,λi hi hp hl=>by rw[k.2.1 i hi hp (by have:=h.1;omega),h.2.1 i hi hp hl],k.2.2⟩
theorem Fr.two(h:Fr r G G1):Fr2 r p G G1:=⟨h.1,λi hi _ hl=>h.2.1 i hi hl,h.2.2⟩
theorem Fr2.set(hp:p≠r)(h:J8 G r):Fr2 r p G (G.set p o):=by
 refine⟨by simp,λi _ hi hl=>by rw[jT (Ne.symm hi)],?_⟩
 obtain⟨a,b,c,e,hr,hb⟩:=h
 exact⟨a,b,c,e,by rw[jT hp];exact hr,hb⟩
theorem bK1.set{xs:List D}(h:∀d∈xs,bK1 d)(hd:bK1 d):∀x∈xs.set j d,bK1 x:=λx hx=>by
 rcases List.mem_or_eq_of_mem_set hx with hx|rfl
 ·exact h x hx
 ·exact hd
theorem m8{G:DH}:(G++[o])[G.length]? =some o:=cG8
theorem O9{G t:DH}{p:Nat}(e:G[p]? =some o):(G++t)[p]? =some o:=by
 have hlt:p<G.length:=by
  by_cases hi:p<G.length
  ·exact hi
  ·rw[zX (by omega)]at e;exact t6 e
 rw[zF hlt];exact e
noncomputable def okD:D->Bool
 | .non=>true
 | .bl _=>true
 | .int _=>true
 | .str _=>true
 | .tup _=>true
 |_=>false
theorem dS0(x:Option Int):okD (eG5 x)=true:=by cases x<;>rfl
theorem dF6(h:okD d=true):aR7 G d:=by
 cases d<;>first|exact⟨_,rfl⟩|exact bL8 h
theorem fA6(h:∀x∈l,okD x=true):bD7 1 G (.tup l):=⟨⟨_,rfl⟩,λl' e x hx=>by cases e;exact dF6 (h x hx)⟩
theorem bK1.there(h:bK1 d):bD7 1 G d:=by
 obtain⟨x,y,rfl⟩:=h
 exact fA6 λz hz=>by
  simp only[zi,zn,or_false]at hz
  rcases hz with rfl|rfl<;>exact dS0 _
noncomputable def Gr(G G':DH):Prop:=G.length<=G'.length/\∀i,i<G.length->G'[i]? =G[i]?
theorem Gr.refl:Gr G G:=⟨zj _,λ_ _=>rfl⟩
theorem Gr.trans(h:Gr G G1)(k:Gr G1 G2):Gr G G2:=⟨zu h.1 k.1,λi hi=>by rw[k.2 i (by have:=h.1;omega),h.2 i hi]⟩
theorem Gr.app:Gr G (G++t):=⟨by simp,λi hi=>zF hi⟩
theorem Gr.of(h:Gr G G1)(f:Fr r G1 G2)(hr:G.length<=r):Gr G G2:=⟨zu h.1 f.1,λi hi=>by rw[f.2.1 i (by omega) (by have:=h.1;omega),h.2 i hi]⟩
theorem Gr.at{p:Nat}(h:Gr G G')(e:G[p]? =some o):G'[p]? =some o:=by
 have hl:p<G.length:=by
  by_cases hi:p<G.length
  ·exact hi
  ·rw[zX (by omega)]at e;cases e
 rw[h.2 p hl];exact e
theorem bX6:∀ns:List Int,aK5 (ns.map D.int)=some ns
 |[]=>rfl
 |a::r=>by show (aK5 (r.map D.int)).map (a :: ·)=_;rw[bX6 r];rfl
theorem dK7{ns:List Int}{Q:DPP}(e:G[p]? =some (.rol (ns.map D.int))):Wp (dF1 [.ref p]) G Q↔Q (.int ns.sum) G:=by
 have h:dF1 [.ref p]= (do
  let l <-N5 p >>= DL.listOf
  let ns <-aJ5 (aK5 l)
  pure (.int ns.sum)):=rfl
 rw[h]
 simp only[g8,O6,e,M8,DL.listOf,d8,aI8,bX6]
theorem dV6(e:G[p]? =some (.rol xs))(eq:G[q]? =some (.lst [])):Wp (neD (.ref p) (.ref q)) G Q↔Q (.bl (!xs.isEmpty)) G:=by
 have h:eqN 40 G (.ref p) (.ref q)=some xs.isEmpty:=by
  have h1:K3 G (.ref p)=some (false,xs):=by delta K3;dsimp only;rw[e]
  have h2:K3 G (.ref q)=some (false, []):=by delta K3;dsimp only;rw[eq]
  rw[cF5,h1,h2]
  cases xs<;>rfl
 rw[dD9,h];exact M8
theorem bA3{U:DSt}{l:List D}{R:Src->DH->Prop}(e:G[p]? =some (.lst l)):Wp (aE9 (.ref p)) G R↔R ⟨l,ckO p (.lst l)⟩ G:=by
 have h:aE9 (.ref p)= (do
  let o <-N5 p
  let l <-DL.listOf o
  pure ⟨l,ckO p o⟩):=rfl
 rw[h]
 simp only[g8,O6,e,M8,DL.listOf,d8]
theorem eB8{lo hi:Option Int}(e:G[p]? =some (.rol l)):Wp (slD (.ref p) lo hi) G Q↔Q (.ref G.length) (G++[.lst (DL.cutD l lo hi)]):=by
 have h:slD (.ref p) lo hi= (do
  let l <-N5 p >>= DL.listOf
  M4 (.lst (DL.cutD l lo hi))):=rfl
 rw[h]
 simp only[g8,O6,e,M8,DL.listOf,d8,R9]
theorem dC7:Wp (aV5 fs U) G R↔Wp (fs U) G λxs G1=>Wp (match xs with
 |[.ref r]=>do
   let s <-aE9 (.ref r)
   pure ⟨s.items.zipIdx.map λp=>.tup [.int ((p.2:Nat):Int),p.1],s.ck⟩
 |_=>M.stuck:M Src) G1 R:=by
 delta aV5;exact g8
theorem dB4{p:Nat}{l:List D}{R:Src->DH->Prop}(e:G[p]? =some (.lst l)):Wp (match [D.ref p] with
 |[.ref r]=>do
   let s <-aE9 (.ref r)
   pure ⟨s.items.zipIdx.map λp=>.tup [.int ((p.2:Nat):Int),p.1],s.ck⟩
 |_=>M.stuck:M Src) G R↔R ⟨l.zipIdx.map λp=>.tup [.int ((p.2:Nat):Int),p.1],ckO p (.lst l)⟩ G:=by
 show Wp (do
  let s <-aE9 (.ref p)
  pure ⟨s.items.zipIdx.map λp=>.tup [.int ((p.2:Nat):Int),p.1],s.ck⟩:M Src) G R↔_
 simp only[g8]
 rw[bA3 (U:= []) e]
 exact d8
section
theorem bV5:Wp (aG3 o o' a b c U) G Q↔Wp (a U) G λx G1=>Wp (b U) G1 λy G2=>Wp (o x y) G2 λz G3=>∃k,z= .bl k/\if k=true then Wp (c U) G3 λw G4=>Wp (o' y w) G4 Q else Q (.bl false) G3:=by
 unfold aG3;simp only[g8,bP9,aK8,d8]
theorem wp_trueT:Wp (U6 U) G B↔B true G:=d8
theorem bF8:Wp (K9 g t e ck [] U) G R↔ck G=true/\R [] G:=by
 unfold K9
 constructor
 · rintro⟨a,G',e,q⟩
   by_cases h:ck G=true
   ·simp only[h,if_true]at e;cases e;exact⟨h,q⟩
   ·simp only[h]at e;exact t6 e
 · rintro⟨h,q⟩
   exact⟨_,G,by simp only[h,if_true],q⟩
theorem bE2:Wp (K9 g t e ck (d::r) U) G R↔ck G=true/\Wp (g d U) G λWZ G1=>Wp (t WZ) G1 λb G2=>if b=true then Wp (e WZ) G2 λy G3=>Wp (K9 g t e ck r WZ) G3 λys G4=>R (y::ys) G4 else Wp (K9 g t e ck r WZ) G2 R:=by
 have h0:Wp (K9 g t e ck (d::r) U) G R↔ck G=true/\Wp (do
  let WZ <-g d U
  if <-t WZ then do
   let y <-e WZ
   let ys <-K9 g t e ck r WZ
   pure (y::ys)
  else K9 g t e ck r WZ:M (List D)) G R:=by
  rw[K9]
  constructor
  · rintro⟨a,G',e,q⟩
    by_cases h:ck G=true
    ·simp only[h,if_true]at e;exact⟨h,a,G',e,q⟩
    ·simp only[h]at e;exact t6 e
  · rintro⟨h,a,G',e,q⟩
    exact⟨a,G',by simp only[h,if_true];exact e,q⟩
 rw[h0]
 simp only[g8,aK8,d8]
theorem wp_comp:Wp (R1 it caps g t e U) G Q↔Wp (it U) G λs G1=>s.items.length<=zd/\Wp (K9 g t e s.ck s.items (W6 caps U)) G1 λys G2=>Q (.ref G2.length) (G2++[.lst ys]):=by
 unfold R1
 simp only[g8]
 constructor
 · rintro⟨s,G1,e1,q⟩
   refine⟨s,G1,e1,?_⟩
   by_cases h:s.items.length<=zd
   · rw[if_pos h]at q
     simp only[g8,bZ7,R9]at q
     exact⟨h,q⟩
   ·rw[if_neg h]at q;exact(aA5.mp q).elim
 · rintro⟨s,G1,e1,h,q⟩
   refine⟨s,G1,e1,?_⟩
   dsimp only
   rw[if_pos h]
   simp only[g8,bZ7,R9]
   exact q
end
section
theorem eI9:Ty.of "str" =some .str:=by rfl
noncomputable def aG7:D->Bool
 | .str _=>true
 |_=>false
noncomputable def Z2:D->Bool
 | .int _=>true
 | .bl _=>true
 |_=>false
theorem eB3(h:aR7 G d):Wp (u9 [d,.ty "str"]) G Q↔Q (.bl (aG7 d)) G:=by
 obtain⟨k,h⟩:=h
 rw[aV0 eI9]
 simp only[h,M8]
 rw[cM1 (aG7) (λk=>k.is .str) h (λ_=>⟨rfl,rfl⟩) rfl (λ_=>rfl) (λ_=>rfl) (λ_=>rfl) λ_=>rfl]
theorem eF8(h:aR7 G d):Wp (u9 [d,.ty "int"]) G Q↔Q (.bl (Z2 d)) G:=by
 obtain⟨k,h⟩:=h
 rw[aV0 eH3]
 simp only[h,M8]
 rw[cM1 (Z2) (λk=>k.is .int) h (λ_=>⟨rfl,rfl⟩) rfl (λ_=>rfl) (λ_=>rfl) (λ_=>rfl) λ_=>rfl]
theorem cT1(h:aR7 G d):Wp (u9 [d,.tup [.ty "int",.ty "str"]]) G Q↔Q (.bl (Z2 d||aG7 d)) G:=by
 obtain⟨k,h⟩:=h
 have e:u9 [d,.tup [.ty "int",.ty "str"]] G=some (.ok (.bl (k.is .int||k.is .str)),G):=by
  have et:bF3 [.ty "int",.ty "str"]=some [.int,.str]:=by rfl
  unfold u9
  simp only[h,et,yc,List.any_nil,ZJ]
 rw[aT8 e]
 rw[cM1 (λd=>Z2 d||aG7 d) (λk=>k.is .int||k.is .str) h (λ_=>⟨rfl,rfl⟩) rfl (λ_=>rfl) (λ_=>rfl) (λ_=>rfl) λ_=>rfl]
theorem aV2:Wp (eqD (.str a) (.str b)) G Q↔Q (.bl (a==b)) G:=by
 have e:eqN 40 G (.str a) (.str b)=some (a==b):=by rfl
 rw[cK3,e];exact M8
theorem dV2:Wp (leD (.str a) (.str b)) G Q↔Q (.bl (!decide (b.cps.toList<a.cps.toList))) G:=d8
theorem U5(h:a.length+b.length<=zd):Wp (addD (.str a) (.str b)) G Q↔Q (.str (a++b)) G:=by
 have e:addD (.str a) (.str b)=if a.length+b.length<=zd then pure (.str (a++b))else M.stuck:=rfl
 rw[e,if_pos h];exact d8
theorem aA3(h:z.length<=zd):Wp (lenF [.str z]) G Q↔Q (.int z.length) G:=by
 have e:lenF [.str z]=if z.length<=zd then pure (.int z.length)else M.stuck:=rfl
 rw[e,if_pos h];exact d8
theorem dX1:Wp (inD x y) G Q↔∃k,inB x y G=some k/\Q (.bl k) G:=aZ8 (by unfold inD eV7;cases inB x y G<;>rfl)
theorem cV5(e:G[p]? =some (.lst l)):Wp (dT9 (.ref p)) G R↔R ⟨l,ckO p (.lst l)⟩ G:=bA3 (U:= []) e
end
noncomputable def cR7(c:Nat):Bool:=decide (97<=c)&&decide (c<=122)
def aH9(z:Str):Bool:=z.cps.toList.all cR7
end W
namespace DL
open PySem PySem.Spec L2
open PyProof.Rows hiding St
theorem cR6:typeLookup (.type "list_reverseiterator") "__len__" =pure none:=by rw[typeLookup_type,builtinLookup_eq_fast];kernel_rfl
theorem dD4:typeLookup (.type "list_reverseiterator") "__length_hint__" =pure (some (.builtin "list_reverseiterator.__length_hint__")):=by rw[typeLookup_type,builtinLookup_eq_fast];kernel_rfl
section
theorem dI9(hT:s.TypeIs (.ref I) "list_reverseiterator")(h:Q false s):zt (zB prog w) A (ZH (.ref I)) Q E s:=by
 unfold ZH
 refine za (wpAny_specialOf hT cR6 ?_)
 show zt _ A (specialOf (Value.ref I) (jI "__length_hint__") >>= _) _ _ _
 refine za (wpAny_specialOf hT dD4 ?_)
 generalize hid:("list_reverseiterator.__length_hint__" :String)=id0
 wp_delta
 rw[show splitId id0=some ("list_reverseiterator", "__length_hint__")from by subst hid;decide +kernel]
 subst hid
 refine za (wpAny_isInstance (b:=true) hT (by rw[isSubtype_type];kernel_rfl) ?_)
 refine zo ?_
 exact h
theorem cC6(hh:A.handled=none)(hI:s.heap.IsRevIter I l ((items.size:Int)-1))(hl:s.heap.IsList l items)(hne:l≠I)(S:Addr)(hSI:S≠I)(hSl:S≠l)(res:zg)(c₀:Nat)(hS:s.heap.get? S=some {cls:=.type "list",data:=.seq #[] c₀})
 (hR:∀h' tk acc' c',(∀b o,b≠S->b≠I->s.heap.get? b=some o->h'.get? b=some o)->h'.get? S=some {cls:=.type "list",dict:=none,data:=.seq acc' c',slots:= #[]}->ItemsOf (λi v=>items[items.size-1-i]? =some v) acc' items.size->R (.ok (.ret res)) {s with heap:=h',toks:=tk}) (hn:items.size<=zd):
 zt (zB prog w) A.in1 (yy (.ref S) (.ref I) res)
  (λfin s'=>match fin with| .done f=>R (.ok f) s'| .again c'=>c'.quiet=true/\ZW (zB prog w) A c' R s') (λe s'=>R (.error e) s') s:=by
 have hSf:S∉ [I,l]:=by simp only[zi,zn,or_false,not_or];exact⟨hSI,hSl⟩
 have W:=Walks.listRev (prog:=prog) (w:=w) (A:=A.in1) hh I l hne items
 have st:(0<=items.size/\s.heap.IsRevIter I l ((items.size:Int)-1-((0:Nat):Int))/\s.heap.IsList l items):=⟨jV _,by simpa using hI,hl⟩
 unfold yy
 refine za (Zu hI.typeIs ?_)
 have h1:ZZ (.ref S) (.ref I)=false:=by simp[ZZ,hSI]
 rw[if_neg (by rw[h1];decide)]
 refine za (wpAny_pyIter_revIter hI ?_)
 refine za (yt (dI9 hI.typeIs ?_))
 refine wpAny_ite_split (λhab=>absurd hab (by decide)) (λ_=>?_)
 refine zo ⟨Ji PySem.F.plain_extend_loop _,codeAny_extend_loopS W.toS hn S hSf res items.size 0 _ #[] c₀ rfl (jV _) st hS (ItemsOf.nil _) λs' acc' c' hm hS' hacc=>?_⟩
 rw[Moved.eq_with hm]
 refine hR s'.heap s'.toks acc' c' (λb o hb hbI e=>hm.heap b o (λhmem=>?_) e) hS' hacc
 rcases zi.mp hmem with e'|hmem
 ·exact hb e'
 ·exact hbI (zM.mp hmem)
theorem dD1(hh:A.handled=none)(hI:s.heap.IsRevIter I l ((items.size:Int)-1))(hl:s.heap.IsList l items)(hne:l≠I)(S:Addr)(hSI:S≠I)(hSl:S≠l)(hS:s.heap.get? S=some {cls:=.type "list",data:=.seq #[]})
 (hR:∀h' tk acc' c',(∀b o,b≠S->b≠I->s.heap.get? b=some o->h'.get? b=some o)->h'.get? S=some {cls:=.type "list",dict:=none,data:=.seq acc' c',slots:= #[]}->ItemsOf (λi v=>items[items.size-1-i]? =some v) acc' items.size->R (.ok (.ret .none)) {s with heap:=h',toks:=tk}) (hn:items.size<=zd):
 zt (zB prog w) A.in1 (Zx.«list.__init__» ⟨[.ref S,.ref I], []⟩)
  (λfin s'=>match fin with| .done f=>R (.ok f) s'| .again c'=>c'.quiet=true/\ZW (zB prog w) A c' R s') (λe s'=>R (.error e) s') s:=by
 show zt _ _ (do let old <-Yk (.ref S);Builtin.List.listUpdate (.ref S) (λ_=> #[]);letGo old.toList.reverse;yy (.ref S) (.ref I) .none) _ _ s
 refine za ?_
 unfold Yk
 refine za (yj hS rfl (zo ?_))
 show zt _ _ (updateSeq S (λ_=> #[]) >>= λ_=>letGo (#[]:Array zg).toList.reverse >>= λ_=>yy (.ref S) (.ref I) .none) _ _ s
 refine za (wpAny_updateSeq hS rfl ?_)
 have hS₂:=yi (xO (λ_=>(#[]:Array zg))) hS rfl
 have oth:∀b o,b≠S->s.heap.get? b=some o->(s.heap.update S (xO (λ_=>(#[]:Array zg)))).get? b=some o:=
  λb o hb e=>(jf _ _ (Ne.symm hb)).trans e
 refine za (Xh ?_)
 refine cC6 hh (hI.at λo e=>oth I o (Ne.symm hSI) e) (hl.at λo e=>oth l o (Ne.symm hSl) e) hne S hSI hSl .none _ hS₂ (λh' tk acc' c' hk hS' hacc=>?_) hn
 exact hR h' tk acc' c' (λb o hb hbI e=>hk b o hb hbI (oth b o hb e)) hS' hacc
theorem cZ7(hh:A.handled=none)(hI:s.heap.IsRevIter I l ((items.size:Int)-1))(hl:s.heap.IsList l items)(hne:l≠I)(hn:items.size<=zd)
 (hQ:∀h' tk acc' c',(∀b o,b≠I->s.heap.get? b=some o->h'.get? b=some o)->h'.get? s.heap.objs.size=some {cls:=.type "list",dict:=none,data:=.seq acc' c',slots:= #[]}->ItemsOf (λi v=>items[items.size-1-i]? =some v) acc' items.size->Q (.ref s.heap.objs.size) {s with heap:=h',toks:=tk}):
 zt (zB prog w) A (call (.type "list") [.ref I]) Q E s:=by
 refine callType_codes (Q₁:=λobj W1=>obj= .ref s.heap.objs.size/\W1= {s with heap:=s.heap.push {cls:=.type "list",data:=.seq #[]}}) PySem.F.called_list (PySem.F.typeCall_list_1 _) PySem.F.entry_list_init
  (code_list_new _ ⟨rfl,rfl⟩) λobj W1 h₁=>?_
 obtain⟨rfl,rfl⟩:=h₁
 have hS:(s.heap.push {cls:=.type "list",data:=.seq #[]}).get? s.heap.objs.size=some {cls:=.type "list",data:=.seq #[]}:=zq _ rfl
 have hltI:I<s.heap.objs.size:=by obtain⟨_,e,_⟩:=hI;exact zl e
 have hltl:l<s.heap.objs.size:=by obtain⟨_,e,_⟩:=hl;exact zl e
 refine⟨⟨_,hS,rfl⟩,PySem.F.args_list_init_2 _ _,dD1 (A:=A.in1) hh (hI.at λo e=>zf _ e) (hl.at λo e=>zf _ e) hne _ (yn hltI) (yn hltl) hS (λh' tk acc' c' hk hS' hacc=>?_) hn⟩
 exact⟨rfl,hQ h' tk acc' c' (λb o hbI e=>hk b o (zE (zl e)) hbI (zf _ e)) hS' hacc⟩
end
def bK2:D->M D:=λx=>match x with
 | .ref r=>do
   let l <-N5 r >>= listOf
   M4 (.lst l.reverse)
 |_=>M.stuck
section
theorem cP5{its:List zg}(h:ItemsOf (λi v=>its.toArray[its.toArray.size-1-i]? =some v) acc its.toArray.size):acc.toList=its.reverse:=by
 have hl:acc.toList.length=its.length:=by rw[jZ,h.1];simp
 apply JX
 intro i
 by_cases hi:i<its.length
 · have hi':i<acc.size:=by rw[h.1];simpa using hi
   have hv:=h.2 i acc[i] (jp hi')
   rw[List.getElem?_reverse hi,jb,jp hi',<-hv]
   simp
 ·rw[zX (by lia),zX (by rw[ya];lia)]
theorem cD6(he:DE X Z e fa)(hc:X.calm=true)(hg1:Gl X "list")(hm1:X.mg "list" =none)(hg2:Gl X "reversed")(hm2:X.mg "reversed" =none)
 (hs1:zy [Expr.Call (.Name "reversed" p2) [e] [] pos2] X.env= [(false,eval (.Call (.Name "reversed" p2) [e] [] pos2) X.env)]) (hs2:zy [e] X.env= [(false,eval e X.env)])
 (hb1:zK "list" =some (.type "list"):=by first|rfl|decide +kernel) (hb2:zK "reversed" =some (.type "reversed"):=by first|rfl|decide +kernel):
 DE X Z (.Call (.Name "list" p1) [.Call (.Name "reversed" p2) [e] [] pos2] [] pos1) (unE bK2 fa):=by
 refine⟨?_⟩
 intro pins s U H Q I hE0
 refine hE0.elim λX9 μ G sr h p=>?_
 refine Call_ (aK6 I hg1 hm1 hb1 (jB ?_ hs1 rfl))
 rw[hs1]
 refine ZG (Call_ (aK6 I hg2 hm2 hb2 (jB ?_ hs2 rfl)))
 rw[hs2]
 refine ZG (thn (he.h pins s U H _ I ⟨X9,μ,G,sr,h,(c7.bind p).mono λd X0 G1 H1 x1 h1 p1 v rv=>(⟨d,X0,G1,rv,h1,p1⟩:bG1 (wc X) Z bK2 v H1 Q)⟩) λv s1 ⟨x,H1,I1,r1,d,X0,G1,rd,h1,p1⟩=>?_)
 refine ZR ?_
 rcases d with _|_|_|_|_|r|_|_<;>try (exact p1.elim;done)
 ·
   obtain⟨l,a,vs,rfl,rl,hq,p2⟩:=aD9 h1 rd p1
   cases r1
   obtain⟨its,rr,ht,hz⟩:=I1.list hq
   refine call_reversed_list ht.isList ?_
   refine ZR ?_
   have hlt:a<s1.heap.objs.size:=by obtain⟨_,e,_⟩:=ht.isList;exact zl e
   have hI:(s1.heap.push (revObj a ((its.toArray.size:Int)-1))).IsRevIter s1.heap.objs.size a ((its.toArray.size:Int)-1):=⟨_,zq _ rfl,rfl,rfl⟩
   refine cZ7 (I.ok.hd hc) hI (ht.isList.push _) (zE hlt) (by rw[zk,<-rr.length];exact hz) λh' tk acc' c' hk hS' hacc=>?_
   have e2:=cP5 hacc
   have hD:s1.heap.objs.size<=(s1.heap.push (revObj a ((its.toArray.size:Int)-1))).objs.size:=by rw[yf];exact jz _
   have hf:=I1.hok.fresh hD
   have hS2:h'.get? (s1.heap.push (revObj a ((its.toArray.size:Int)-1))).objs.size=some {cls:=.type "list",data:=.seq its.reverse.toArray c'}:=by
    rw[hS',<-e2,Zq]
   exact⟨.ref _,upd H1 _ (.lst vs.reverse),I1.laid (λb u q=>hk b u (zE (zl q)) (zf _ q)) hD ⟨by rw[ya];exact hz,its.reverse,c',rr.reverse,hS2⟩,rfl,R8 h1 rl.reverse p2 _ hf⟩
end
end DL
namespace DL
open PySem PySem.Spec L2 Builtin Builtin.Str
open PyProof.Rows hiding St
section
variable{X:Cx}{Z:XC}{e:Expr}{fa:Fe}{p2 pos:Pos}{lo hi:Option Expr}{fl fh:Fo}
theorem cL3(p:IsPart v o):∃l:Option (Int×Tok),v=partValue l/\l.map (·.1)=o:=by
 cases p with
 |none=>exact⟨none,rfl,rfl⟩
 |int i t=>exact⟨some (i,t),rfl,rfl⟩
theorem eF4:SlR X (λx lo hi H Q=>∃z,x= .str z/\z.length<=zd/\Q (.str (ye z lo hi)) H):=by
 intro pins s U H x v vl vu lo hi sl Q I rx hs pl pu h
 obtain⟨z,rfl,hz,q⟩:=h
 obtain⟨t,rfl⟩:=rx
 obtain⟨l,el,eml⟩:=cL3 pl
 obtain⟨u,eu,emu⟩:=cL3 pu
 subst el eu eml emu
 refine⟨"str",_,YE.lookup,Zv _ z t,?_⟩
 refine Jp (st:=none) (let ⟨o,h1,h2,h3⟩:=hs;⟨o,h1,h2,h3⟩) rfl ?_
 unfold sliceMade
 unfold ye at q
 unfold slicePicked
 have e1:((XZ (λx:Int×Tok=>x.1) none).getD 1)= (1:Int):=rfl
 simp only[e1]
 by_cases hc:((1:Int)==1&&(strSliceIndices (l.map (·.1)) (u.map (·.1)) 1 z.length).length==z.length)=true
 · rw[if_pos hc]at q
   rw[if_pos hc]
   exact⟨.str z,H,I,⟨t,rfl⟩,q⟩
 · rw[if_neg hc]at q
   rw[if_neg hc]
   refine⟨?_,.str _,H,I.tok _,⟨_,rfl⟩,q⟩
   have hle:=Txt.slice_le z (l.map (·.1)) (u.map (·.1))
   unfold ye at hle
   rw[if_neg hc]at hle
   exact zu hle hz
def slT:D->Option Int->Option Int->M D:=λx lo hi=>match x with
 | .str z=>if z.length<=zd then pure (.str (ye z lo hi))else M.stuck
 | .tup l=>slD (.tup l) lo hi
 | .ref r=>slD (.ref r) lo hi
 |_=>M.stuck
def w5(f:Fe)(lo hi:Fo):Fe:=λU=>do
 let x <-f U
 let l <-lo U
 let h <-hi U
 slT x l h
theorem eC9:SlD X Z slT:=SlR.mono (eF4.or (eT5)) λx lo hi H Q ⟨dx,μ,G,rx,hr,p⟩=>by
 rcases dx with _|_|_|z|l|r|_|_<;>try (exact p.elim;done)
 ·
   unfold slT at p
   dsimp only at p
   split at p
   · rename_i hz
     exact .inl ⟨z,aE6 rx,hz,c7.ok p hr _ (by unfold d7;rfl)⟩
   ·exact p.elim
 ·exact .inr ⟨.tup l,μ,G,rx,hr,p⟩
 ·exact .inr ⟨.ref r,μ,G,rx,hr,p⟩
theorem cP0(he:DE X Z e fa)(hl:DOp X Z lo fl)(hu:DOp X Z hi fh):DE X Z (.Subscript e (.Slice lo hi none p2) pos) (w5 fa fl fh):=
 DE.of (dK0 eC9 he.h hl.h hu.h) λU H Q hE0=>hE0.elim λX9 μ G s h p=>⟨X9,μ,G,s,h,(c7.bind p).mono λd X0 G1 H1 x1 h1 p1 v rv=>
  ⟨X9,X0,G1,s.mono x1,h1,(c7.bind p1).mono λl WX G2 H2 x2 h2 p2=>⟨X9,WX,G2,s.mono (x1.trans x2),h2,(c7.bind p2).mono λu μ3 G3 H3 x3 h3 p3=>⟨d,μ3,G3,rv.mono (x2.trans x3),h3,p3⟩⟩⟩⟩
end
noncomputable def Txt.rev(z:Str):Str:=⟨((strSliceIndices none none (-1) z.length).filterMap (z.cps[·]?)).toArray⟩
def cA9:D->M D:=λx=>match x with
 | .str z=>if (Txt.rev z).length<=zd then pure (.str (Txt.rev z))else M.stuck
 | .tup l=>eV4 (.tup l)
 | .ref r=>eV4 (.ref r)
 |_=>M.stuck
section
theorem dP4(he:DE X Z e fa):DE X Z (.Subscript e (.Slice none none (some (.UnaryOp .USub (.Constant (.int 1) k q1) q2)) p2) pos) (unE cA9 fa):=by
 refine⟨?_⟩
 intro pins s U H Q I hE0
 refine hE0.elim λX9 μ G sr h p=>?_
 refine Subscript_ (thn (he.h pins s U H _ I ⟨X9,μ,G,sr,h,(c7.bind p).mono λd X0 G1 H1 x1 h1 p1 v rv=>(⟨d,X0,G1,rv,h1,p1⟩:bG1 (wc X) Z cA9 v H1 Q)⟩) λv s1 ⟨x,H1,I1,r1,d,X0,G1,rd,h1,p1⟩=>?_)
 refine wpAny_Slice ?_
 rw[Jj]
 refine zo (zo ?_)
 rw[evalPart_some]
 refine thn ((dX6 dA7 (cC7)) pins s1 U H1 (λv' H'=>v'= .int (-1)/\H'=H1) I1 ⟨1,rfl,rfl,rfl⟩) λu s2 ⟨xu,H2,I2,ru,e1,e2⟩=>?_
 subst e1 e2
 obtain⟨tk,rfl⟩:=ru
 have I3:Inv X pins U H2 {s2 with heap:=s2.heap.push {cls:=.type "slice",data:=.fields #[.none,.none,.int (-1) tk]}}:=I2.kept λb ob q=>zf _ q
 have hsl:Heap.IsSliceOf (s2.heap.push {cls:=.type "slice",data:=.fields #[.none,.none,.int (-1) tk]}) s2.heap.objs.size .none .none (.int (-1) tk):=Ys ..
 rcases d with _|_|_|z|l|r|_|_<;>try (exact p1.elim;done)
 ·
   unfold cA9 at p1
   dsimp only at p1
   split at p1
   case isFalse=>exact p1.elim
   rename_i hz
   cases aE6 rd
   obtain⟨t,rfl⟩:=r1
   refine XL (Zv _ z t) YE.lookup (Jp (l:=none) (u:=none) (st:=some (-1,tk)) (let ⟨o,h1,h2,h3⟩:=hsl;⟨o,h1,h2,h3⟩) (by rfl) ?_) (by with_unfolding_all rfl)
   unfold sliceMade
   rw[if_neg (by simp)]
   exact⟨hz,.str _,H2,I3.tok _,⟨_,rfl⟩,c7.ok p1 h1 _ (by unfold d7;rfl)⟩
 ·
   unfold d7 at rd
   obtain⟨a,vs,rfl,q,rl⟩:=rd
   cases r1
   obtain⟨its,rr,ht,hz⟩:=I3.tuple q
   refine XL ht.typeIs zO.lookup (aT1 ht hsl ?_ (by rw[<-rr.length];exact hz)) (by with_unfolding_all rfl)
   have hf:=I3.hok.fresh (zj _)
   refine⟨.ref _,upd H2 _ (.tup vs.reverse),I3.laid (λb u e=>zf _ e) (zj _) ?_,rfl,aL6 h1 rl.reverse p1 _ hf⟩
   exact⟨by rw[ya];exact hz,its.reverse,rr.reverse,⟨_,zq _ rfl,rfl,_,rfl⟩⟩
 ·
   obtain⟨l,a,vs,rfl,rl,p2,hq⟩:=aN0 h1 rd p1
   cases r1
   have hs:SqL X.K H2 a vs:=by
    rcases hq with⟨z,_⟩|⟨_,_,_,⟨_,q⟩|⟨_,q⟩⟩
    ·cases z
    ·exact SqL.of q
    ·exact q.sq
   obtain⟨its,rr,ht,hz⟩:=I3.list hs
   refine XL ht.isList.typeIs YA.lookup (Je ht.isList hsl .none .none (.int (-1) tk) (by simp) ?_ (by rw[zk,<-rr.length];exact hz)) (by with_unfolding_all rfl)
   rw[PySem.W.krv_pick]
   have hf:=I3.hok.fresh (zj _)
   refine⟨.ref _,upd H2 _ (.lst vs.reverse),I3.laid (λb u e=>zf _ e) (zj _) ?_,rfl,R8 h1 rl.reverse p2 _ hf⟩
   exact⟨by rw[ya];exact hz,its.reverse,0,rr.reverse,zq _ rfl⟩
end
end DL
namespace W
open PySem PySem.Spec L2 DL Builtin Builtin.Str
open PyProof.Rows hiding St
section
theorem J0{lo hi:Fo}:Wp (w5 f lo hi U) G Q↔Wp (f U) G λx G1=>Wp (lo U) G1 λl G2=>Wp (hi U) G2 λh G3=>Wp (slT x l h) G3 Q:=by
 unfold w5;simp only[g8]
theorem cN2{lo hi:Option Int}:Wp (slT (.tup l) lo hi) G Q↔Q (.tup (DL.cutD l lo hi)) G:=d8
theorem R0{lo hi:Option Int}(h:z.length<=zd):Wp (slT (.str z) lo hi) G Q↔Q (.str (ye z lo hi)) G:=by
 have e:slT (.str z) lo hi=if z.length<=zd then pure (.str (ye z lo hi))else M.stuck:=rfl
 rw[e,if_pos h];exact d8
theorem cP8{lo hi:Option Int}:(ye z lo hi).length<=z.length:=Txt.slice_le z lo hi
theorem dI0(h:(DL.Txt.rev z).length<=zd):Wp (cA9 (.str z)) G Q↔Q (.str (DL.Txt.rev z)) G:=by
 have e:cA9 (.str z)=if (DL.Txt.rev z).length<=zd then pure (.str (DL.Txt.rev z))else M.stuck:=rfl
 rw[e,if_pos h];exact d8
theorem cW4(e:G[r]? =some (.lst l)):Wp (bK2 (.ref r)) G Q↔Q (.ref G.length) (G++[.lst l.reverse]):=by
 have h:bK2 (.ref r)= (do
  let l <-N5 r >>= DL.listOf
  M4 (.lst l.reverse)):=rfl
 rw[h]
 simp only[g8,O6,e,M8,DL.listOf,d8,R9]
theorem dV3(n:Nat):(strSliceIndices none none (-1) n).length<=n:=by
 unfold strSliceIndices XB
 dsimp only
 rw[zh,jg]
 simp only[show ¬((-1:Int)>0)from by decide,if_false]
 by_cases h:((n:Int)-1 > -1)
 · rw[if_pos h,show (- -1:Int)=1 from by decide,XU]
   lia
 · rw[if_neg h]
   exact jV _
theorem dP7(z:Str):(DL.Txt.rev z).length<=z.length:=by
 have h1:=dV3 z.length
 have h2:(DL.Txt.rev z).length= ((strSliceIndices none none (-1) z.length).filterMap (z.cps[·]?)).length:=by
  unfold DL.Txt.rev
  show Array.size _=_
  simp
 rw[h2]
 exact zu (Xm _ _) h1
end
end W
namespace DL
open PySem PySem.Spec L2
open PyProof.Rows hiding St
def dS8:D->D->M D:=λx y=>match y with
 | .non=>pure (.bl (cD8 x))
 | .bl c=>match x with
   | .bl d=>pure (.bl (d==c))
   |_=>M.stuck
 |_=>M.stuck
def cW7:D->D->M D:=λx y=>match y with
 | .non=>pure (.bl (!cD8 x))
 | .bl c=>match x with
   | .bl d=>pure (.bl (d != c))
   |_=>M.stuck
 |_=>M.stuck
def aG9(a b:Fe):Fe:=λU=>do
 let x <-a U
 if <-aC9 x then b U else pure x
section
theorem eA4:OpR X (zL .Is) (λx y H Q=>(y= .non/\Q (.bl (decide (x= .non))) H)\/∃c d,x= .bl c/\y= .bl d/\Q (.bl (c==d)) H):=by
 intro pins s U H x y v u Q I rx ry h
 rcases h with h|⟨c,d,rfl,rfl,q⟩
 ·exact eA9 pins s U H x y v u Q I rx ry h
 · cases rx
   cases ry
   exact is_bool ⟨.bl (c==d),H,I,rfl,q⟩
theorem cQ4:OpR X (zL .IsNot) (λx y H Q=>(y= .non/\Q (.bl (!decide (x= .non))) H)\/∃c d,x= .bl c/\y= .bl d/\Q (.bl (c != d)) H):=by
 intro pins s U H x y v u Q I rx ry h
 rcases h with h|⟨c,d,rfl,rfl,q⟩
 ·exact dN1 pins s U H x y v u Q I rx ry h
 · cases rx
   cases ry
   exact isnot_bool ⟨.bl (c != d),H,I,rfl,q⟩
theorem eL2:OpD X Z (zL .Is) dS8:=OpD.of eA4 λx y H Q hE0=>hE0.elim λdx dy μ G rdx rdy hr p=>by
 rcases dy with _|d|_|_|_|_|_|_<;>try (exact p.elim;done)
 ·exact .inl ⟨dE2 rdy,by rw[cM9 rdx];exact c7.ok p hr _ ofB⟩
 ·
   rcases dx with _|c|_|_|_|_|_|_<;>try (exact p.elim;done)
   ·exact .inr ⟨c,d,bG2 rdx,bG2 rdy,c7.ok p hr _ ofB⟩
theorem cN8:OpD X Z (zL .IsNot) cW7:=OpD.of cQ4 λx y H Q hE0=>hE0.elim λdx dy μ G rdx rdy hr p=>by
 rcases dy with _|d|_|_|_|_|_|_<;>try (exact p.elim;done)
 ·exact .inl ⟨dE2 rdy,by rw[cM9 rdx];exact c7.ok p hr _ ofB⟩
 ·
   rcases dx with _|c|_|_|_|_|_|_<;>try (exact p.elim;done)
   ·exact .inr ⟨c,d,bG2 rdx,bG2 rdy,c7.ok p hr _ ofB⟩
theorem bU7{G:DH}{d:D}{v:V}{f:Bool->M α}{K:α->List Addr->DH->Hp->Prop}(h:o5 (wc X) μ G H)(rv:d7 (wc X) μ H d v)(p:c7 (wc X) Z μ H ((aC9 d >>= f) G) K):
 ∃k,eD2 X.K v H k/\c7 (wc X) Z μ H (f k G) K:=by
 have p1:=c7.bind p
 rcases d with _|b|b|y|l|r|_|_<;>try (exact p1.elim;done)
 ·rw[dE2 rv];exact⟨false,rfl,c7.ok p1 h⟩
 ·rw[bG2 rv];exact⟨b,rfl,c7.ok p1 h⟩
 ·rw[aA4 rv];exact⟨_,rfl,c7.ok p1 h⟩
 ·
   rw[aE6 rv]
   unfold aC9 at p1
   dsimp only at p1
   split at p1
   ·rename_i hz;exact⟨_,⟨hz,rfl⟩,c7.ok p1 h⟩
   ·exact p1.elim
 ·
   unfold d7 at rv
   obtain⟨a,vs,rfl,q,rl⟩:=rv
   exact⟨!vs.isEmpty,.inr (.inl ⟨vs,q,rfl⟩),by rw[X8 rl];exact c7.ok p1 h⟩
 ·
   unfold d7 at rv
   obtain⟨a,m,rfl⟩:=rv
   obtain⟨o,g,p2⟩:=K6 p1
   have ro:=h.obj r o a g m
   rcases o with l|l|l|l
   ·obtain⟨vs,q,rl⟩:=ro;exact⟨!vs.isEmpty,.inl ⟨vs,SqL.of q,rfl⟩,by rw[X8 rl];exact c7.ok p2 h⟩
   ·obtain⟨vs,q,rl⟩:=ro;exact⟨!vs.isEmpty,.inl ⟨vs,q.sq,rfl⟩,by rw[X8 rl];exact c7.ok p2 h⟩
   ·obtain⟨vs,q,rl⟩:=ro;exact⟨!vs.isEmpty,.inr (.inr ⟨vs,q,rfl⟩),by rw[bD8 rl];exact c7.ok p2 h⟩
   ·exact p2.elim
theorem dO2{j9:List Expr}(ha:DE X Z a fa)(hb:DE X Z (.BoolOp .And (b::j9) pos) fb):DE X Z (.BoolOp .And (a::b::j9) pos) (aG9 fa fb):=by
 refine⟨?_⟩
 intro pins s U H Q I hE0
 refine hE0.elim λX9 μ G sr h p=>?_
 refine BoolOp_and (thn (ha.h pins s U H _ I ⟨X9,μ,G,sr,h,(c7.bind p).mono λd X0 G1 H1 x1 h1 p1 v rv=>(⟨d,X0,G1,x1,rv,h1,p1⟩:∃d X0 G1,Ext μ H X0 H1/\d7 (wc X) X0 H1 d v/\o5 (wc X) X0 G1 H1/\c7 (wc X) Z X0 H1 ((aC9 d >>= λk=>if k=true then fb X9 else pure d) G1) λd X2 _ H'=>∀v,d7 (wc X) X2 H' d v->Q v H')⟩) λv s1 ⟨x,H1,I1,r1,d,X0,G1,x1,rd,h1,p1⟩=>?_)
 obtain⟨k,tk,p2⟩:=bU7 h1 rd p1
 refine thn (cV6 pins s1 U H1 x v (λc H'=>c=k/\H'=H1) I1 r1 ⟨k,tk,rfl,rfl⟩) λc s2 ⟨H2,I2,e1,e2⟩=>?_
 subst e1 e2
 rcases c with _|_
 ·exact⟨x,H2,I2,r1,c7.ok p2 h1 _ rd⟩
 ·exact hb.h pins s2 U H2 Q I2 ⟨X9,X0,G1,sr.mono x1,h1,p2⟩
end
end DL
namespace W
open PySem PySem.Spec L2 DL
open PyProof.Rows hiding St
section
theorem cJ4:Wp (aG9 a b U) G Q↔Wp (a U) G λx G1=>Wp (aC9 x) G1 λk G2=>if k=true then Wp (b U) G2 Q else Q x G2:=by unfold aG9;simp only[g8,aK8,d8]
theorem dI4:Wp (dS8 (.bl c) (.bl d)) G Q↔Q (.bl (c==d)) G:=d8
theorem dR2:Wp (cW7 (.bl c) (.bl d)) G Q↔Q (.bl (c != d)) G:=d8
end
end W
namespace DL
open PySem PySem.Spec L2
open PyProof.Rows hiding St
structure V6(F:List D->M D)(n:Nat)(x:Str)(P:zC)(w:zN)(K:zc)(mg:Str->Option zg)(base:Heap)(k:Nat):Prop where
 ex:∃f fd ps,X3 P w K mg base CX0 k f fd ps (spD ⟨K,mg⟩ n F)/\mg x=some (.ref f)/\jE K (.ref f)=true/\aO9 K fd ps []
theorem V6.of{P:zC}{w:zN}{K:zc}{base:Heap}{k n:Nat}{x:Str}{st:Stmt}{f:Addr}(c:FF K mg x st ps f fd)(h:X3 P w K mg base CX0 k f fd ps (spD ⟨K,mg⟩ n F)):V6 F n x P w K mg base k:=
 ⟨f,fd,ps,h,c.m,c.F.kp,c.b⟩
noncomputable def bltL:List Str:= ["len", "isinstance", "all", "any", "sum", "min", "max", "abs", "sorted", "tuple", "list", "int", "str", "bool", "dict", "zip", "enumerate", "range", "reversed", "set"]
structure BLs(mg:Str->Option zg):Prop where
 h:∀b∈bltL,mg b=none
theorem R5:(yb p l).any (·.1)=l.any (·.1):=by
 unfold yb
 rw[List.any_map]
 rfl
theorem V9:∀ {es},es.all K7=true->(zy es env).any (·.1)=false
 |[],_=>rfl
 |e::es,h=>by
   rw[jl,zQ]at h
   rw[q13 h.1,yc,V9 h.2]
   rfl
section
theorem eX9(hN:∃N ps sc,O5 N ps sc/\X.N=N)(hi:X.N[i]? =some x)(hx:Loc X.env.scope x)(hf:X.fn x=true\/X.env.scope.names.lookup x=some .local):DG X Z (.Name x pos) (q14 i):=by
 obtain⟨N,ps,sc,S,e⟩:=hN
 exact cG4 (by rw[e];exact S.nd) hi hx hf
theorem fB5(ha:DE X Z e fa)(hr:DA X Z es fs)(hs:K7 e=true):DA X Z (e::es) (q10 fa fs):=q15 ha hr (q13 hs)
theorem cZ1(hF:∃k kk,V6 F n x X.prog X.w X.K X.mg X.base k/\N8 kk X.A/\k<=kk)(hg:Gl X x)(ha:DA X Z (e::es) fs)(hdb:(x==("__debug__" :Str))=false)(hs:(e::es).all K7=true):
 DE X Z (.Call (.Name x p) (e::es) [] pos) (q12 (fnX n F) fs):=by
 obtain⟨k,kk,hF,hr,hk⟩:=hF
 obtain⟨f,fd,ps,h1,h2,h3,h4⟩:=hF.ex
 rw[jl,zQ]at hs
 exact dR3 h1 (hr.mono hk) hg h2 h3 h4 ha hdb (q13 hs.1) (by rw[R5];exact V9 hs.2)
structure BD(F:List D->M D)(x:Str)(X:Cx)(Z:XC):Prop where
 ex:(∃id,R6 X Z (.builtin id) F/\zK x=some (.builtin id))\/(∃T,R6 X Z (.type T) F/\zK x=some (.type T))
theorem eH7(hc:X.calm=true)(hF:X.calm=true->BD F x X Z)(hb:BLs X.mg)(hx:bltL.elem x=true)(hg:Gl X x)(ha:DA X Z (e::es) fs)(hn:x≠ "__name__")(hdb:(x==("__debug__" :Str))=false)(hs:(e::es).all K7=true):
 DE X Z (.Call (.Name x p) (e::es) [] pos) (q12 F fs):=by
 have hm:=hb.h x (List.elem_iff.mp hx)
 rw[jl,zQ]at hs
 rcases (hF hc).ex with⟨id,h1,h2⟩|⟨T,h1,h2⟩
 ·exact dC8 h1 hg hm h2 ha hn hdb (q13 hs.1) (by rw[R5];exact V9 hs.2)
 ·exact cS3 h1 hg hm h2 ha hn hdb (q13 hs.1) (by rw[R5];exact V9 hs.2)
theorem dZ7(_:X.calm=true):BD lenF "len" X Z:=⟨.inl ⟨_,eJ5,eG0⟩⟩
theorem bH8(_:X.calm=true):BD u9 "isinstance" X Z:=⟨.inl ⟨_,cR3,bI0⟩⟩
theorem eA7(h:X.calm=true):BD bO1 "all" X Z:=⟨.inl ⟨_,eH1 h,eC1⟩⟩
theorem eB1(h:X.calm=true):BD dF1 "sum" X Z:=⟨.inl ⟨_,eK5 h,eB9⟩⟩
theorem eC2(_:X.calm=true):BD cW6 "abs" X Z:=⟨.inl ⟨_,eD9,eJ8⟩⟩
theorem cY9(_:X.calm=true):BD aD3 "tuple" X Z:=⟨.inr ⟨_,dG2,cZ3⟩⟩
theorem dM0(_:X.calm=true):BD bY5 "list" X Z:=⟨.inr ⟨_,dQ6,dM5⟩⟩
theorem dL1:∀n∈ ["int", "bool", "str", "tuple", "list", "dict"],zK (jI n)=some (.type n):=by decide +kernel
theorem eE7(hb:BLs X.mg)(hn:n∈ ["int", "bool", "str", "tuple", "list", "dict"])(hx:bltL.elem (jI n)=true)(hg:Gl X (jI n))(hnn:jI n≠ "__name__")(hd:(jI n==("__debug__" :Str))=false):DE X Z (.Name (jI n) pos) (cE (.ty n)):=
 eS4 hg (hb.h _ (List.elem_iff.mp hx)) (dL1 n hn) hnn hd
theorem dT2(he:DE X Z e fa)(hc:X.calm=true)(hb:BLs X.mg)(hg1:Gl X "list")(hg2:Gl X "reversed")(hs:K7 e=true):DE X Z (.Call (.Name "list" p1) [.Call (.Name "reversed" p2) [e] [] pos2] [] pos1) (unE bK2 fa):=
 cD6 he hc hg1 (hb.h _ (by decide +kernel)) hg2 (hb.h _ (by decide +kernel)) (aH8 rfl) (aH8 hs)
theorem eO1(hb:BLs X.mg)(hg:Gl X "range")(ha:DA X Z [a] fs)(hs:K7 a=true):DI X Z tg (.Call (.Name "range" p) [a] [] pos) (U0 fs):=dO1 hg (hb.h _ (by decide +kernel)) ha (aH8 hs)
theorem eZ4(hb:BLs X.mg)(hg:Gl X "zip")(ha:DA X Z [a,b] fs)(hs:K7 a=true)(hs2:K7 b=true):DI X Z (.Tuple es1 x1 tp) (.Call (.Name "zip" p) [a,b] [] pos) (bL9 fs):=eE1 hg (hb.h _ (by decide +kernel)) ha (dH5 hs hs2) (aH8 hs2) eI8
theorem fB3(hb:BLs X.mg)(hg:Gl X "enumerate")(ha:DA X Z [a] fs)(hs:K7 a=true):DI X Z (.Tuple es1 x1 tp) (.Call (.Name "enumerate" p) [a] [] pos) (aV5 fs):=dK5 hg (hb.h _ (by decide +kernel)) ha (aH8 hs) bQ5
noncomputable def aA7(sc:Scope):List Str:=(sc.names.filterMap λy=>if y.2 == .local&&y.1 != (".0" :Str)then some y.1 else none)++(sc.names.filterMap λy=>if y.2 == .free then some y.1 else none)
theorem dP6(hc:X.calm=true)(hi:DI X Z tg iter it)(k:∃XN ps osc,O5 XN ps osc/\X.env.scope=osc/\X.N=XN/\bA0 osc scope (aA7 scope) XN caps=true)(nd:(aA7 scope).Nodup)
 (hg:(aA7 scope).Nodup->∀C s H ex,DG (O1 X scope (aA7 scope) C s H ex) ZF tg gg) (ht:∀C s H ex,DTs (O1 X scope (aA7 scope) C s H ex) ZF ifs tt) (he:∀C s H ex,DE (O1 X scope (aA7 scope) C s H ex) ZF elt fe)
 (hf:∀x,yq iter X.env x=pure x):DE X Z (.ListComp elt [⟨tg,iter,ifs,0⟩] scope pos) (R1 it caps gg tt fe):=let ⟨_,_,_,_,hs,hN,k⟩:=k;dR0 hc hi (W9.of k hs hN) (hg nd) ht he hf
theorem cV3(hc:X.calm=true)(hi:DI X Z tg iter it)(k:∃XN ps osc,O5 XN ps osc/\X.env.scope=osc/\X.N=XN/\bA0 osc scope (aA7 scope) XN caps=true)(nd:(aA7 scope).Nodup)
 (hg:(aA7 scope).Nodup->∀C s H ex,DG (O1 X scope (aA7 scope) C s H ex) ZF tg gg) (ht:∀C s H ex,DTs (O1 X scope (aA7 scope) C s H ex) ZF ifs tt) (he:∀C s H ex,DE (O1 X scope (aA7 scope) C s H ex) ZF elt fe)
 (hf:∀x,yq iter X.env x=pure x) (hgo:DG X Z (.Name y py) g2) (hsw:Jq (.ListComp elt [⟨tg,iter,ifs,0⟩] scope pos) (some (.Name y py)) spos.line X.env=pure true):
 DS X Z (.Assign [.Name y py] (.ListComp elt [⟨tg,iter,ifs,0⟩] scope pos) spos) (J7 (R1 it caps gg tt fe) g2):=let ⟨_,_,_,_,hs,hN,k⟩:=k;cY3 hc hi (W9.of k hs hN) (hg nd) ht he hf hgo hsw
end
section
end
end DL
namespace W
open PySem PySem.Spec L2 DL
open PyProof.Rows hiding St
section
end
end W
namespace DL
open PySem PySem.Spec L2
open PyProof.Rows hiding St
def Itd(a:Addr)(o:Obj)(kvs:List (Key×V)):It:=
 ⟨λi H=>H a=some (.frz o (.dK kvs))/\∃kv,kvs[i]? =some kv,λi H x H'=>H'=H/\∃kv,kvs[i]? =some kv/\x=kV kv.1,λi H=>H a=some (.frz o (.dK kvs))/\kvs.length<=i⟩
theorem dF5:∀ {kvs} {vs} {i:Nat} {kv:κ×V},KV kvs vs->kvs[i]? =some kv->∃v,vs[i]? =some (kv.1,v)
 |_,_,_,_,.nil,e=>by simp at e
 |_,_,0,_,.cons h t,e=>by
   simp only[zG,zI]at e
   subst e
   exact⟨_,by rw[zG,h.1]⟩
 |_,_,i+1,_,.cons h t,e=>by
   simp only[ju]at e ⊢
   exact dF5 t e
theorem eG9(h:(N6 P w).is k u=true):u5 (kV k) u:=by
 rcases K4 h with⟨i,t,rfl,rfl⟩|⟨x,t,rfl,rfl⟩
 ·exact⟨t,rfl⟩
 ·exact⟨t,rfl⟩
theorem dA9(I:Inv X pins U H s)(ho:o.data= .dict es ep)(e:H a=some (.frz o (.dK kvs))):
 (a==yN)=false/\∃vs,KV kvs vs/\s.heap.DictAt (N6 X.prog X.w) a vs ep:=by
 obtain⟨hget,hz,hS,vs,r,m⟩:=(show O7 X.prog X.w H s.heap a (.frz o (.dK kvs))from I.hok a _ e)
 obtain⟨ep',dat⟩:=m.dictAt
 have hep:ep'=ep:=by
  obtain⟨o',es',h1,_,h3,_⟩:=id dat
  rw[hget]at h1
  cases h1
  rw[ho]at h3
  cases h3
  rfl
 subst hep
 exact⟨hS,vs,r,dat⟩
theorem bM2{P:zC}{w:zN}{K:zc}{tg:Expr}{a:Addr}{o:Obj}{ep:Nat}(ho:o.data= .dict es ep)(it:Addr):bC7 P w K tg (Itd a o kvs) [it] it (λi h=>h.IsKeyIter it a i kvs.length ep) where
 mem:=by simp
 obj:=λi h st b hb=>by
  have e:b=it:=by simpa using hb
  subst e
  obtain⟨o,e,c,d⟩:=st
  exact⟨o,e,λv z=>by rw[d]at z;cases z⟩
 keep:=λi h h' st k=>let ⟨o,ho,r⟩:=st;⟨o,k it (by simp) o ho,r⟩
 item:=by
  intro X hP hw hK hc i pins s U H E I hf st hg
  subst hP hw hK
  obtain⟨hfr,kv,hx⟩:=hg
  obtain⟨f0,f1,f2,f3,f4,f5⟩:=hf it (by simp)
  obtain⟨hS,vs,rel,dat⟩:=dA9 I ho hfr
  obtain⟨v,hv⟩:=dF5 rel hx
  have hlen:kvs.length=vs.length:=yD rel
  rw[hlen]at st
  refine wpAny_pyNext_dict_item st dat hv λkey h' hk st' sb=>?_
  have I1:Inv X pins U H {s with heap:=h'}:=I.turned (λb o hb e=>(sb.2 b hb).trans e) f0 f1 f3 f4 f5
  obtain⟨o',e,cc,d⟩:=id st'
  refine⟨_,rfl,bJ7 e cc d (by decide) ⟨kV kv.1,H,I1,eG9 hk,⟨rfl,kv,hx,rfl⟩,by rw[hlen];exact st',λb hb=>(hf b hb).1⟩⟩
 done:=by
  intro X hP hw hK hc i pins s U H E I hf st hg
  subst hP hw hK
  obtain⟨hfr,hi⟩:=hg
  obtain⟨f0,f1,f2,f3,f4,f5⟩:=hf it (by simp)
  obtain⟨hS,vs,rel,dat⟩:=dA9 I ho hfr
  have hlen:kvs.length=vs.length:=yD rel
  rw[hlen]at st hi
  exact wpAny_pyNext_dict_end (I.ok.hd hc) st dat (zX hi) λh' eb=>⟨rfl,I.turned (λb o hb e=>eb b o hb e) f0 f1 f3 f4 f5⟩
 self:=λ_ _ _ _ _ st h=>wpAny_pyIter_keyiter st h
theorem o5.setR(h:o5 c μ G H)(g:G[i]? =some o)(n:¬aH7 (some o))(m:μ[i]? =some a)(k:Ext μ H μ (upd H a u))(ho:aE3 c μ (upd H a u) a o'):o5 c μ (G.set i o') (upd H a u):=by
 have hi:i<G.length:=lt_of_get g
 have get:∀j,(G.set i o')[j]? =if i=j then some o' else G[j]? :=λj=>by
  rw[Ya]
  by_cases e:i=j
  ·subst e;simp[hi]
  ·simp[e]
 refine⟨by simp[h.len],λj l b ej el=>?_,λj o2 b gj mj=>?_⟩
 · rcases h.inj j l b ej el with e|e|e
   ·exact .inl e
   · by_cases ij:i=j
     ·subst ij;rw[g]at e;exact(n e).elim
     ·right;left;rw[get,if_neg ij];exact e
   · by_cases ij:i=l
     ·subst ij;rw[g]at e;exact(n e).elim
     ·right;right;rw[get,if_neg ij];exact e
 · rw[get]at gj
   by_cases ij:i=j
   · subst ij
     rw[if_pos rfl]at gj
     cases gj
     rw[m]at mj
     cases mj
     exact ho
   · rw[if_neg ij]at gj
     have q:=h.obj j o2 b gj mj
     by_cases hr:aH7 (some o2)
     ·exact q.mono k (.inr hr)
     · have nb:b≠a:=λe=>by
        subst e
        rcases h.inj i j b m mj with e|e|e
        ·exact ij e
        ·rw[g]at e;exact n e
        ·rw[gj]at e;exact hr e
       exact q.mono k (.inl (o9 nb))
section
theorem Inv.freeze(I:Inv X pins U H s)(e:H a=some (.dK kvs))(ho:s.heap.get? a=some o):Inv X pins U (upd H a (.frz o (.dK kvs))) s:=by
 have q:O7 X.prog X.w H s.heap a (.dK kvs):=I.hok a _ e
 exact I.write (by rw[e];exact trivial) (.inl rfl) (λb u _ z=>z) ⟨o,ho⟩ ⟨ho,q⟩
def iW(K:zc)(tl:TE):TI:=λU H R=>tl U H λx H1=>((∃z,x= .str z/\R (Its z) H1)\/(∃k a xs,x= .ref a/\Sq K k H1 a xs/\R (if k=true then Itt K a else Itl K a) H1))\/
 (∃a kvs,x= .ref a/\H1 a=some (.dK kvs)/\∀o,R (Itd a o kvs) (upd H1 a (.frz o (.dK kvs))))\/(∃a o kvs,x= .ref a/\H1 a=some (.frz o (.dK kvs))/\R (Itd a o kvs) H1)
theorem eY3(hl:PE X e tl):PI X tg e (iW X.K tl):=by
 intro pins s U H R I h
 refine thn (hl pins s U H _ I h) λv s1 hE1=>hE1.elim λx H1 I1 r1 q1=>?_
 have fpo:∀b∈ [s1.heap.objs.size],aK2 X pins H1 b:=λb hb=>by
  have z:b=s1.heap.objs.size:=by simpa using hb
  subst z
  exact I1.fpOk (zj _) (I1.hok.fresh (zj _))
 rcases q1 with(⟨z,rfl,q⟩|⟨k,a,xs,rfl,hq,q⟩)|⟨a,kvs,rfl,hq,q⟩|⟨a,o,kvs,rfl,hq,q⟩
 · obtain⟨t,rfl⟩:=(show ∃t,v=Value.str z t from r1)
   refine wpAny_pyIter_strU ?_
   have I2:Inv X pins U H1 {s1 with heap:=s1.heap.push {cls:=.type (xI z),data:=.fields #[.str z t,.int 0 0]}}:=I1.kept λb o z=>zf _ z
   have hg:(s1.heap.push {cls:=.type (xI z),data:=.fields #[.str z t,.int 0 0]}).get? s1.heap.objs.size=some {cls:=.type (xI z),data:=.fields #[.str z t,.int 0 0]}:=zq _ rfl
   by_cases ha:z.cps.all (· < 128)=true
   · have e:xI z= "str_ascii_iterator":=by unfold xI;rw[if_pos ha]
     refine⟨s1.heap.objs.size, [s1.heap.objs.size],_,_,H1,rfl,I2,cF1 z t _,?_,fpo,q⟩
     rw[e]at hg ⊢
     exact⟨_,hg,rfl,rfl⟩
   · have e:xI z= "str_iterator":=by unfold xI;rw[if_neg ha]
     refine⟨s1.heap.objs.size, [s1.heap.objs.size],_,_,H1,rfl,I2,cT8 z t _,?_,fpo,q⟩
     rw[e]at hg ⊢
     exact⟨_,hg,rfl,rfl⟩
 · cases r1
   rcases k with _|_
   ·
     obtain⟨its,rv,p,hz⟩:=I1.list hq
     exact Yz p.isList ⟨s1.heap.objs.size, [s1.heap.objs.size],_,_,H1,rfl,I1.kept λb o z=>zf _ z,cU1 a _,⟨_,zq _ rfl,rfl,rfl⟩,fpo,q⟩
   ·
     obtain⟨its,rv,p,hz⟩:=I1.tuple hq
     exact wpAny_pyIter_tuple (show s1.heap.IsTuple a its.toArray from p) ⟨s1.heap.objs.size, [s1.heap.objs.size],_,_,H1,rfl,I1.kept λb o z=>zf _ z,cE4 a _,⟨_,zq _ rfl,rfl,rfl⟩,fpo,q⟩
 · cases r1
   obtain⟨hz,hS,vs,rel,dd⟩:=dB5 I1.hok hq
   obtain⟨ep,dat⟩:=dd.dictAt
   obtain⟨o,es,h1,h2,h3,h4⟩:=id dat
   have hlen:kvs.length=vs.length:=yD rel
   have I2:=DL.Inv.freeze I1 hq h1
   have fpo2:∀b∈ [s1.heap.objs.size],aK2 X pins (upd H1 a (.frz o (.dK kvs))) b:=λb hb=>by
    have z:b=s1.heap.objs.size:=by simpa using hb
    subst z
    exact I2.fpOk (zj _) (I2.hok.fresh (zj _))
   refine wpAny_pyIter_dict hS dat ⟨s1.heap.objs.size, [s1.heap.objs.size],_,_,upd H1 a (.frz o (.dK kvs)),rfl,I2.kept λb o z=>zf _ z,bM2 h3 _,?_,fpo2,q o⟩
   rw[hlen]
   exact⟨_,zq _ rfl,rfl,rfl⟩
 · cases r1
   obtain⟨hget,hz,hS,vs,rel,dd⟩:=(show O7 X.prog X.w H1 s1.heap a (.frz o (.dK kvs))from I1.hok a _ hq)
   obtain⟨ep,dat⟩:=dd.dictAt
   obtain⟨o',es,h1,h2,h3,h4⟩:=id dat
   rw[hget]at h1
   cases h1
   have hlen:kvs.length=vs.length:=yD rel
   refine wpAny_pyIter_dict hS dat ⟨s1.heap.objs.size, [s1.heap.objs.size],_,_,H1,rfl,I1.kept λb o z=>zf _ z,bM2 h3 _,?_,fpo,q⟩
   rw[hlen]
   exact⟨_,zq _ rfl,rfl,rfl⟩
noncomputable def cW5:Key->D
 | .inl i=>.int i
 | .inr x=>.str x
def bX4(l:List (Key×D)):List D:=l.map λkv=>cW5 kv.1
def cN9:D->M Src:=λx=>match x with
 | .ref r=>do
   match <-N5 r with
   | .dct l=>do
     let _ <-aZ3 r (.rod l)
     pure ⟨bX4 l,λ_=>true⟩
   | .rod l=>pure ⟨bX4 l,λ_=>true⟩
   |_=>dT9 (.ref r)
 |d=>dT9 d
def itW(f:Fe):DSt->M Src:=λU=>do cN9 (<-f U)
theorem bS1{v:V}{R:It->Hp->Prop}(h1:o5 (wc X) X0 G1 H1)(rv:d7 (wc X) X0 H1 d v)(p1:c7 (wc X) Z X0 H1 (dT9 d G1) λs X2 _ H'=>∀J,ItD (wc X) X2 H' J s->R J H'):
 (∃z,v= .str z/\R (Its z) H1)\/(∃k a xs,v= .ref a/\Sq X.K k H1 a xs/\R (if k=true then Itt X.K a else Itl X.K a) H1):=by
 have main:∀dd:D,(∀z,dd≠ .str z)->d7 (wc X) X0 H1 dd v->c7 (wc X) Z X0 H1 (aE9 dd G1) (λs X2 _ H'=>∀J,ItD (wc X) X2 H' J s->R J H')->(∃z,v= .str z/\R (Its z) H1)\/(∃k a xs,v= .ref a/\Sq X.K k H1 a xs/\R (if k=true then Itt X.K a else Itl X.K a) H1):=by
  intro dd _ rv p1
  have p1':c7 (wc X) Z X0 H1 ((aE9 dd >>= λs=>(pure s:M Src)) G1) λs X2 _ H'=>∀J,ItD (wc X) X2 H' J s->R J H':=by
   have e:(aE9 dd >>= λs=>(pure s:M Src))=aE9 dd:=by
    funext G
    rw[M.bind_eq]
    rcases aE9 dd G with _|q
    ·rfl
    ·obtain⟨r,G'⟩:=q;cases r<;>rfl
   rw[e];exact p1
  obtain⟨sr,k,a,vs,rfl,q,rl,is,ck,_,p2⟩:=aN2 h1 rv p1'
  refine .inr ⟨k,a,vs,rfl,q,c7.ok p2 h1 _ λX2 G' H' x' h' ck' i=>?_⟩
  obtain⟨vs',q',rl'⟩:=is X2 G' H' x' h' ck'
  refine⟨λd hd=>?_,λhi=>?_⟩
  · obtain⟨y,hy,ry⟩:=rl'.get hd
    cases k with
    |true=>
      rw[if_pos rfl]
      exact⟨⟨vs',y,q',hy⟩,λx H2 ⟨e1,e2⟩=>by subst e1;exact⟨Ext.refl _ _,h',cL4 rl' hd (e2 vs' q')⟩⟩
    |false=>
      rw[if_neg zJ]
      exact⟨⟨vs',y,q',hy⟩,λx H2 ⟨e1,e2⟩=>by subst e1;exact⟨Ext.refl _ _,h',cL4 rl' hd (e2 vs' q')⟩⟩
  · cases k with
    |true=>rw[if_pos rfl];exact⟨vs',q',by rw[<-rl'.length];exact hi⟩
    |false=>rw[if_neg zJ];exact⟨vs',q',by rw[<-rl'.length];exact hi⟩
 cases d with
 |str z=>
   refine .inl ⟨z,aE6 rv,c7.ok p1 h1 _ λX2 G' H' x' h' ck' i=>⟨λd hd=>?_,λhi=>?_⟩⟩
   · simp only[aU0,jk]at hd
     cases hc:z.cps.toList[i]? with
     |none=>rw[hc]at hd;cases hd
     |some c=>
       rw[hc]at hd
       cases hd
       have hc':z.cps[i]? =some c:=by rw[<-jb];exact hc
       exact⟨⟨c,hc'⟩,λx H2 ⟨e1,c2,e2,e3⟩=>by
        subst e1
        rw[hc']at e2
        cases e2
        exact⟨Ext.refl _ _,h',by rw[e3];unfold d7;rfl⟩⟩
   · simp only[aU0,zh]at hi
     show z.cps[i]? =none
     rw[<-jb]
     exact zX hi
 |tup l=>exact main (.tup l) (λz q=>nomatch q) rv p1
 |ref r=>exact main (.ref r) (λz q=>nomatch q) rv p1
 |_=>exact p1.elim
theorem bU3{H:Hp}:∀ {l} {kvs} {i:Nat} {kd},Z4 c μ H l kvs->l[i]? =some kd->∃v,kvs[i]? =some (kd.1,v)
 |[],_,_,_,_,e=>by simp at e
 |(k,d)::r,_,0,_,h,e=>by
  obtain⟨v,t,rfl,_,_⟩:=h
  simp only[zG,zI]at e
  subst e
  exact⟨v,rfl⟩
 |(k,d)::r,_,i+1,_,h,e=>by
  obtain⟨v,t,rfl,_,ht⟩:=h
  simp only[ju]at e ⊢
  exact bU3 ht e
theorem dT4(k:Key):d7 c μ H (cW5 k) (kV k):=by
 cases k<;>(unfold cW5 d7;rfl)
theorem cZ4{c:Wc}{H:Hp}(e:H a=some (.frz o (.dK kvs)))(rk:Z4 c μ H l kvs):ItD c μ H (Itd a o kvs) ⟨bX4 l,λ_=>true⟩:=by
 intro X2 G' H' x h' _ i
 have e':=x.frz _ _ _ e
 refine⟨λd hd=>?_,λhi=>⟨e',by rw[<-rk.length];simpa [bX4]using hi⟩⟩
 simp only[bX4,jk]at hd
 cases hl:l[i]? with
 |none=>rw[hl]at hd;cases hd
 |some kd=>
   rw[hl]at hd
   cases hd
   obtain⟨v,hv⟩:=bU3 rk hl
   exact⟨⟨e',_,hv⟩,λy H2 ⟨e1,kv,e2,e3⟩=>by
    subst e1
    rw[hv]at e2
    cases e2
    exact⟨Ext.refl _ _,h',by rw[e3];exact dT4 _⟩⟩
theorem eY5(he:DE X Z e f):DI X Z tg e (itW f):=
 DI.of (eY3 he.h) λU H R hE0=>hE0.elim λX9 μ G s h p=>⟨X9,μ,G,s,h,(c7.bind p).mono λd X0 G1 H1 x1 h1 p1 v rv=>by
  cases d with
  |ref r=>
    have rv':=rv
    unfold d7 at rv'
    obtain⟨a,m,rfl⟩:=rv'
    obtain⟨o,g,p2⟩:=K6 p1
    have ro:=h1.obj r o a g m
    rcases o with l|l|l|l
    ·exact .inl (bS1 h1 rv p2)
    ·exact .inl (bS1 h1 rv p2)
    ·
      obtain⟨kvs,q,rk⟩:=ro
      refine .inr (.inl ⟨a,kvs,rfl,q,λo=>?_⟩)
      have x:Ext X0 H1 X0 (upd H1 a (.frz o (.dK kvs))):=Ext.mut (jn m) q (λ_ z=>nomatch z) (λ_ _ z=>nomatch z) _
      have hk':=rk.mono x
      have h2:o5 (wc X) X0 (G1.set r (.rod l)) (upd H1 a (.frz o (.dK kvs))):=h1.setR g (λz=>z) m x ⟨kvs,o,M5,hk'⟩
      have p3:=c7.from p2 x
      exact c7.ok p3 h2 _ (cZ4 M5 hk')
    ·
      obtain⟨kvs,o,q,rk⟩:=ro
      exact .inr (.inr ⟨a,o,kvs,rfl,q,c7.ok p2 h1 _ (cZ4 q rk)⟩)
  |_=>exact .inl (bS1 h1 rv p1)⟩
end
end DL
namespace W
open PySem PySem.Spec L2 DL
open PyProof.Rows hiding St
section
theorem aP2:Wp (itW f U) G R↔Wp (f U) G λx G1=>Wp (cN9 x) G1 R:=by
 unfold itW;simp only[g8]
theorem dD7:Wp (cN9 (.str z)) G R↔R ⟨aU0 z,λ_=>true⟩ G:=d8
theorem bF5:Wp (cN9 (.tup l)) G R↔R ⟨l,λ_=>true⟩ G:=d8
theorem bD0(e:G[p]? =some (.lst l)):Wp (cN9 (.ref p)) G R↔R ⟨l,ckO p (.lst l)⟩ G:=by
 unfold cN9
 simp only[g8,O6,e,M8]
 exact cV5 e
end
end W
namespace DL
open PySem PySem.Spec L2
open PyProof.Rows hiding St
section
theorem cC5{a:Addr}{o:Obj}{n:Nat}(hT:T= "list"\/T= "tuple")(ho:s.heap.get? a=some o)(hc:o.cls= .type T)(hd:o.data= .seq vs.toArray n)(h64:vs.length<64)(hS:StrsAre vs ss)
 (h:∀(h1 h':Heap) (tk e:Nat) out ss',(∀b o,s.heap.get? b=some o->h1.get? b=some o)->(∀b o,h1.get? b=some o->h'.get? b=some o)->h'.get? h1.objs.size=some (JU "list" out.toArray e)->StrsAre out ss'->ss'.Perm ss->sortedS ss'=true->Q (.ref h1.objs.size) {s with heap:=h',toks:=tk}):
 zt (zB prog w) A (call (.builtin "sorted") [.ref a]) Q E s:=by
 have hz:vs.length<=zd:=zu (yX h64) (by decide)
 refine YM kind_sorted plain_sorted entry_sorted (args_sorted1 _) ?_
 unfold Zx.«sorted»
 refine za (zo ?_)
 refine za (wpAny_collect_seq a hT ho hc hd (λh1 hk=>?_) (by rw[zk];exact hz))
 refine za (wpAny_newList ?_ hz)
 have hoL:(h1.push (JU "list" vs.toArray 0)).get? h1.objs.size=some (JU "list" vs.toArray 0):=zq _ rfl
 refine za (yt (jU slot_list_sort ⟨_,hoL,rfl⟩ entry_list_sort (list_sort_treeK strKind_oneLt hoL hS.keysOf (λv₁ v₂ j9 e=>keyKind_strs (by rw[<-e];exact hS)) h64 λst' a1 a2=>⟨_,rfl,?_⟩) (args_list_sort _)))
 obtain⟨ss',b1,b2,b3⟩:=sorted_out_str hS a1 a2
 obtain⟨e,he⟩:=sortedHeap_at hoL
 refine zo ⟨_,rfl,h h1 _ s.toks e ((jY st').map (·.2)).toList ss' hk (λb o hb=>?_) (by rw[Zq];exact he) b1 b2 b3⟩
 have hlt:b<h1.objs.size:=zl hb
 rw[sortedHeap_old (zE hlt) (by rw[size_push'];exact Yf hlt),JR _ _ _ (zE hlt)]
 exact hb
end
def dB6(l:List D):M D:=do
 let ss <-aJ5 (aA8 l)
 if ss.length<64 then M4 (.lst ((aD4 ss).map .str))else M.stuck
def aJ3:List D->M D:=λds=>match ds with
 |[.tup l]=>dB6 l
 |[.ref r]=>do
   match <-N5 r with
   | .lst l=>dB6 l
   | .dct l=>do
     let ss <-aJ5 (v7 l)
     if ss.length<64 then M4 (.lst ((aD4 ss).map .str))else M.stuck
   |_=>M.stuck
 |_=>M.stuck
section
theorem aS1:∀ {l} {ss} {vs} {us},aA8 l=some ss->m6 c μ H l vs->o6 vs us->StrsAre us ss
 |[],_,_,_,e,r,v=>by cases e;cases r;cases v;exact .nil
 | .str x::t,ss,_,_,e,r,v=>by
   replace e:=show (aA8 t).map (_ :: ·)=some _ from e
   rcases h:aA8 t with _|q
   ·rw[h]at e;exact t6 e
   ·
     rw[h]at e
     cases e
     obtain⟨v0,tl,rfl,r0,rt⟩:=r
     cases v with
     |cons ru rt2=>
       rw[aE6 r0]at ru
       obtain⟨tk,rfl⟩:=ru
       exact .cons _ _ (aS1 h rt rt2)
 | .non::_,_,_,_,e,_,_=>by exact t6 e
 | .bl _::_,_,_,_,e,_,_=>by exact t6 e
 | .int _::_,_,_,_,e,_,_=>by exact t6 e
 | .tup _::_,_,_,_,e,_,_=>by exact t6 e
 | .ref _::_,_,_,_,e,_,_=>by exact t6 e
 | .fn _::_,_,_,_,e,_,_=>by exact t6 e
 | .ty _::_,_,_,_,e,_,_=>by exact t6 e
theorem bT0:∀ {l} {ss},aA8 l=some ss->ss.length=l.length
 |[],_,e=>by cases e;rfl
 | .str x::t,ss,e=>by
   replace e:=show (aA8 t).map (_ :: ·)=some _ from e
   rcases h:aA8 t with _|q
   ·rw[h]at e;exact t6 e
   ·rw[h]at e;cases e;simp[bT0 h]
 | .non::_,_,e=>by exact t6 e
 | .bl _::_,_,e=>by exact t6 e
 | .int _::_,_,e=>by exact t6 e
 | .tup _::_,_,e=>by exact t6 e
 | .ref _::_,_,e=>by exact t6 e
 | .fn _::_,_,e=>by exact t6 e
 | .ty _::_,_,e=>by exact t6 e
theorem bT5(I:Inv X pins U H s)(hr:o5 (wc X) μ G H)(rl:m6 (wc X) μ H l vs)(rv:o6 vs us)(hT:T= "list"\/T= "tuple")(ho:s.heap.get? a=some o)(hc:o.cls= .type T)(hd:o.data= .seq us.toArray n)
 (p:c7 (wc X) Z μ H (dB6 l G) λd X2 _ H'=>∀v,d7 (wc X) X2 H' d v->Q v H'):zt (zB X.prog X.w) X.A (call (.builtin "sorted") [.ref a]) (EP X pins U Q) X.xe s:=by
 obtain⟨ss,es,p2⟩:=Z1 p
 split at p2
 case isFalse=>exact p2.elim
 rename_i h64
 have hS:=aS1 es rl rv
 have hlen0:us.length=ss.length:=by rw[bT0 es,rl.length,rv.length]
 refine cC5 hT ho hc hd (by lia) hS λh1 h' tk e out ss' k1 k2 he hS' hp hs=>?_
 have e2:=bU5 hp hs
 subst e2
 obtain⟨ws,ew,rv',rl2⟩:=bA7 (μ:=μ) hS'
 have I1:Inv X pins U H {s with heap:=h1,toks:=tk}:=I.kept k1
 have hf:=I1.hok.fresh (zj _)
 have hlen:ws.length<=zd:=by
  rw[ew,zh]
  have e3:(aD4 ss).length=ss.length:=(yZ ss leS).length_eq
  have:(64:Nat)<=zd:=by decide
  lia
 exact⟨.ref h1.objs.size,upd H h1.objs.size (.lst ws),I1.laid k2 (zj _) ⟨hlen,out,e,rv',he⟩,rfl,R8 hr rl2 p2 _ hf⟩
theorem cE0(hc:X.calm=true):R6 X Z (.builtin "sorted") aJ3:=⟨by
 intro pins s U H xs us Q I r hE0
 obtain⟨ds,μ,G,rl,hr,p⟩:=hE0
 rcases ds with _|⟨_|_|_|_|l|i|_|_,_|⟨_,_⟩⟩<;>try exact p.elim
 all_goals (delta aJ3 at p;dsimp only at p)
 · obtain⟨v,rfl,rv⟩:=aK0 rl
   obtain⟨u,rfl,ru⟩:=W5 r
   unfold d7 at rv
   obtain⟨a,vs,rfl,q,rl'⟩:=rv
   cases ru
   obtain⟨its,rv,⟨o,h1,h2,n,h3⟩,hz⟩:=I.tuple q
   exact bT5 I hr rl' rv (.inr rfl) h1 h2 h3 p
 · obtain⟨v,rfl,rv⟩:=aK0 rl
   obtain⟨u,rfl,ru⟩:=W5 r
   have rv':=rv
   unfold d7 at rv'
   obtain⟨a,m,rfl⟩:=rv'
   cases ru
   obtain⟨o,g,p1⟩:=K6 p
   have ro:=hr.obj i o a g m
   rcases o with l|l|l|l
   ·
     obtain⟨vs,q,rl'⟩:=ro
     obtain⟨its,rv,pl,hz⟩:=I.list (SqL.of q)
     obtain⟨o,h1,h2,n,h3⟩:=pl.isList
     exact bT5 I hr rl' rv (.inl rfl) h1 h2 h3 p1
   ·exact p1.elim
   ·
     refine(cP2 (Z:=Z) hc).h pins s U H [.ref a] [.ref a] Q I r ⟨[.ref i],μ,G,rl,hr,?_⟩
     have eo:N5 i G=some (.ok (.dct l),G):=by unfold N5;simp only[g]
     have e:bM8 [.ref i] G= ((do
      let ss <-aJ5 (v7 l)
      if ss.length<64 then M4 (.lst ((aD4 ss).map .str))else M.stuck:M D)) G:=by
      show ((N5 i >>= λo=>match o with
       | .dct l => (do
         let ss <-aJ5 (v7 l)
         if ss.length<64 then M4 (.lst ((aD4 ss).map .str))else M.stuck:M D)
       |_=>M.stuck):M D) G=_
      rw[M.bind_ok eo]
     rw[e]
     exact p1
   ·exact p1.elim⟩
theorem cD5(h:X.calm=true):BD aJ3 "sorted" X Z:=⟨.inl ⟨_,cE0 h,cS7⟩⟩
end
end DL
namespace W
open PySem PySem.Spec L2 DL
open PyProof.Rows hiding St
section
theorem cO6(e:G[r]? =some (.dct l))(hs:v7 l=some ss)(h64:ss.length<64):Wp (aJ3 [.ref r]) G Q↔Q (.ref G.length) (G++[.lst ((aD4 ss).map .str)]):=by
 unfold aJ3
 simp only[g8,O6,e,M8,aI8,hs,if_pos h64,R9]
end
end W
namespace DL
open PySem
section
end
end DL
namespace DL
open PySem
open PyProof.Rows (IsTup)
section
variable{prog:zC}{w:zN}{A:zT}{R:Result->zm->Prop}{I:Addr}{fp wr:List Addr}{n:Nat}{P:Nat->zg->Prop}{St:Nat->Heap->Prop}{K:Type}[DecidableEq K]{knd:KeyKind prog w K}
end
section
variable{prog:zC}{w:zN}{A:zT}{E:VSP}{s:zm}{K:Type}[DecidableEq K]{knd:KeyKind prog w K}
end
end DL
namespace DL
open PySem PySem.Spec L2
open PyProof.Rows hiding St
section
variable{X:Cx}{Z:XC}{μ:List Addr}{H:Hp}{G:DH}
end
section
theorem m6.eraseIdx(n:Nat)(h:m6 c μ H l vs):m6 c μ H (l.eraseIdx n) (vs.eraseIdx n):=by
 rw[Yg,Yg]
 exact(m6.take _ h).append (m6.drop _ h)
end
end DL
namespace W
open PySem PySem.Spec L2 DL
open PyProof.Rows hiding St
end W
namespace DL
open PySem PySem.Spec L2
open PyProof.Rows hiding St
section
end
end DL
namespace W
open PySem PySem.Spec L2 DL
open PyProof.Rows hiding St
end W
namespace DL
open PySem PySem.W
open PyProof.Rows hiding St
noncomputable def tOk{α:Type}(lt:Nat->Nat->Bool)(n:Nat):KasT α->(α->Prop)->Prop
 | .ret a,Q=>Q a
 | .ask i j k,Q=>i<n/\j<n/\tOk lt n (k (lt i j)) Q
section
theorem tOk.bind:∀t,tOk lt n t (λa=>tOk lt n (f a) Q)->tOk lt n (t.bind f) Q
 | .ret _,h=>h
 | .ask i j k,h=>⟨h.1,h.2.1,tOk.bind (k (lt i j)) h.2.2⟩
theorem tOk.mono(hq:∀a,Q a->Q' a):∀t,tOk lt n t Q->tOk lt n t Q'
 | .ret a,h=>hq a h
 | .ask i j k,h=>⟨h.1,h.2.1,tOk.mono hq (k (lt i j)) h.2.2⟩
end
structure OrdN(lt:Nat->Nat->Bool)(n:Nat):Prop where
 tr:∀i j k,lt i j=true->lt j k=true->lt i k=true
 tot:∀i j,i<n->j<n->i≠j->lt i j=false->lt j i=true
structure cJ0(p:Array Nat)(n:Nat):Prop where
 pm:p.toList.Perm (ja n)
section
theorem cJ0.size(h:cJ0 p n):p.size=n:=by have:=h.pm.length_eq;simpa using this
theorem cJ0.ne(h:cJ0 p n)(hi:i<n)(hj:j<n)(hij:i≠j):p.getD i 0≠p.getD j 0:=by
 have hs:=h.size
 have nd:p.toList.Nodup:=h.pm.nodup_iff.mpr List.nodup_range
 have e1:p.getD i 0=p.toList[i]'(by simp;lia):=by simp[Array.getD,hs,hi]
 have e2:p.getD j 0=p.toList[j]'(by simp;lia):=by simp[Array.getD,hs,hj]
 rw[e1,e2]
 intro e
 exact hij ((Yo nd).mp e)
end
end DL
namespace DL
open PySem PySem.Spec L2
open PyProof.Rows hiding St
section
end
section
end
section
end
section
end
section
end
section
end
def CR(K:zc)(mg:Str->Option zg)(d:D)(u:zg):Prop:=∃v,u5 v u/\∀ μ H,d7 ⟨K,mg⟩ μ H d v
def CRL(K:zc)(mg:Str->Option zg)(l:List D)(us:List zg):Prop:=∃vs,o6 vs us/\∀ μ H,m6 ⟨K,mg⟩ μ H l vs
section
variable{K:zc}{mg:Str->Option zg}
theorem cr_str:CR K mg (.str x) (.str x t):=⟨.str x,⟨t,rfl⟩,λμ H=>by unfold d7;rfl⟩
theorem cr_int:CR K mg (.int i) (.int i t):=⟨.int i,⟨t,rfl⟩,λμ H=>by unfold d7;rfl⟩
theorem cr_bl:CR K mg (.bl b) (.bool b):=⟨.bl b,rfl,λμ H=>by unfold d7;rfl⟩
theorem cr_non:CR K mg .non .none:=⟨.non,rfl,λμ H=>by unfold d7;rfl⟩
theorem crl_nil:CRL K mg [] []:=⟨[],.nil,λ_ _=>rfl⟩
theorem crl_cons(h:CR K mg d u)(t:CRL K mg l us):CRL K mg (d::l) (u::us):=by
 obtain⟨v,r,h⟩:=h
 obtain⟨vs,rs,t⟩:=t
 exact⟨v::vs,.cons r rs,λμ H=>⟨v,vs,rfl,h μ H,t μ H⟩⟩
theorem cr_tup(hl:K.lookup a=some ⟨.type "tuple",none,.seq us.toArray n,sl⟩)(hz:Nat.ble us.length 100=true)(h:CRL K mg l us):CR K mg (.tup l) (.ref a):=by
 obtain⟨vs,rs,t⟩:=h
 refine⟨.ref a,rfl,λμ H=>?_⟩
 unfold d7
 refine⟨a,vs,rfl,.inr ⟨_,us.toArray,n,hl,rfl,rfl,?_,rs⟩,t μ H⟩
 rw[zk]
 exact zu (jt hz) (by decide)
end
structure cK1(K:zc)(mg:Str->Option zg)(x:Str)(d:D):Prop where
 ex:∃u,mg x=some u/\CR K mg d u
section
theorem eE4(hc:cK1 X.K X.mg x d)(hg:Gl X x)(hdb:(x==("__debug__" :Str))=false):DE X Z (.Name x pos) (cE d):=⟨by
 intro pins s U H Q I hE0
 refine hE0.elim λX9 μ G sr hr p=>?_
 obtain⟨u,hm,v,ru,rv⟩:=hc.ex
 exact aM4 I hg hm ⟨v,H,I,ru,c7.ok p hr v (rv μ H)⟩ hdb⟩
end
def isStrM:D->M Unit:=λx=>match x with
 | .str _=>pure ()
 |_=>M.stuck
section
variable{X:Cx}{Z:XC}{o e:Expr}{es:List Expr}{fo:Fe}{fs:DSt->M (List D)}{name:Str}{id:String}{mm:D->List D->M D}{apos cpos:Pos}
theorem cC0{H:Hp}{G:DH}{d:D}{v:V}{f:Unit->M α}{K:α->List Addr->DH->Hp->Prop}(r:d7 c μ H d v)(p:c7 c Z μ H ((isStrM d >>= f) G) K):tyV c.K "str" v H/\c7 c Z μ H (f () G) K:=by
 rcases d with _|_|_|x|_|_|_|_<;>try (exact p.elim;done)
 ·rw[aE6 r];exact⟨rfl,p⟩
theorem cV1(slot:Slot "str" name id)(hty:typeOf (.builtin id)=pure (.type "method_descriptor"))(hm:MtD X Z id mm)(ho:DE X Z o fo)(ha:DA X Z (e::es) fs)
 (hbase:xl o name X.env (eval o X.env)=eval o X.env)
 (hfew:((yb cpos (zy (e::es) X.env)).all (λx=> !x.1)&&(XE cpos (ZQ [] X.env)).all (λx=>x.1.isSome)
   && decide ((e::es).length+([]:List Keyword).length+(if ([]:List Keyword).isEmpty then 0 else 1)<30))=true)
 (hline:(apos.endLine==cpos.line)=true) (hs:zy (e::es) X.env= (false,eval e X.env)::zy es X.env) (hplain:(yb cpos (zy es X.env)).any (·.1)=false):
 DE X Z (.Call (.Attribute o name apos) (e::es) [] cpos) (mtE isStrM mm fo fs):=
 DE.of (dZ3 PySem.F.plainAttrs_str slot hty hm ho.h ha.h hbase hfew hline hs hplain) λU H Q hE0=>hE0.elim λX9 μ G s h p=>⟨X9,μ,G,s,h,(c7.bind p).mono λd X0 G1 H1 x1 h1 p1 v rv=>by
  obtain⟨ty,p2⟩:=cC0 rv p1
  exact⟨ty,X9,X0,G1,s.mono x1,h1,(c7.bind p2).mono λds WX G2 H2 x2 h2 p3 vs rvs=>⟨d,ds,WX,G2,rv.mono x2,rvs,h2,p3⟩⟩⟩
end
def bM3(sep:Str)(l:List D):M D:=do
 let ss <-aJ5 (aA8 l)
 if (ss.map (·.length)).sum+ss.length*sep.length<=16777216 then pure (.str (Zc sep ss))else M.stuck
def bA5:D->List D->M D:=λx ds=>match x,ds with
 | .str sep, [.tup l]=>bM3 sep l
 | .str sep, [.ref r]=>do
   match <-N5 r with
   | .lst l=>bM3 sep l
   |_=>M.stuck
 |_,_=>M.stuck
section
theorem dS9:MtD X Z "str.join" bA5:=by
 intro pins s U H x xs v us Q I rx rvs hE0
 obtain⟨d,ds,μ,G,rd,rl,hr,p⟩:=hE0
 unfold bA5 at p
 split at p
 · rename_i sep l
   rw[aE6 rd]at rx
   obtain⟨t,rfl⟩:=rx
   obtain⟨v1,rfl,rv1⟩:=aK0 rl
   obtain⟨u,rfl,ru⟩:=W5 rvs
   unfold d7 at rv1
   obtain⟨a,vs,rfl,q,rl'⟩:=rv1
   cases ru
   obtain⟨its,rv,tp,hz⟩:=I.tuple q
   unfold bM3 at p
   obtain⟨ss,es,p2⟩:=Z1 p
   split at p2
   case isFalse=>exact p2.elim
   rename_i hok
   exact join_tuple tp (aS1 es rl' rv) hok λt' k=>⟨.str (Zc sep ss),H,I.tok k,⟨t',rfl⟩,c7.ok p2 hr _ (by unfold d7;rfl)⟩
 · rename_i sep r
   rw[aE6 rd]at rx
   obtain⟨t,rfl⟩:=rx
   obtain⟨v1,rfl,rv1⟩:=aK0 rl
   obtain⟨u,rfl,ru⟩:=W5 rvs
   unfold d7 at rv1
   obtain⟨a,m,rfl⟩:=rv1
   cases ru
   obtain⟨o,g,p1⟩:=K6 p
   have ro:=hr.obj r o a g m
   rcases o with l|l|l|l
   ·
     obtain⟨vs,q,rl'⟩:=ro
     obtain⟨its,rv,pl,hz⟩:=I.list (SqL.of q)
     unfold bM3 at p1
     obtain⟨ss,es,p2⟩:=Z1 p1
     split at p2
     case isFalse=>exact p2.elim
     rename_i hok
     exact join_list pl.isList (aS1 es rl' rv) hok λt' k=>⟨.str (Zc sep ss),H,I.tok k,⟨t',rfl⟩,c7.ok p2 hr _ (by unfold d7;rfl)⟩
   ·exact p1.elim
   ·exact p1.elim
   ·exact p1.elim
 ·exact p.elim
end
end DL
namespace W
open PySem PySem.Spec L2 DL
open PyProof.Rows hiding St
section
theorem bF6:Wp (isStrM (.str z)) G R↔R () G:=d8
theorem cW3(e:G[r]? =some (.lst l))(hs:aA8 l=some ss)(hok:(ss.map (·.length)).sum+ss.length*sep.length<=16777216):Wp (bA5 (.str sep) [.ref r]) G Q↔Q (.str (Zc sep ss)) G:=by
 have h:bA5 (.str sep) [.ref r]= (do
  match <-N5 r with
  | .lst l=>bM3 sep l
  |_=>M.stuck):=rfl
 rw[h]
 simp only[g8,O6,e,M8,bM3,aI8,hs,if_pos hok,d8]
end
end W
namespace DL
open PySem PySem.Spec L2
open PyProof.Rows hiding St
section
variable{X:Cx}{Z:XC}{μ:List Addr}{H:Hp}
variable{e t:Expr}{lo hi:Option Expr}{fa:Fe}{fl fh ft:Fo}{p2 pos:Pos}
end
end DL
namespace W
open PySem PySem.Spec L2 DL
open PyProof.Rows hiding St
section
end
end W
namespace DL
open PySem PySem.Spec L2
open PyProof.Rows hiding St
section
theorem cB7(U:St)(H:Hp)(Q:VK)(h:aD5 (wc X) Z (aG3 o o' fa fb fc) U H Q):bZ6 (aM1 (wc X) Z o) (aM1 (wc X) Z o') (aD5 (wc X) Z fa) (aD5 (wc X) Z fb) (aD5 (wc X) Z fc) U H Q:=by
 obtain⟨X9,μ,G,s,h,p⟩:=h
 exact⟨X9,μ,G,s,h,(c7.bind p).mono λx X0 G1 H1 x1 h1 p1 v rv=>
  ⟨X9,X0,G1,s.mono x1,h1,(c7.bind p1).mono λy WX G2 H2 x2 h2 p2 u ru=>⟨x,y,WX,G2,rv.mono x2,ru,h2,(c7.bind p2).mono λz μ3 G3 H3 x3 h3 p3 w rw'=>by
   obtain⟨k,rfl,p4⟩:=aV3 p3
   refine⟨k,bG2 rw',?_⟩
   cases k with
   |true=>exact⟨X9,μ3,G3,s.mono (x1.trans (x2.trans x3)),h3,(c7.bind p4).mono λt μ4 G4 H4 x4 h4 p5 q rq=>⟨y,t,μ4,G4,ru.mono (x3.trans x4),rq,h4,p5⟩⟩
   |false=>exact c7.ok p4 h3 _ ofB⟩⟩⟩
theorem dB7(ho:OpD X Z (zL op) o)(ho':OpD X Z (zL op') o')(ha:DE X Z a fa)(hb:DE X Z b fb)(hc:DE X Z c fc)
 (hm:Jr [op,op'] [b,c]=false):DT X Z (.Compare a [op,op'] [b,c] pos) (bE4 (aG3 o o' fa fb fc)):=
 DT.of (cY0 ho.h ho'.h ha.h hb.h hc.h hm) λU H Q hE0=>hE0.elim λX9 μ G s h p=>cB7 U H _ ⟨X9,μ,G,s,h,(c7.bind p).mono λx X0 G1 H1 x' h1 p1 v rv=>by
  cases x with
  |bl k'=>unfold d7 at rv;exact⟨k',rv,c7.ok p1 h1⟩
  |_=>exact p1.elim⟩
end
section
end
end DL
namespace W
open PySem PySem.Spec L2 DL
open PyProof.Rows hiding St
end W
namespace DL
open PySem PySem.Spec L2
open PyProof.Rows hiding St
section
variable{X:Cx}{Z:XC}{o e:Expr}{es:List Expr}{fo:Fe}{fs:DSt->M (List D)}{name:Str}{id:String}{mm:D->List D->M D}{apos cpos:Pos}
end
section
end
section
end
section
end
end DL
namespace W
open PySem PySem.Spec L2 DL
open PyProof.Rows hiding St
end W
namespace DL
open PySem PySem.Spec L2
open PyProof.Rows hiding St
section
end
section
end
end DL
namespace W
open PySem PySem.Spec L2 DL
open PyProof.Rows hiding St
end W
namespace DL
open PySem PySem.Spec L2
open PyProof.Rows hiding St
theorem b8(e:m G=some (.ok a,G'))(q:Q a G'):Wp m G Q:=⟨a,G',e,q⟩
noncomputable def PB(Q:DPP):Fl->DH->Prop
 | .nx _,G=>Q .non G
 | .rt d,G=>Q d G
 |_,_=>False
section
variable{m:Nat}{f S g:Fs}{ds as:List D}{d:D}{G G':DH}{Q:DPP}{P A:Fl->DH->Prop}{U X1:DSt}{e:Fe}
theorem t8(w:Wp (f (ds.map some++zZ (m-ds.length) none)) G (PB Q)):Wp (t7 m f ds) G Q:=
 aN1.mpr (w.mono λfl G1 h=>match fl,h with
  | .nx _,h=>h
  | .rt _,h=>h
  | .bk _,h=>h.elim
  | .ct _,h=>h.elim)
theorem o7(q:Q d G):PB Q (.rt d) G:=q
theorem aS6(e:f (ds.map some++zZ (m-ds.length) none) G=some (.ok (.rt d),G'))(q:Q d G'):Wp (t7 m f ds) G Q:=t8 (b8 e q)
theorem v6(e:S U G=some (.ok (.nx X1),G'))(w:Wp (g X1) G' P):Wp (m9 S g U) G P:=f9.mpr (b8 e w)
theorem seq_rt(e:S U G=some (.ok (.rt d),G'))(q:P (.rt d) G'):Wp (m9 S g U) G P:=f9.mpr (b8 e q)
end
section
variable{a b c:Fe}{d x y z:D}{G G1 G2:DH}{R:List D->DH->Prop}{U:DSt}
theorem M7(w:Wp (t U) G λk G1=>(k=true->Wp (f U) G1 P)/\(k=false->Wp (g U) G1 P)):Wp (ifS t f g U) G P:=
 dG0.mpr (w.mono λk G1 h=>by cases k with|true=>exact h.1 rfl|false=>exact h.2 rfl)
theorem aO4(w:Wp (t U) G λk G1=>(k=true->Wp (u U) G1 B)/\(k=false->B false G1)):Wp (aQ2 t u U) G B:=
 dV0.mpr (w.mono λk G1 h=>by cases k with|true=>exact h.1 rfl|false=>exact h.2 rfl)
theorem eQ4(w:Wp (t U) G λk G1=>(k=true->B true G1)/\(k=false->Wp (u U) G1 B)):Wp (orT t u U) G B:=
 eK4.mpr (w.mono λk G1 h=>by cases k with|true=>exact h.1 rfl|false=>exact h.2 rfl)
theorem aS7{S:DSt->Prop}{R:DPP}(hS:S (U.set i (some d)))(w:Wp (a (U.set i (some d))) G R):Wp (q14 i d U) G λWZ G1=>G1=G/\S WZ/\Wp (U6 WZ) G λb G2=>b=true/\G2=G/\Wp (a WZ) G R:=
 Q4.mpr ⟨rfl,hS,W.wp_trueT.mpr ⟨rfl,rfl,w⟩⟩
theorem dK4{g:Fg}(e:fs U G=some (.ok [.int j],G1))(h0:0<=j)(h1:j<=10000)(w:Wp (K9 g t a (λ_=>true) (J1 0 j.toNat) (W6 caps U)) G1 λys G2=>Q (.ref G2.length) (G2++[.lst ys])):Wp (R1 (U0 fs) caps g t a U) G Q:=by
 refine W.wp_comp.mpr (W.rng1.mpr (b8 e ((W.rng1_int ⟨by lia,by lia⟩).mpr ⟨?_,w⟩)))
 show (J1 0 j.toNat).length<=zd
 unfold J1;rw[zh,jg]
 exact zu (by lia) (show 10000<=zd by decide)
theorem cA3(w:Wp (t U) G λk G1=>(k=true->Wp (f U) G1 A)/\(k=false->Wp (g U) G1 A))(k:∀fl G1,A fl G1->P fl G1):Wp (ifS t f g U) G P:=(M7 w).mono k
theorem w6(w:Wp (a U) G λd G1=>P (.nx (U.set i (some d))) G1):Wp (J7 a (q14 i) U) G P:=aQ3.mpr (w.mono λ_ _ h=>Q4.mpr h)
theorem o8(w:Wp (a U) G λd G1=>P (.rt d) G1):Wp (u6 a U) G P:=aU1.mpr w
theorem j7(e:fs U G=some (.ok as,G1))(h:as.length=n)(w:Wp (F as) G1 Q):Wp (q12 (fnX n F) fs U) G Q:=aF0.mpr (b8 e (N7.mpr ⟨h,w⟩))
theorem aB2(e:fs U G=some (.ok as,G1))(w:Wp (F as) G1 Q):Wp (q12 F fs U) G Q:=aF0.mpr (b8 e w)
theorem K5(w:Wp (fs U) G λas G1=>Wp (F as) G1 Q):Wp (q12 F fs U) G Q:=aF0.mpr w
theorem aB3(ea:a U G=some (.ok x,G1))(eb:b U G1=some (.ok y,G2))(w:Wp (o x y) G2 Q):Wp (binE o a b U) G Q:=aP1.mpr (b8 ea (b8 eb w))
theorem bin_w(w:Wp (a U) G λx G1=>Wp (b U) G1 λy G2=>Wp (o x y) G2 Q):Wp (binE o a b U) G Q:=aP1.mpr w
theorem m7(e:a U G=some (.ok x,G1))(w:Wp (fs U) G1 λxs G2=>R (x::xs) G2):Wp (q10 a fs U) G R:=aI3.mpr (b8 e w)
theorem j6(w:Wp (a U) G λx G1=>Wp (fs U) G1 λxs G2=>R (x::xs) G2):Wp (q10 a fs U) G R:=aI3.mpr w
theorem u0(w:Wp (a U) G λx G1=>∃k,x= .bl k/\B k G1):Wp (bE4 a U) G B:=bS5.mpr w
end
def FH(K:zc)(x:Str)(st:Stmt):Prop:=∃(f:Addr) (od an:Option Addr) (sl:Array (Option zg)) (oc kV dc pm cd ct:zg),yx K zS x=some (some (.ref f))/\
 K.lookup f=some ⟨oc,od,.func (jX x x (aB7 st) (O4 st) (o4 st) .none kV dc pm an cd ct),sl⟩/\xF K cd x=true/\jE K (.ref f)=true
section
variable{K:zc}{h:Heap}{mg:Str->Option zg}{x:Str}{st:Stmt}
theorem FH.of{oc kV dc pm cd ct:zg}(a:yx K zS x=some (some (.ref f)))
 (l:K.lookup f=some ⟨oc,od,.func (jX x x (aB7 st) (O4 st) (o4 st) .none kV dc pm an cd ct),sl⟩) (e:xF K cd x=true) (k:jE K (.ref f)=true):FH K x st:=
 ⟨f,od,an,sl,oc,kV,dc,pm,cd,ct,a,l,e,k⟩
variable{ps:List Str}
theorem FH.ff(H:FH K x st)(X:K.In h)(G:h.Ns zS mg)(b:∀kV doc pm an cdv ct us,us.length=ps.length->bindArgs (jX x x (aB7 st) (O4 st) (o4 st) .none kV doc pm an cdv ct) ⟨us, []⟩=pure (ps.zip us)):∃f fd,FF K mg x st ps f fd:=by
 obtain⟨f,od,an,sl,oc,kV,dc,pm,cd,ct,a,l,e,k⟩:=H
 exact⟨_,_,bQ2 l e k,(bQ2 l e k).binds b,xN X G a⟩
theorem eW2(h:us.length=n+1):∃a t,us=a::t/\t.length=n:=by
 rcases us with _|⟨a,t⟩
 ·cases h
 ·exact⟨a,t,rfl,YN h⟩
theorem BLs.of(X:K.In h)(G:h.Ns zS mg)(z:∀b∈bltL,yx K zS b=some none):BLs mg:=⟨λb hb=>PySem.W.mg_none_of X G (z b hb)⟩
end
noncomputable abbrev eJ4(h:Heap)(z TI TO:Addr)(f0:zg)(b:Bool):Prop:=
 h.get? z=some {cls:=.type "zip",dict:=none,data:=.fields #[f0,.bool b,.bool false,.ref TI,.ref TO],slots:= #[]}
section
variable{prog:zC}{w:zN}{A:zT}{E:VSP}{s:zm}{k1 k2:Bool}{i:Nat}{z TI TO i1 i2 l1 l2 T:Addr}{xs ys:Array zg}{b:Bool}
structure ZSt(k1 k2:Bool)(z TI TO i1 i2 l1 l2:Addr)(xs ys:Array zg)(n0 i:Nat)(h:Heap):Prop where
 hz:(xR h z TI TO .none/\∃a b,yh h TO a b)\/∃T b,eJ4 h z TI TO (xg ((n0+T:Nat):Int)) b/\T<i
 hTI:yh h TI (.ref i1) (.ref i2)
 h1:SI k1 h i1 l1 i
 h2:SI k2 h i2 l2 i
 c1:SC k1 h l1 xs
 c2:SC k2 h l2 ys
end
section
variable{H:Hp}{n0:Nat}{ws:List (V×V)}
end
section
variable{X:Cx}{Z:XC}{a b:Expr}{fs:DSt->M (List D)}{p1 p2 pos1 pos2:Pos}
end
end DL
namespace TS
open PySem PyProof.Rows
section
variable{prog:zC}{w:zN}{A:zT}{E:VSP}{s:zm}
noncomputable def kz(p:jK):Int:=numOf p.1
noncomputable def isI(p:jK):Prop:=∃n t,p.1= .int n t
end
def leK(x y:jK):Prop:=kz x<=kz y
def Srt(l:List jK):Prop:=l.Pairwise leK
theorem Srt.app{a b:List jK}(ha:Srt a)(hb:Srt b)(h:∀x∈a,∀y∈b,leK x y):Srt (a++b):=xB.mpr ⟨ha,hb,h⟩
theorem Srt.left{a b:List jK}(h:Srt (a++b)):Srt a:=(xB.mp h).1
theorem Srt.right{a b:List jK}(h:Srt (a++b)):Srt b:=(xB.mp h).2.1
theorem Srt.mid{a b:List jK}(h:Srt (a++b)):∀x∈a,∀y∈b,leK x y:=(xB.mp h).2.2
structure MI(L out A B:List jK):Prop where
 perm:(out++(A++B)).Perm L
 so:Srt out
 oa:∀x∈out,∀y∈A,leK x y
 ob:∀x∈out,∀y∈B,leK x y
 sa:Srt A
 sb:Srt B
theorem MI.bk{L out C A B:List jK}(h:MI L out A (C++B))(k:∀c∈C,∀x∈A,leK c x):MI L (out++C) A B where
 perm:=by
  refine List.Perm.trans ?_ h.perm
  rw[zH]
  refine List.Perm.append_left _ ?_
  rw[<-zH,<-zH]
  exact List.Perm.append_right _ List.perm_append_comm
 so:=h.so.app h.sb.left λx hx y hy=>h.ob x hx y (by simp[hy])
 oa:=λx hx y hy=>by
  rcases je.mp hx with hx|hx
  ·exact h.oa x hx y hy
  ·exact k x hx y hy
 ob:=λx hx y hy=>by
  rcases je.mp hx with hx|hx
  ·exact h.ob x hx y (by simp[hy])
  ·exact h.sb.mid x hx y hy
 sa:=h.sa
 sb:=h.sb.right
structure MJ(L A B S:List jK):Prop where
 perm:(A++(B++S)).Perm L
 ss:Srt S
 as:∀x∈A,∀y∈S,leK x y
 bs:∀x∈B,∀y∈S,leK x y
 sa:Srt A
 sb:Srt B
theorem MJ.bk{L A B C S:List jK}(h:MJ L A (B++C) S)(k:∀a∈A,∀c∈C,leK a c):MJ L A B (C++S) where
 perm:=by have:=h.perm;simp only[zH]at this ⊢;exact this
 ss:=h.sb.right.app h.ss λx hx y hy=>h.bs x (by simp[hx]) y hy
 as:=λx hx y hy=>by
  rcases je.mp hy with hy|hy
  ·exact k x hx y hy
  ·exact h.as x hx y hy
 bs:=λx hx y hy=>by
  rcases je.mp hy with hy|hy
  ·exact h.sb.mid x hx y hy
  ·exact h.bs x (by simp[hx]) y hy
 sa:=h.sa
 sb:=h.sb.left
def bQ7(a:Array jK):Prop:=∀p∈a.toList,isI p
theorem bQ7.at{a:Array jK}(h:bQ7 a){i:Nat}{p:jK}(e:a[i]? =some p):isI p:=h p (by
 rw[<-jb]at e
 exact jn e)
theorem bQ7.get{a:Array jK}(h:bQ7 a){i:Nat}(hi:i<a.size):∃p,a[i]? =some p/\isI p:=⟨_,jp hi,h.at (jp hi)⟩
noncomputable def Same(st st':xQ):Prop:=yG st'=yG st/\jY st'=jY st/\xX st'=xX st/\ZT st'=ZT st
theorem Same.refl{st:xQ}:Same st st:=⟨rfl,rfl,rfl,rfl⟩
theorem Same.trans{a b c:xQ}(h:Same a b)(k:Same b c):Same a c:=⟨k.1.trans h.1,k.2.1.trans h.2.1,k.2.2.1.trans h.2.2.1,k.2.2.2.trans h.2.2.2⟩
structure LI(a b:Array jK)(out:Array jK)(ia ib:Nat):Prop where
 mi:MI (a.toList++b.toList) out.toList (a.toList.drop ia) (b.toList.drop ib)
 ha:ia+1<a.size
 hb:ib<b.size
 sz:out.size=ia+ib
section
variable{a b out:Array jK}{ia ib:Nat}
end
section
variable{prog:zC}{w:zN}{A:zT}{E:VSP}{s:zm}
end
section
variable{prog:zC}{w:zN}{A:zT}{E:VSP}{s:zm}
end
structure HI(a b:Array jK)(out:Array jK)(na nb:Nat):Prop where
 mj:MJ (a.toList++b.toList) (a.toList.take na) (b.toList.take nb) out.toList.reverse
 ha:0<na
 hb:1<nb
 la:na<=a.size
 lb:nb<=b.size
 sz:out.size+na+nb=a.size+b.size
section
variable{a b out:Array jK}{na nb:Nat}
end
section
variable{prog:zC}{w:zN}{A:zT}{E:VSP}{s:zm}
end
section
variable{prog:zC}{w:zN}{A:zT}{E:VSP}{s:zm}
structure Aft(st st':xQ)(l:List jK)(p:Array (Nat×Nat×Nat)):Prop where
 kind:yG st'=YG
 arr:(jY st').toList=l
 pend:xX st'=p
 fail:ZT st'=none
end
def ND(a:Array jK):Prop:=(a.toList.map kz).Nodup
theorem dQ4{a:Array jK}{i:Nat}{p:jK}(e:a[i]? =some p):K a i=kz p:=by unfold K;rw[e];rfl
theorem ND.ne{a:Array jK}(h:ND a){i j:Nat}(hi:i<a.size)(hj:j<a.size)(ne:i≠j):K a i≠K a j:=by
 rw[dQ4 (jp hi),dQ4 (jp hj)]
 intro e
 have:=Yo (i:=i) (j:=j) (h₀:=by simpa using hi) (h₁:=by simpa using hj) h
 simp only[List.getElem_map,Array.getElem_toList]at this
 exact ne (this.mp e)
theorem bQ7.perm{a b:Array jK}(h:bQ7 a)(p:b.Perm a):bQ7 b:=λx hx=>h x ((YH.mp p).mem_iff.mp hx)
theorem ND.perm{a b:Array jK}(h:ND a)(p:b.Perm a):ND b:=((YH.mp p).map kz).nodup_iff.mpr h
noncomputable def Asc(a:Array jK)(lo m:Nat):Prop:=∀i,i+1<m->K a (lo+i)<K a (lo+i+1)
theorem Asc.lt{a:Array jK}{lo m:Nat}(h:Asc a lo m):∀ {j i:Nat},i<j->j<m->K a (lo+i)<K a (lo+j)
 |0,i,hij,_=>by lia
 |j+1,i,hij,hj=>by
   have h1:=h j hj
   by_cases e:i=j
   ·subst e;exact h1
   ·exact XT (h.lt (show i<j by lia) (by lia)) h1
theorem Asc.snoc{a:Array jK}{lo m:Nat}(h:Asc a lo m)(k:K a (lo+m-1)<K a (lo+m))(hm:1<=m):Asc a lo (m+1):=λi hi=>by
 by_cases e:i+1<m
 ·exact h i e
 · have:i=m-1:=by lia
   subst this
   rw[show lo+(m-1)=lo+m-1 by lia,show lo+m-1+1=lo+m by lia]
   exact k
structure Run(lo:Nat)(st st':xQ):Prop where
 kind:yG st'=YG
 pend:xX st'=xX st
 fail:ZT st'=none
 perm:(jY st').Perm (jY st)
 low:∀i,i<lo->(jY st')[i]? = (jY st)[i]?
theorem Run.refl{lo:Nat}{st:xQ}(hk:yG st=YG)(hf:ZT st=none):Run lo st st:=⟨hk,rfl,hf,.refl _,λ_ _=>rfl⟩
theorem Run.size{lo:Nat}{st st':xQ}(h:Run lo st st'):(jY st').size= (jY st).size:=h.perm.size_eq
section
variable{prog:zC}{w:zN}{A:zT}{E:VSP}{s:zm}
theorem lt_at{st:xQ}{i j:Nat}{Q:Option Bool->xQ->Prop}(hk:yG st=YG)(ha:bQ7 (jY st))(hi:i<(jY st).size)(hj:j<(jY st).size)(h:Q (some (decide (K (jY st) i<K (jY st) j))) st):wpS (zB prog w) A E s (ltAt' i j) Q st:=by
 obtain⟨p,e1,n,t,hp⟩:=ha.get hi
 obtain⟨q,e2,m,u,hq⟩:=ha.get hj
 obtain⟨p1,p2⟩:=p
 obtain⟨q1,q2⟩:=q
 cases hp
 cases hq
 rw[dQ4 e1,dQ4 e2]at h
 exact wpS_ltAt hk e1 e2 h
end
theorem Run.trans{lo:Nat}{a b c:xQ}(h:Run lo a b)(k:Run lo b c):Run lo a c:=⟨k.kind,k.pend.trans h.pend,k.fail,k.perm.trans h.perm,λi hi=>(k.low i hi).trans (h.low i hi)⟩
theorem dN2{a:Array jK}{lo k l:Nat}(nd:ND a)(hs:lo+k<a.size)(h:Asc a lo k)(hl:l<=k)(h1:∀i,i<l->K a (lo+i)<=K a (lo+k))(h2:∀i,l<=i->i<k->K a (lo+k)<K a (lo+i)):Asc (bubble a (lo+k) (lo+k-(lo+l))) lo (k+1):=by
 have hd:lo+k-(lo+l)=k-l:=by lia
 rw[hd]
 have hK:=λj=>K_bubble (xs:=a) (src:=lo+k) (d:=k-l) hs (by lia) j
 intro i hi
 rw[hK,hK]
 have e:lo+k-(k-l)=lo+l:=by lia
 rw[e]
 by_cases c1:lo+i=lo+l
 · rw[if_pos c1,if_neg (by lia),if_pos (by lia)]
   have:i=l:=by lia
   subst this
   rw[show lo+i+1-1=lo+i by lia]
   exact h2 i (zj _) (by lia)
 · rw[if_neg c1]
   by_cases c2:lo+i+1=lo+l
   · rw[if_pos c2,if_neg (by lia)]
     have:=h1 i (by lia)
     have:=nd.ne (i:=lo+i) (j:=lo+k) (by lia) (by lia) (by lia)
     lia
   · rw[if_neg c2]
     by_cases c3:lo+l<lo+i/\lo+i<=lo+k
     · rw[if_pos c3,if_pos (by lia)]
       have:=h (i-1) (by lia)
       rw[show lo+(i-1)=lo+i-1 by lia,show lo+i-1+1=lo+i by lia]at this
       rw[show lo+i+1-1=lo+i by lia]
       exact this
     · rw[if_neg c3,if_neg (by lia)]
       exact h i (by lia)
section
variable{prog:zC}{w:zN}{A:zT}{E:VSP}{s:zm}
theorem bin_w{st:xQ}{lo n ok:Nat}{Q:Bool->xQ->Prop}(hk:yG st=YG)(hf:ZT st=none)(ha:bQ7 (jY st))(nd:ND (jY st))(h1:1<=ok)(hn:ok<=n)(hs:lo+n<=(jY st).size)(h0:Asc (jY st) lo ok)
 (h:∀st',Run lo st st'->Asc (jY st') lo n->Q true st'):wpS (zB prog w) A E s (binarySort' lo n ok) Q st:=by
 unfold binarySort'
 refine wpS_bind (wpS_mono (wpS_forRange (I:=λk c st'=>c= (none,())/\Run lo st st'/\ok<=k/\k<=n/\Asc (jY st') lo k) (Q:=λc st'=>c= (none,())/\Run lo st st'/\Asc (jY st') lo n) ?_ ?_ ⟨rfl,.refl hk hf,by lia,by lia,by rw[Nat.max_eq_left h1];exact h0⟩) ?_)
 · rintro k c st1 _ hx ⟨rfl,hR,g1,g2,g3⟩
   dsimp only
   have hz:=hR.size
   have ha1:=ha.perm hR.perm
   have nd1:=nd.perm hR.perm
   refine wpS_bind (wpS_mono (wpS_forRange (I:=λx c st'=>st'=st1/\∃l r,c= (none,l,r)/\l<=r/\r<=k/\r-l+x<=k/\(∀i,i<l->K (jY st1) (lo+i)<=K (jY st1) (lo+k))/\∀i,r<=i->i<k->K (jY st1) (lo+k)<K (jY st1) (lo+i)) (Q:=λc st'=>st'=st1/\∃l,c= (none,l,l)/\l<=k/\(∀i,i<l->K (jY st1) (lo+i)<=K (jY st1) (lo+k))/\∀i,l<=i->i<k->K (jY st1) (lo+k)<K (jY st1) (lo+i)) ?_ ?_ ⟨rfl,0,k,rfl,by lia,by lia,by lia,λi hi=>by lia,λi a b=>by lia⟩) ?_)
   · rintro x c st2 _ hx2 ⟨rfl,l,r,rfl,q1,q2,q3,q4,q5⟩
     dsimp only
     by_cases hl:l>=r
     · rw[if_pos hl]
       have:l=r:=by lia
       subst this
       exact XJ ⟨rfl,l,rfl,q2,q4,q5⟩
     · rw[if_neg hl]
       refine wpS_bind (lt_at hR.kind ha1 (by lia) (by lia) ?_)
       dsimp only
       have hm1:l<=(l+r) / 2:=by lia
       have hm2:(l+r) / 2<r:=by lia
       generalize (l+r) / 2=m at hm1 hm2
       by_cases hlt:K (jY st2) (lo+k)<K (jY st2) (lo+m)
       · rw[if_pos (decide_eq_true hlt)]
         refine XJ ⟨rfl,l,m,rfl,by lia,by lia,by lia,q4,λi a b=>?_⟩
         by_cases e:i=m
         ·subst e;exact hlt
         ·exact XT hlt (g3.lt (show m<i by lia) b)
       · rw[if_neg (by simpa using hlt)]
         refine XJ ⟨rfl,m+1,r,rfl,by lia,by lia,by lia,λi a=>?_,q5⟩
         by_cases e:i=m
         ·subst e;lia
         · have:=g3.lt (show i<m by lia) (by lia)
           lia
   · rintro c st2 ⟨rfl,l,r,rfl,q1,q2,q3,q4,q5⟩
     have:l=r:=by rw[Nat.zero_max]at q3;lia
     subst this
     exact⟨rfl,l,rfl,q2,q4,q5⟩
   · rintro c st2 ⟨rfl,l,rfl,q2,q4,q5⟩
     dsimp only
     refine wpS_bind ?_
     show wpS _ _ _ _ (moveDown' (lo+k) (lo+l)) _ _
     rw[moveDown'_eq]
     refine wpS_modify (XJ ⟨rfl,hR.trans ⟨hR.kind,rfl,hR.fail,bubble_perm _ _ _,λi hi=>?_⟩,by lia,by lia,dN2 nd1 (by lia) g3 q2 q4 q5⟩)
     show (bubble (jY st2) (lo+k) (lo+k-(lo+l)))[i]? =_
     rw[getElem?_bubble (by lia) _ (by lia),if_neg (by lia),if_neg (by lia)]
 · rintro c st1 ⟨rfl,hR,g1,g2,g3⟩
   rw[Nat.max_eq_right (by lia)]at g3
   exact⟨rfl,hR,g3⟩
 · rintro c st1 ⟨rfl,hR,g3⟩
   exact XJ (h st1 hR g3)
end
noncomputable def lay:Nat->List (List jK)->List Nat->List (Nat×Nat×Nat)
 |o,r::rs,p::ps=>(o,r.length,p)::lay (o+r.length) rs ps
 |_,_,_=> []
theorem cK5:∀ {rs1:List (List jK)} {ps1:List Nat} {rs2:List (List jK)} {ps2:List Nat} {o:Nat},rs1.length=ps1.length->lay o (rs1++rs2) (ps1++ps2)=lay o rs1 ps1++lay (o+rs1.flatten.length) rs2 ps2
 |[], [],_,_,o,_=>by simp[lay]
 |[],_::_,_,_,_,h=>by cases h
 |_::_, [],_,_,_,h=>by cases h
 |r::rs1,p::ps1,rs2,ps2,o,h=>by
   show (o,r.length,p)::lay (o+r.length) (rs1++rs2) (ps1++ps2)= (o,r.length,p)::(lay (o+r.length) rs1 ps1++_)
   rw[cK5 (YN h),List.flatten_cons,ze,Nat.add_assoc]
structure GI(a0:List jK)(st:xQ)(rs:List (List jK))(ps:List Nat)(T:List jK):Prop where
 kind:yG st=YG
 fail:ZT st=none
 arr:(jY st).toList=rs.flatten++T
 perm:(jY st).toList.Perm a0
 len:rs.length=ps.length
 pend:xX st= (lay 0 rs ps).toArray
 ok:∀r∈rs,0<r.length/\Srt r
section
variable{prog:zC}{w:zN}{A:zT}{E:VSP}{s:zm}
end
theorem GI.push{a0:List jK}{st:xQ}{rs:List (List jK)}{ps:List Nat}{C T:List jK}{lo n:Nat}(g:GI a0 st rs ps (C++T))(hC:0<C.length)(sC:Srt C)(e:rs.flatten.length=lo)(en:C.length=n):GI a0 (setPending st ((xX st).push (lo,n,0))) (rs++[C]) (ps++[0]) T:=by
 refine⟨g.kind,g.fail,?_,g.perm,by rw[ze,ze,g.len];rfl,?_,λr hr=>?_⟩
 · show (jY st).toList=_
   rw[g.arr];simp
 · show (xX st).push (lo,n,0)=_
   rw[g.pend,cK5 g.len,List.push_toArray,Nat.zero_add,e]
   subst en
   rfl
 · rcases je.mp hr with hr|hr
   ·exact g.ok r hr
   ·rw[zM.mp hr];exact⟨hC,sC⟩
section
variable{prog:zC}{w:zN}{A:zT}{E:VSP}{s:zm}
end
section
variable{prog:zC}{w:zN}{A:zT}{E:VSP}{s:zm}
end
end TS
namespace DL
open PySem PySem.Spec L2
open PyProof.Rows hiding St
section
variable{prog:zC}{w:zN}{A:zT}{E:VSP}{s:zm}{T:String}{r d:Addr}{n:Nat}{P:Nat->zg->Prop}{OK:Heap->Prop}{Q:VSP}
end
section
variable{X:Cx}{Z:XC}{c:Wc}{μ:List Addr}{H:Hp}{G:DH}
end
section
variable{prog:zC}{w:zN}{A:zT}{E:VSP}
end
section
end
section
end
structure bZ4(X:Cx)(e:Expr)(k:Int):Prop where
 h:PE X e (tC (.int k))
section
variable{X:Cx}{Z:XC}{pos:Pos}{e f:Expr}{i j k:Int}
theorem eH4{m pos}:bZ4 X (.Constant (.int i) m pos) i:=⟨cC7⟩
theorem eI1(he:bZ4 X e i)(hf:bZ4 X f j)(hc:cN6 i j)(hk:i ^ j.toNat=k):bZ4 X (.BinOp e .Pow f pos) k:=⟨by
 subst hk
 exact PE.mono (cW9 dG3 he.h hf.h) λU H Q q=>⟨i,j,rfl,rfl,hc,q⟩⟩
theorem eC0(he:bZ4 X e i)(hf:bZ4 X f j)(hk:i-j=k):bZ4 X (.BinOp e .Sub f pos) k:=⟨by
 subst hk
 exact PE.mono (cW9 dH3 he.h hf.h) λU H Q q=>⟨i,j,rfl,rfl,q⟩⟩
end
end DL
namespace DL
open PySem PySem.W
open PyProof.Rows hiding St
structure WO(lt:Nat->Nat->Bool):Prop where
 tr:∀i j k,lt j i=false->lt k j=false->lt k i=false
 as:∀i j,lt i j=true->lt j i=false
section
noncomputable def eB5{α:Type}(lt:Nat->Nat->Bool):KasT α->α
 | .ret a=>a
 | .ask i j k=>eB5 lt (k (lt i j))
theorem tOk.run:∀t,tOk lt n t Q->tOk lt n t (λa=>a=eB5 lt t/\Q a)
 | .ret a,h=>⟨rfl,h⟩
 | .ask i j k,h=>⟨h.1,h.2.1,tOk.run (k (lt i j)) h.2.2⟩
theorem tOk.is:∀t,tOk lt n t Q->Q (eB5 lt t)
 | .ret a,h=>h
 | .ask i j k,h=>tOk.is (k (lt i j)) h.2.2
end
end DL
namespace DL
open PySem PySem.Spec L2
open PyProof.Rows hiding St
section
variable{X:Cx}{pins:PNS}{U:St}{H:Hp}{s:zm}
end
section
variable{prog:zC}{w:zN}{A:zT}{E:VSP}{s:zm}{C:Bool->zm->Prop}
end
section
variable{X:Cx}{Z:XC}{pins:PNS}{U:St}{H:Hp}{s:zm}{F:List D->M D}{k:Nat}{f:Addr}{fd:yF}{ps:List Str}{μ:List Addr}{G:DH}
end
section
variable{X:Cx}{Z:XC}{e:Expr}{fe:Fe}{p pf kp pos:Pos}{x:Str}{F:List D->M D}
end
section
variable{prog:zC}{w:zN}{A:zT}{E:VSP}{s:zm}
end
section
variable{X:Cx}{Z:XC}{es:List Expr}{pos:Pos}
end
section
variable{X:Cx}{Z:XC}
def cM8(i n:Nat)(tab:Str->Option (List D->M D))(fs:DSt->M (List D)):Fe:=λU=>match U[i]? with
 |some (some (.fn x))=>match tab x with
   |some F=>fs U >>= fnX n F
   |none=>M.stuck
 |_=>M.stuck
theorem cU8{α:Type}{X9:DSt}{c:Wc}{H:Hp}{G:DH}{K:D->List Addr->DH->Hp->Prop}(p:c7 c Z μ H (cM8 i n tab fs X9 G) K):
 ∃x F,X9[i]? =some (some (.fn x))/\tab x=some F/\c7 c Z μ H ((fs X9 >>= fnX n F) G) K:=by
 delta cM8 at p
 rcases hx:X9[i]? with _|_|d
 ·rw[hx]at p;exact p.elim
 ·rw[hx]at p;exact p.elim
 · rw[hx]at p
   rcases d with _|_|_|_|_|_|x|_<;>try exact p.elim
   have p:c7 c Z μ H ((match tab x with|some F=>fs X9 >>= fnX n F|none=>M.stuck:M D) G) K:=p
   rcases hF:tab x with _|F
   ·rw[hF]at p;exact p.elim
   ·rw[hF]at p;exact⟨x,F,rfl,hF,p⟩
theorem dJ0{e:Expr}{y:Str}(hT:∀x F,tab x=some F->∃k kk,V6 F n x X.prog X.w X.K X.mg X.base k/\N8 kk X.A/\k<=kk)(hv:PE X (.Name y p) (dL0 i))(ha:DA X Z (e::es) fs)(hs:(e::es).all K7=true):
 DE X Z (.Call (.Name y p) (e::es) [] pos) (cM8 i n tab fs):=⟨by
 intro pins s U H Q I h
 obtain⟨X9,μ,G,sr,hr,pp⟩:=h
 obtain⟨x,F,hx,hF,pp⟩:=cU8 (α:=D) pp
 obtain⟨k,kk,hC,hrm,hk⟩:=hT x F hF
 obtain⟨f,fd,ps,f1,f2,f3,f4⟩:=hC.ex
 rw[jl,zQ]at hs
 obtain⟨v,e1,r⟩:=sr.2 i _ hx
 unfold d7 at r
 obtain⟨a,ea,rfl⟩:=r
 have ea:X.mg x=some (.ref a):=ea
 rw[f2]at ea
 cases ea
 refine yM (thn (hv pins s U H (λv' H'=>v'= .ref f/\H'=H) I ⟨_,e1,rfl,rfl⟩) λu s1 ⟨v',H',I1,rv,e2,e3⟩=>?_)
 subst e2 e3
 cases rv
 refine xG (h₀:=X.base) I1.ok.mod.kin f3 (thn (ha.h pos pins s1 U H' (λvs H2=>spD (wc X) n F vs H2 Q E0) I1 ⟨X9,μ,G,sr,hr,(c7.bind pp).mono λds' X0 G1 H1 x' h1 p1 vs rv=>?_⟩) λus s2 ⟨vs,H2,I2,r2,q2⟩=>⟨I2.kIn,?_⟩) (q13 hs.1) (by rw[R5];exact V9 hs.2)
 · obtain⟨hl,p2⟩:=bY3 p1
   exact⟨by rw[<-rv.length];exact hl,ds',X0,G1,rv,h1,p2⟩
 ·exact cF0 (dvs:= []) (ds:= []) f1 (hrm.mono hk) f4 .nil dY8 I2 r2 (by rw[jC];exact q2)⟩
end
def dD0:List D->M D:=λds=>match ds with
 |[.int n]=>if n.natAbs.log2<1920 then pure (.str (jI (Xz n)))else M.stuck
 |_=>M.stuck
def bV1:List D->M D:=λds=>match ds with
 |[.int i]=>pure (.int i)
 |[.bl k]=>pure (.int (if k then 1 else 0))
 |[.str z]=>match XD z with
   |some n=>if z.length<=640 then pure (.int n)else M.stuck
   |none=>M.stuck
 |_=>M.stuck
noncomputable def aG6(z p:Str)(i:Int):Bool:=decide (Js z.length i+p.length<=z.length)&&Zp z p (Js z.length i)
def startsD:D->List D->M D:=λx ds=>match x,ds with
 | .str z, [.str p,.int i]=>pure (.bl (aG6 z p i))
 |_,_=>M.stuck
section
variable{X:Cx}{Z:XC}
theorem eL6:R6 X Z (.type "str") dD0:=⟨by
 intro pins s U H xs us Q I r hE0
 obtain⟨ds,μ,G,rl,hr,p⟩:=hE0
 rcases ds with _|⟨_|_|n|_|_|_|_|_,_|⟨_,_⟩⟩<;>try exact p.elim
 obtain⟨v,rfl,rv⟩:=aK0 rl
 obtain⟨u,rfl,ru⟩:=W5 r
 rw[aA4 rv]at ru
 obtain⟨t,rfl⟩:=ru
 have p:c7 (wc X) Z μ H ((if n.natAbs.log2<1920 then pure (.str (jI (Xz n)))else M.stuck:M D) G) _:=p
 split at p
 case isFalse=>exact p.elim
 rename_i hn
 exact PySem.P.str_of_int hn ⟨.str (jI (Xz n)),H,I.tok _,⟨_,rfl⟩,c7.ok p hr _ (by unfold d7;rfl)⟩⟩
theorem dQ2:R6 X Z (.type "int") bV1:=⟨by
 intro pins s U H xs us Q I r hE0
 have hE:=hE0
 obtain⟨ds,μ,G,rl,hr,p⟩:=hE0
 rcases ds with _|⟨_|b|n|z|_|_|_|_,_|⟨_,_⟩⟩<;>try exact p.elim
 ·exact(dA8 (X:=X) (Z:=Z)).h pins s U H xs us Q I r ⟨_,μ,G,rl,hr,p⟩
 ·exact(dA8 (X:=X) (Z:=Z)).h pins s U H xs us Q I r ⟨_,μ,G,rl,hr,p⟩
 · obtain⟨v,rfl,rv⟩:=aK0 rl
   obtain⟨u,rfl,ru⟩:=W5 r
   rw[aE6 rv]at ru
   obtain⟨t,rfl⟩:=ru
   have p:c7 (wc X) Z μ H ((match XD z with|some n=>if z.length<=640 then pure (.int n)else M.stuck|none=>M.stuck:M D) G) _:=p
   rcases hz:XD z with _|n
   ·rw[hz]at p;exact p.elim
   · rw[hz]at p
     have p:c7 (wc X) Z μ H ((if z.length<=640 then pure (.int n)else M.stuck:M D) G) _:=p
     split at p
     case isFalse=>exact p.elim
     rename_i hl
     exact PySem.W.KIN.call_text hz hl ⟨.int n,H,I.tok _,⟨_,rfl⟩,c7.ok p hr _ ofI⟩⟩
theorem dV4(_:X.calm=true):BD dD0 "str" X Z:=⟨.inr ⟨_,eL6,eM9⟩⟩
theorem dU4(_:X.calm=true):BD bV1 "int" X Z:=⟨.inr ⟨_,dQ2,eC3⟩⟩
theorem cR0:MtD X Z "str.startswith" startsD:=by
 intro pins s U H x xs v us Q I rx rvs hE0
 obtain⟨d,ds,μ,G,rd,rl,hr,p⟩:=hE0
 unfold startsD at p
 split at p
 · rename_i z q i
   rw[aE6 rd]at rx
   obtain⟨t,rfl⟩:=rx
   obtain⟨v1,v2,rfl,r1,r2⟩:=eY6 rl
   obtain⟨u1,u2,rfl,s1,s2⟩:=cM2 rvs
   rw[aE6 r1]at s1
   rw[aA4 r2]at s2
   obtain⟨t1,rfl⟩:=s1
   obtain⟨t2,rfl⟩:=s2
   exact call_gives Xk (Zv _ _ _) F.entry_str_startswith (F.args_str_startswith_3 _ _ _) (gives_str_startswith_from z q i t t1 t2) (show (PySem.Made.val _).post _ s from⟨.bl (aG6 z q i),H,I,rfl,c7.ok p hr _ (by unfold d7;rfl)⟩)
 ·exact p.elim
noncomputable def aV7(a b:Str)(Fa Fb:List D->M D):Str->Option (List D->M D):=λx=>if x=a then some Fa else if x=b then some Fb else none
theorem cO1(ha:∃k kk,V6 Fa n a X.prog X.w X.K X.mg X.base k/\N8 kk X.A/\k<=kk)(hb:∃k kk,V6 Fb n b X.prog X.w X.K X.mg X.base k/\N8 kk X.A/\k<=kk)
 (hN:X.N[i]? =some y) (hv:Vis X.env.scope y) (hd:(y==("__debug__" :Str))=false) (hcd:(y==("__classdict__" :Str))=false) (hs:(e::es).all K7=true) (hA:DA X Z (e::es) fs):
 DE X Z (.Call (.Name y p) (e::es) [] pos) (cM8 i n (aV7 a b Fa Fb) fs):=dJ0 (λx F h=>by
 unfold aV7 at h
 split at h
 ·rename_i k;cases h;rw[k];exact ha
 · split at h
   ·rename_i k;cases h;rw[k];exact hb
   ·cases h) (cE6 hN hv hd hcd) hA hs
end
section
variable{prog:zC}{w:zN}{A:zT}{E:VSP}{s:zm}
end
section
variable{prog:zC}{w:zN}{A:zT}{E:VSP}{s:zm}
end
section
variable{prog:zC}{w:zN}{A:zT}{E:VSP}{s:zm}
end
section
variable{X:Cx}{Z:XC}{c:Wc}{μ:List Addr}{H:Hp}{G:DH}
end
section
variable{X:Cx}{Z:XC}{ea eb:Expr}{fa fb:Fe}{p p1 p2 q1 q2 q3 pos:Pos}
end
noncomputable def eF2(A:zT)(s:zm)(y x:zg)(b:Bool):Prop:=
 ∀(prog:zC) (w:zN) (E:VSP) (Q:VSP),Q (.bool b) s->zt (zB prog w) A (richCompare .GtE y x) Q E s
inductive GeR(A:zT)(s:zm):List zg->List zg->Bool->Prop
 |nil:GeR A s [] [] true
 |eq {x y xs ys b}:ym A s x y true->GeR A s xs ys b->GeR A s (x::xs) (y::ys) b
 |ne {x y xs ys b}:ym A s x y false->eF2 A s x y b->GeR A s (x::xs) (y::ys) b
section
open PySem.SeqAt
open PySem.AutoSeq1 (wpAny_loadPart')
open PySem.MeetsSeq PySem.MeetsSeq2 PySem.MeetsSeq3
end
section
variable{X:Cx}{Z:XC}
end
section
end
def eH9(c:Wc)(μ:List Addr)(H:Hp)(acc:Option (D×D))(old:Array zg):Prop:=match acc with
 |none=>old= #[]
 |some b=>∃v vk u uk,d7 c μ H b.1 v/\u5 v u/\d7 c μ H b.2 vk/\u5 vk uk/\old= #[u,uk]
theorem eH9.mono(x:Ext μ H X2 H')(h:eH9 c μ H acc old):eH9 c X2 H' acc old:=by
 rcases acc with _|b
 ·exact h
 · obtain⟨v,vk,u,uk,a1,a2,a3,a4,a5⟩:=h
   exact⟨v,vk,u,uk,a1.mono x,a2,a3.mono x,a4,a5⟩
section
variable{X:Cx}{Z:XC}{pins:PNS}{U:St}{k:Nat}{f:Addr}{fd:yF}{ps:List Str}{F:List D->M D}{A:zT}
end
section
variable{X:Cx}{Z:XC}{F:List D->M D}{x:Str}{e:Expr}{fe:Fe}{p pf kp pos:Pos}
end
section
variable{prog:zC}{w:zN}{A:zT}{E:VSP}{s:zm}{K:Type}[DecidableEq K]{knd:KeyKind prog w K}
end
section
variable{X:Cx}{Z:XC}{ea:Expr}{fa:Fe}{p q1 ap pos:Pos}
end
inductive CdE(w:zN)(K:zc)(mg:Str->Option zg):List DictEntry->List (Str×D)->Prop
 |nil:CdE w K mg [] []
 |cons {z:Str} {t:Tok} {u:zg} {d:D} {es:List DictEntry} {tb:List (Str×D)} (h:CR K mg d u) (r:CdE w K mg es tb):CdE w K mg ({hash:=PyData.keyHash w.params z,key:=.str z t,val:=u}::es) ((z,d)::tb)
structure CdOk(w:zN)(K:zc)(mg:Str->Option zg)(x:Str)(tb:List (Str×D)):Prop where
 ex:∃a es n,mg x=some (.ref a)/\K.lookup a=some ⟨.type "dict",none,.dict (List.toArray es) n, #[]⟩/\CdE w K mg es tb
 nd:(tb.map (·.1)).Nodup
section
variable{X:Cx}{Z:XC}{b:Expr}{fb:Fe}{x:Str}{tb:List (Str×D)}{p pos:Pos}
end
mutual
noncomputable def pyD:D->PyData
 | .non=>.none
 | .bl b=>.bool b
 | .int i=>.int i
 | .str x=>.str x
 | .tup l=>.tuple (pyL l)
 | .ref _=>.none
 | .fn _=>.none
 | .ty _=>.none
noncomputable def pyL:List D->List PyData
 |[]=> []
 |d::r=>pyD d::pyL r
end
mutual
noncomputable def cQ2:D->Bool
 | .non=>true
 | .bl _=>true
 | .int _=>true
 | .str _=>true
 | .tup l=>dU1 l
 | .ref _=>false
 | .fn _=>false
 | .ty _=>false
noncomputable def dU1:List D->Bool
 |[]=>true
 |d::r=>cQ2 d&&dU1 r
end
mutual
theorem eX6:∀d:D,(pyD d).hasDict=false
 | .non=>rfl
 | .bl _=>rfl
 | .int _=>rfl
 | .str _=>rfl
 | .tup l=>by unfold pyD;exact dY9 l
 | .ref _=>rfl
 | .fn _=>rfl
 | .ty _=>rfl
theorem dY9:∀l:List D,Jm (pyL l)=false
 |[]=>rfl
 |d::r=>by unfold pyL;show ((pyD d).hasDict||Jm (pyL r))=false;rw[eX6 d,dY9 r];rfl
end
section
variable{X:Cx}{Z:XC}{pins:PNS}{U:St}{H:Hp}{s:zm}
theorem cU0(I:Inv X pins U H s)(q:SqT X.K H a vs):∃o its n,s.heap.get? a=some o/\o.cls= .type "tuple"/\o.data= .seq its n/\o6 vs its.toList:=by
 rcases q with q|⟨o,its,n,hl,hc,hd,_,hv⟩
 · obtain⟨_,its,hv,o,e,c,n,d⟩:=(show O7 X.prog X.w H s.heap a (.tup vs)from dI3 I.hok q)
   exact⟨o,its.toArray,n,e,c,(Zh d).1,by simpa using hv⟩
 ·exact⟨o,its,n,I.kIn _ _ hl,hc,(Zh hd).1,hv⟩
mutual
theorem fC8(I:Inv X pins U H s):∀d {v} {u},cQ2 d=true->d7 (wc X) μ H d v->u5 v u->∃as,Reads s.heap u (pyD d) as
 | .non,v,u,_,r,q=>by unfold d7 at r;subst r;cases q;exact⟨_,.none⟩
 | .bl b,v,u,_,r,q=>by unfold d7 at r;subst r;cases q;exact⟨_,.bool b⟩
 | .int i,v,u,_,r,q=>by unfold d7 at r;subst r;obtain⟨t,rfl⟩:=q;exact⟨_,.int i t⟩
 | .str x,v,u,_,r,q=>by unfold d7 at r;subst r;obtain⟨t,rfl⟩:=q;exact⟨_,.str x t⟩
 | .tup l,v,u,hd,r,q=>by
   unfold d7 at r
   obtain⟨a,vs,rfl,sq,rl⟩:=r
   cases q
   obtain⟨o,its,n,e,c,d,hv⟩:=cU0 I sq
   obtain⟨as,ra⟩:=eP7 I l (by unfold cQ2 at hd;exact hd) rl hv
   unfold pyD
   exact⟨as,.tuple e c d ra⟩
 | .ref _,v,u,hd,_,_=>by unfold cQ2 at hd;cases hd
 | .fn _,v,u,hd,_,_=>by unfold cQ2 at hd;cases hd
 | .ty _,v,u,hd,_,_=>by unfold cQ2 at hd;cases hd
theorem eP7(I:Inv X pins U H s):∀l {vs} {us},dU1 l=true->m6 (wc X) μ H l vs->o6 vs us->∃as,ReadsAll s.heap us (pyL l) as
 |[],vs,us,_,r,q=>by unfold m6 at r;subst r;cases q;exact⟨_,.nil⟩
 |d::l,vs,us,hd,r,q=>by
   unfold m6 at r
   obtain⟨v,r',rfl,r1,r2⟩:=r
   unfold dU1 at hd
   rw[zQ]at hd
   cases q with
   |cons q1 q2=>
     obtain⟨as,h1⟩:=fC8 I d hd.1 r1 q1
     obtain⟨bs,h2⟩:=eP7 I l hd.2 r2 q2
     unfold pyL
     exact⟨_,.cons h1 h2⟩
end
end
section
variable{X:Cx}{Z:XC}
end
end DL
namespace W
open PySem PySem.Spec L2 DL
open PyProof.Rows hiding St
end W
namespace DL
open PySem PySem.Spec L2
open PyProof.Rows hiding St
section
variable{X:Cx}{Z:XC}{o:Expr}{fo:Fe}{name:Str}{id:String}{mm:D->List D->M D}{apos cpos:Pos}
end
noncomputable def sV:zg->Str
 | .str x _=>x
 |_=> ""
noncomputable def byT(w:zN):Bool:=w.params.followText "set-order"
def TSet(prog:zC)(w:zN)(h:Heap)(a:Addr)(ss:List Str):Prop:=∃o es ep t,h.get? a=some o/\o.ExactSet/\o.data= .set es ep t/\ElemsOf (strKind prog w) es.toList/\(es.toList.map λe=>sV e.2).Perm ss/\es.size<scanBound/\t.fits es.size=true/\t.led= (!byT w)/\(0<es.size->t.plain=false)
section
variable{prog:zC}{w:zN}{A:zT}{E:VSP}{s:zm}
end
theorem StrsAre.at:∀ {vs} {ss},StrsAre vs ss->∀(i:Nat) v,vs[i]? =some v->∃x t,ss[i]? =some x/\v= .str x t
 |_,_,.nil,i,v,h=>by simp at h
 |_,_,.cons x t hr,0,v,h=>by simp at h;exact⟨x,t,rfl,h.symm⟩
 |_,_,.cons n t hr,i+1,v,h=>by
   simp only[ju]at h ⊢
   exact StrsAre.at hr i v h
section
variable{prog:zC}{w:zN}{A:zT}{R:Result->zm->Prop}{I:Addr}{fp wr:List Addr}{G:Array GenState->Array GenState->Prop}{n:Nat}{P:Nat->zg->Prop}{St:Nat->zm->Prop}
end
section
end
noncomputable abbrev sO(es:Array (Int×zg))(ep:Nat)(t:SetTable):Obj:={cls:=.type "set",dict:=none,data:=.set es ep t,slots:= #[]}
section
end
section
end
structure SWalk(prog:zC)(w:zN)(A:zT)(s:zm)(a:Addr)(ss:List Str)(I:Addr)(h':Heap):Prop where
 keep:∀b o,s.heap.get? b=some o->h'.get? b=some o
 new:s.heap.objs.size<=I
 walk:∃(J:Addr) (vs:List zg) (ss':List Str) (St:Nat->Heap->Prop),s.heap.objs.size<=J/\StrsAre vs ss'/\ss'.Perm ss/\Walks prog w A I [I,J,a] [I] vs.length (λi v=>vs[i]? =some v) St/\St 0 h'
section
end
section
variable{prog:zC}{w:zN}{A:zT}{E:VSP}{s:zm}{a I:Addr}{es:Array (Int×zg)}{ep:Nat}{t:SetTable}
end
section
variable{prog:zC}{w:zN}{s:zm}{a I:Addr}{es:Array (Int×zg)}{ep:Nat}{t:SetTable}
theorem TSet.type(hS:TSet prog w s.heap a ss):s.TypeIs (.ref a) "set":=by
 obtain⟨o,es,ep,t,ho,⟨x1,_⟩,_⟩:=hS
 exact⟨o,ho,x1⟩
end
section
end
section
end
section
end
end DL
namespace W
open PySem PySem.Spec L2 DL
open PyProof.Rows hiding St
end W
namespace DL
open PySem PySem.Spec L2
open PyProof.Rows hiding St
noncomputable def lcg(m i:Nat):Nat:=(i*5+1) % (m+1)
def itr(m:Nat):Nat->Nat->Nat
 |0,i=>i
 |k+1,i=>itr m k (lcg m i)
def eR8(m:Nat):Prop:=∀i≤m,∀j≤m,∃k≤m,itr m k i=j
noncomputable def bE9(owner:Array (Option Nat))(r:Option Nat):Prop:=∃j,r=some j/\owner[j]? =some none
theorem cT7{owner:Array (Option Nat)}(h:(ja n).find? (λk=>(owner.getD (i+k) (some 0)).isNone)=some k):owner[i+k]? =some none:=by
 have:=List.find?_some h
 have e:owner.getD (i+k) (some 0)=none:=by simpa using this
 rw[Yx]at e
 rcases h2:owner[i+k]? with _|o
 ·rw[h2]at e;cases e
 · rw[h2]at e
   have:o=none:=e
   rw[this]
theorem cT6(h:owner[i]? =some none):bE9 owner (js mask owner (f+1) i p):=by
 unfold js
 have hr:∃m,ZY mask i+1-i=m+1:=by
  unfold ZY
  split
  ·exact⟨9,by omega⟩
  ·exact⟨0,by omega⟩
 obtain⟨m,hm⟩:=hr
 have:((ja (ZY mask i+1-i)).find? λk=>(owner.getD (i+k) (some 0)).isNone)=some 0:=by
  rw[hm,Ze,List.find?_cons_of_pos]
  rw[Yx,Nat.add_zero,h];rfl
 rw[this]
 exact⟨i,by simp,h⟩
theorem bK9{owner:Array (Option Nat)}(h:bE9 owner (js mask owner f (Zo mask i p).1 (Zo mask i p).2)):bE9 owner (js mask owner (f+1) i p):=by
 unfold js
 split
 · rename_i k hk
   exact⟨i+k,rfl,cT7 hk⟩
 ·exact h
theorem bV7(hj:owner[j]? =some none):∀k f i,k<f->itr mask k i=j->bE9 owner (js mask owner f i 0)
 |0,f+1,i,_,e=>by
   have e:i=j:=e
   rw[<-e]at hj
   exact cT6 hj
 |k+1,f+1,i,hf,e=>by
   refine bK9 ?_
   have e1:(Zo mask i 0).1=lcg mask i:=by show (i*5+1+0 / 32) % (mask+1)=_;simp[lcg]
   have e2:(Zo mask i 0).2=0:=by show 0 / 32=0;rfl
   rw[e1,e2]
   exact bV7 hj k f _ (by omega) e
theorem cH2(hF:eR8 mask)(hj:owner[j]? =some none)(hm:j<=mask):∀n f i p,p<32 ^ n->n+mask<f->i<=mask->bE9 owner (js mask owner f i p)
 |0,f,i,p,hp,hf,hi=>by
   obtain rfl:p=0:=by simpa using hp
   obtain⟨k,hk,e⟩:=hF i hi j hm
   exact bV7 hj k f i (by omega) e
 |n+1,f+1,i,p,hp,hf,hi=>by
   refine bK9 (cH2 hF hj hm n f _ _ ?_ (by omega) ?_)
   · show p / 32<32 ^ n
     rw[XO]at hp
     omega
   · show (i*5+1+p / 32) % (mask+1)<=mask
     have:=Xg (i*5+1+p / 32) (show 0<mask+1 by omega)
     omega
structure eL7(mask:Nat)(k:Nat)(owner:Array (Option Nat)):Prop where
 sz:owner.size=mask+1
 pm:(owner.toList.filterMap id).Perm (ja k)
theorem bY2:∀ {l:List (Option α)} {j:Nat},l[j]? =some none->((l.set j (some x)).filterMap id).Perm (x::l.filterMap id)
 |[],_,h=>by simp at h
 |a::l,0,h=>by
   have:a=none:=by simpa using h
   subst this
   simp
 |a::l,j+1,h=>by
   have ih:=bY2 (x:=x) (l:=l) (j:=j) (by simpa using h)
   rw[ZO]
   rcases a with _|a
   ·simpa using ih
   · show (a::xr id (l.set j (some x))).Perm (x::a::xr id l)
     exact(List.Perm.cons a ih).trans (List.Perm.swap ..)
theorem bU4:∀ {l:List (Option Nat)},(l.filterMap id).length<l.length->∃j,j<l.length/\l[j]? =some none
 |[],h=>by simp at h
 |none::l,h=>⟨0,by simp,rfl⟩
 |some a::l,h=>by
   obtain⟨j,h1,h2⟩:=bU4 (l:=l) (by simpa using h)
   exact⟨j+1,by simpa using h1,by simpa using h2⟩
theorem dO8(h:Int):xt h<32 ^ 13:=by
 unfold xt
 have h1:=yI h (show (0:Int)<2 ^ 64 by decide)
 have h2:=xi h (show (2 ^ 64:Int)≠0 by decide)
 have:(32:Nat) ^ 13=36893488147419103232:=by decide
 omega
theorem eL7.step{owner:Array (Option Nat)}(hF:eR8 mask)(I:eL7 mask k owner)(hk:k<=mask)(h:Int):∃j,js mask owner (Yj mask) (xt h % (mask+1)) (xt h)=some j/\eL7 mask (k+1) (owner.setIfInBounds j (some k)):=by
 have hl:(owner.toList.filterMap id).length=k:=by rw[I.pm.length_eq,jg]
 obtain⟨j0,hj0,e0⟩:=bU4 (l:=owner.toList) (by rw[hl,jZ,I.sz];omega)
 rw[jb]at e0
 have hm:j0<=mask:=by rw[jZ,I.sz]at hj0;omega
 have hi:xt h % (mask+1)<=mask:=by have:=Xg (xt h) (show 0<mask+1 by omega);omega
 obtain⟨j,e,ho⟩:=cH2 hF e0 hm 13 (Yj mask) _ _ (dO8 h) (by unfold Yj;omega) hi
 refine⟨j,e,by simp[I.sz],?_⟩
 rw[Array.toList_setIfInBounds]
 refine(bY2 (by rw[jb];exact ho)).trans ?_
 rw[List.range_succ]
 exact(List.Perm.cons k I.pm).trans (List.perm_append_singleton ..).symm
section
variable{prog:zC}{w:zN}{A:zT}{E:VSP}{s:zm}{a:Addr}
end
section
end
section
end
section
theorem TSet.obj(hS:TSet prog w h a ss):∃es ep t,h.get? a=some (sO es ep t)/\t.fits es.size=true:=by
 obtain⟨o,es,ep,t,ho,⟨x1,x2,x3⟩,hd,_,_,_,hf,_⟩:=hS
 obtain⟨oc,od,odt,os⟩:=o
 obtain rfl:oc= .type "set":=x1
 obtain rfl:od=none:=x2
 obtain rfl:os= #[]:=x3
 obtain rfl:odt= .set es ep t:=hd
 exact⟨es,ep,t,ho,hf⟩
end
inductive cB8(w:zN):List DictEntry->List Str->Prop
 |nil:cB8 w [] []
 |cons {e:DictEntry} {x:Str} {tk:Tok} {es:List DictEntry} {xs:List Str}:e.key= .str x tk->e.hash=hashStr w x->cB8 w es xs->cB8 w (e::es) (x::xs)
theorem cB8.len(h:cB8 w es xs):es.length=xs.length:=by
 induction h with
 |nil=>rfl
 |cons _ _ _ ih=>simp[ih]
theorem cB8.at(h:cB8 w es xs):∀ {i:Nat} {e:DictEntry},es[i]? =some e->∃x tk,xs[i]? =some x/\e.key= .str x tk/\e.hash=hashStr w x:=by
 induction h with
 |nil=>intro i e h;simp at h
 |cons h1 h2 _ ih=>
   intro i e h
   rcases i with _|i
   ·simp at h;subst h;exact⟨_,_,rfl,h1,h2⟩
   ·simpa using ih (by simpa using h)
section
end
section
end
section
end
end DL
namespace W
open PySem PySem.Spec L2 DL
open PyProof.Rows hiding St
end W
namespace DL
open PySem PySem.Spec L2
open PyProof.Rows hiding St
structure Ev where
 P:zC
 w:zN
 K:zc
 mg:Str->Option zg
 base:Heap
structure EvX(E:Ev):Prop where
 ex:∃h:Heap,E.K.In h/\h.Ns zS E.mg
noncomputable abbrev Ck(E:Ev)(F:List D->M D)(n:Nat)(x:Str)(k:Nat):Prop:=V6 F n x E.P E.w E.K E.mg E.base k
def BA(x:Str)(st:Stmt)(ps:List Str):Prop:=∀(kV doc pm:zg) (an:Option Addr) (cdv ct:zg) (us:List zg),us.length=ps.length->bindArgs (jX x x (aB7 st) (O4 st) (o4 st) .none kV doc pm an cdv ct) ⟨us, []⟩=pure (ps.zip us)
section
variable{E:Ev}{x:Str}{st:Stmt}{k n m:Nat}{fb:Fs}
theorem U4(N ps:List Str)(X:EvX E)(Y:FH E.K x st)(S:O5 N ps (o4 st))(b:BA x st ps)(hn:ps.length=n)(hm:N.length=m)
 (hb:O5 N ps (o4 st)->∀f cdv A outer s H Z,N8 k (A.deeper (jJ x (o4 st) s.heap.objs.size f cdv))->DB (W7 CX0 E.P E.w E.K E.mg E.base N x (o4 st) f cdv A outer s H Z).nox ZF (O4 st) fb):Ck E (t7 m fb) n x (k+1):=by
 obtain⟨h,X,G⟩:=X.ex
 obtain⟨f,fd,c⟩:=Y.ff X G b
 exact V6.of c (eW3 c S hn hm (hb S f))
theorem bF7(ps:List Str)(X:EvX E)(Y:FH E.K x st)(b:BA x st ps)(hn:ps.length=n):Ck E (λ_=>M.stuck) n x k:=by
 obtain⟨h,X,G⟩:=X.ex
 obtain⟨f,fd,c⟩:=Y.ff X G b
 exact V6.of c (cU9 hn)
end
def FHs(K:zc)(top:Nat->Stmt):List Str->List Nat->Prop
 |x::r,i::s=>FH K x (top i)/\FHs K top r s
 |_,_=>True
section
variable{K:zc}{top:Nat->Stmt}{x:Str}{i:Nat}{r:List Str}{s:List Nat}{mg:Str->Option zg}{d:D}{u:zg}{h:Heap}
theorem FHs.c(h:FH K x (top i))(t:FHs K top r s):FHs K top (x::r) (i::s):=⟨h,t⟩
structure CC(K:zc)(mg:Str->Option zg)(x:Str)(d:D):Prop where
 ex:∃u,yx K zS x=some (some u)/\CR K mg d u
theorem CC.of(g:yx K zS x=some (some u))(r:CR K mg d u):CC K mg x d:=⟨u,g,r⟩
theorem CC.ok(c:CC K mg x d)(X:K.In h)(G:h.Ns zS mg):cK1 K mg x d:=by
 obtain⟨u,g,r⟩:=c.ex
 exact⟨u,xN X G g,r⟩
theorem eY1{fa:Addr}{P:zC}{w:zN}{N:List Str}{k m:Nat}{fb:Fs}(X:K.In h)(G:h.Ns zS mg)(hfa:mg "law" =some (.ref fa))(Y:FH K "law" (top i))(b:BA "law" (top i) ["script"])(S:O5 N ["script"] (o4 (top i)))(hm:N.length=m)
 (hs:∀kV dc pm an cd ct (s:zm) (v:zg),Zy s (jX "law" "law" (aB7 (top i)) (O4 (top i)) (o4 (top i)) .none kV dc pm an cd ct) ⟨[v], []⟩ [("script",v)])
 (hb:∀base,O5 N ["script"] (o4 (top i))->∀cdv A outer s H Z,N8 k (A.deeper (jJ "law" (o4 (top i)) s.heap.objs.size fa cdv))->DB (W7 CX0 P w K mg base N "law" (o4 (top i)) fa cdv A outer s H Z).nox ZF (O4 (top i)) fb)
 (pure:∀ns:List Int,ns.length<=63->∃G',t7 m fb [.ref 0] [.rol (ns.map D.int)]=some (.ok (.bl true),G')):
 ∃fd:yF,(∀(s:zm) (v:zg),Zy s fd ⟨[v], []⟩ [("script",v)])/\∀base:Heap,K.In base->base.Ns zS mg->X3 P w K mg base CX0 (k+1) fa fd ["script"] (cL6 K):=by
 obtain⟨f,od,an,sl,oc,kV,dc,pm,cd,ct,a,l,e,kp⟩:=Y
 have q:=hfa.symm.trans (xN X G a)
 cases q
 exact⟨_,hs kV dc pm an cd ct,λbase _ _=>eD5 (eW3 ⟨bQ2 l e kp,(bQ2 l e kp).binds b,xN X G a⟩ S rfl hm (hb base S)) pure⟩
theorem walk63{l:PySem.W.OpenLaw}{q:zC}{loose:List Str}{XP:(Str->Option zg)->Heap->Prop}{YP:zN->Heap->Prop}{d:DefRec}{K:Params->zc}(k:Nat)(hn:l.most=some 63)(hdf:d.params.defaults= [])(hr:N8 k ZX)
 (hY:∀(w:zN) (h:Heap),YP w h->(K w.params).In h)
 (F:∀(w:zN) (mg:Str->Option zg) (fa:Addr) (h:Heap),(K w.params).In h->h.Ns zS mg->mg d.name=some (.ref fa)->
   ∃fd:yF,(∀(s:zm) (u:zg),Zy s fd ⟨[u], []⟩ [("script",u)])/\∀base:Heap,(K w.params).In base->base.Ns zS mg->X3 l.prog w (K w.params) mg base CX0 k fa fd ["script"] (cL6 (K w.params))):
 PySem.W.WalkO q loose XP YP l.row.toRowW d [] (λf vs=>Jk f vs):=
 L2.walk_of hn (by decide) hdf hr hY F (λ_ _ a ns hl hO hS=>⟨a,ns,rfl,hS,hO,hl,λ_=>rfl⟩) λ_ _ _ _ _ z=>z
end
noncomputable def TrF(h:Heap)(e T:Addr)(cls:zg):Prop:=∃oe vs oT ts,h.get? e=some oe/\oe.cls=cls/\oe.data= .fields vs/\vs[1]? =some (.ref T)/\T≠e/\h.get? T=some oT/\oT.data= .fields ts/\ts[3]? =some .none
structure Lv(S:List Addr)(e T:Addr)(h h':Heap):Prop where
 keep:∀b o,h.get? b=some o->b∉S->b≠e->b≠T->h'.get? b=some o
 slot:∀b o,h.get? b=some o->b∈S->b≠e->b≠T->∃sl,h'.get? b=some {o with slots:=sl}
section
variable{M:Model}{A:zT}{E:VSP}{s:zm}{base:Heap}{env:Env}{outer:List Env}{L e:Addr}{oe:Obj}{vs:Array zg}{Q:Unit->zm->Prop}
theorem aU9{head:zg}{hadNext:Bool}(hfr:A.frames=some (env::outer))(hl:s.heap.FunFrames base (env::outer))(hf:env.frame=some L)
 (he:s.heap.get? e=some oe) (hd:oe.data= .fields vs) (hsz:1<vs.size)
 (h:∀h',Lv (frs (env::outer)) e s.heap.objs.size s.heap h'->TrF h' e s.heap.objs.size oe.cls->Q () {s with heap:=h'}):
 zt M A (do let a <-frameOf env;let pl <-entryPlaceOf L hadNext;let b <-Xf head a .none (xg L) .none pl;setField (.ref e) 1 b) (λ_ s'=>zt M A (YS (.ref e) none) Q E s') E s:=by
 have nf:e∉frs (env::outer):=λhm=>by
  obtain⟨_,o,ho,k⟩:=hl.mem hm
  rw[he]at ho;cases ho;exact k vs hd
 refine za (wpAny_frameOf_fun hfr hl hf λh1 k1=>?_)
 refine za (wpAny_entryPlaceOf λpl hpl=>?_)
 unfold Xf newFields
 refine za (jq ?_ (hpl.sizeOk5 _ _ _ _ _))
 have e1:h1.get? e=some oe:=(k1.2.1 e nf).trans he
 generalize hO:({cls:=.type "traceback",dict:=none,data:=.fields ([head,.ref L,.none,xg L,.none]++(if pl.isEmpty then zZ 6 Value.none else pl)).toArray}:Obj)=O
 have hOd:O.data= .fields ([head,.ref L,.none,xg L,.none]++(if pl.isEmpty then zZ 6 Value.none else pl)).toArray:=by rw[<-hO]
 have hOf:O.isFreed=false:=by rw[<-hO];rfl
 have e2:=zf (h:=h1) O e1
 refine xc e2 hd hsz ?_
 have ne:h1.objs.size≠e:=yn (zl e1)
 have d3:=yE hd (·.setIfInBounds 1 (Value.ref h1.objs.size))
 have e3:=yi (jS (·.setIfInBounds 1 (Value.ref h1.objs.size))) e2 (xy d3)
 have t3:=(jf (h1.push O) (jS (·.setIfInBounds 1 (Value.ref h1.objs.size))) (Ne.symm ne)).trans (zq h1 hOf)
 unfold YS
 refine za (zV e3 d3 (x:=.ref h1.objs.size) (by simp[hsz]) ?_)
 rw[if_pos (show (Value.ref h1.objs.size != Value.none)=true from by simp)]
 have sz1:h1.objs.size=s.heap.objs.size:=k1.1
 refine xc t3 hOd (by simp only[zk,ze,zp,jw];lia) (h _ ?_ ?_)
 · have kp:∀b o,b≠e->h1.get? b=some o->(((h1.push O).update e (jS (·.setIfInBounds 1 (Value.ref h1.objs.size)))).update h1.objs.size (jS (·.setIfInBounds 3 ((none:Option Addr).elim Value.none λf=>xg f)))).get? b=some o:=λb o hb q=>by
    rw[jf _ _ (yn (zl q)),jf _ _ (Ne.symm hb)]
    exact zf _ q
   refine⟨λb o q nS nE _=>kp b o nE ((k1.2.1 b nS).trans q),λb o q _ nE _=>?_⟩
   obtain⟨sl,hs⟩:=k1.2.2 b o q
   exact⟨sl,kp b _ nE hs⟩
 · rw[<-sz1]
   refine⟨_,_,_,_,?_,Obj.cls_mapFields _ _,d3,by simp[hsz],ne,yi _ t3 (xy (yE hOd _)),yE hOd _,by first|(simp;done)|(rcases hpl with rfl|⟨_,_,_,_,_,_,_,rfl⟩<;>simp)⟩
   rw[jf _ _ ne];exact e3
theorem dZ5(hfr:A.frames=some (env::outer))(hl:s.heap.FunFrames base (env::outer))(hf:env.frame=some L)
 (he:s.heap.get? e=some oe) (hd:oe.data= .fields vs) (h1:vs[1]? =some .none)
 (h:∀h',Lv (frs (env::outer)) e s.heap.objs.size s.heap h'->TrF h' e s.heap.objs.size oe.cls->Q () {s with heap:=h'}):zt M A (JO env (.ref e)) Q E s:=by
 unfold JO YT
 simp only[hf]
 refine za (za (zV he hd h1 ?_))
 rw[if_neg (by decide)]
 exact aU9 hfr hl hf he hd (jv.mp h1).1 h
theorem eD8{T:Addr}{cls:zg}(hfr:A.frames=some (env::outer))(hl:s.heap.FunFrames base (env::outer))(hf:env.frame=some L)(ht:TrF s.heap e T cls)
 (h:∀h' h1,Lv [] e T s.heap h1->h1.objs.size=s.heap.objs.size->Lv (frs (env::outer)) e s.heap.objs.size h1 h'->TrF h' e s.heap.objs.size cls->Q () {s with heap:=h'}):zt M A (JO env (.ref e)) Q E s:=by
 obtain⟨oe,vs,oT,ts,he,rfl,hd,h1,ne,hT,dT,h3⟩:=ht
 unfold JO YT
 simp only[hf]
 refine za (za (zV he hd h1 ?_))
 rw[if_pos (show (Value.ref T != Value.none)=true from by simp)]
 refine za (zV hT dT h3 ?_)
 rw[if_neg (show ¬((Value.none==xg L)=true)from by simp[xg])]
 refine za (xc hT dT (jv.mp h3).1 ?_)
 have other:∀b,b≠T->(s.heap.update T (jS (·.setIfInBounds 3 Value.none))).get? b=s.heap.get? b:=λb hb=>jf _ _ (Ne.symm hb)
 have nT:∀b o,s.heap.get? b=some o->(∀vs,o.data≠ .fields vs)->b≠T:=λb o hb k q=>by
  rw[q,hT]at hb;cases hb;exact k ts dT
 have sz:(s.heap.update T (jS (·.setIfInBounds 3 Value.none))).objs.size=s.heap.objs.size:=Xu ..
 refine aU9 (s:={s with heap:=s.heap.update T (jS (·.setIfInBounds 3 Value.none))}) hfr (hl.of_keeps λb o hb k=>⟨o,(other b (nT b o hb k)).trans hb,rfl⟩) hf ((other e (Ne.symm ne)).trans he) hd (jv.mp h1).1 λh' l t=>?_
 dsimp only at l t
 rw[sz]at l t
 exact h h' _ ⟨λb o q _ _ nb=>(other b nb).trans q,λb o q hb=>nomatch hb⟩ sz l t
end
def CXd(P:zC)(w:zN):CXT:=λouter H s E e s'=>∃a T cls H',e= .ref a/\s.heap.get? a=none/\s.heap.get? T=none/\H' a=none/\H' T=none/\s'.os=s.os/\xU s'.gens/\Un (frs outer) [] H H' s.heap s'.heap/\HOk P w H' s'.heap/\TrF s'.heap a T cls/\E cls none H'
theorem dE3{P:zC}{w:zN}{H:Hp}(x:HOk P w H h)(k:∀b u o,H b=some o->h.get? b=some u->h'.get? b=some u):HOk P w H h':=λa o e=>
 (x a o e).stay (λb u hb q=>by
   rcases hb with rfl|hb
   ·exact k _ u _ e q
   ·exact k _ u _ hb q) (λ_ q=>q) λ_ _ q=>q
theorem bQ6{h h' base:Heap}:∀l:List Env,(∀b o,b∈frs l->h.get? b=some o->(∀vs,o.data≠ .fields vs)->∃sl,h'.get? b=some {o with slots:=sl})->h.FunFrames base l->h'.FunFrames base l
 |[],_,_=>trivial
 |env::r,k,hl=>by
   obtain⟨hk,⟨L,o,hf,hn,ho,hd⟩,hr⟩:=hl
   obtain⟨sl,e⟩:=k L o (by unfold frs;rw[jd,hf];exact zr ..) ho hd
   exact⟨hk,⟨L,_,hf,hn,e,hd⟩,bQ6 r (λb o hb=>k b o (by unfold frs;rw[jd,hf];exact zw _ hb)) hr⟩
section
variable{P:zC}{w:zN}{K:zc}{mg:Str->Option zg}{base:Heap}{N:List Str}{qual:Str}{scope:Scope}{f:Addr}{cd:zg}{A:zT}{outer:List Env}{s0:zm}{H0:Hp}{E:XK}{pins:PNS}{U:St}{H H':Hp}{s s':zm}
theorem cU6(I:Inv (W7 (CXd P w) P w K mg base N qual scope f cd A outer s0 H0 E) pins U H s)(un:Un (frs (jJ qual scope s0.heap.objs.size f cd::outer)) [] H H' s.heap s'.heap)(os:s'.os=s.os)(bare:xU s'.gens)(hok:HOk P w H' s'.heap)
 {a T:Addr} {cls:zg} {h':Heap} (ha:s.heap.get? a=none) (hT:s'.heap.get? T=none) (na:H' a=none) (kp:∀b o,s'.heap.get? b=some o->b∉frs (jJ qual scope s0.heap.objs.size f cd::outer)->(s.heap.get? b≠none\/H' b≠none)->h'.get? b=some o) (sl:∀b o,s'.heap.get? b=some o->b∈frs (jJ qual scope s0.heap.objs.size f cd::outer)->s.heap.get? b≠none->(∀vs,o.data≠ .fields vs)->∃sl,h'.get? b=some {o with slots:=sl}) (tr:TrF h' a T cls) (hE:E cls none H'):
 CXd P w outer H0 s0 E (.ref a) {s' with heap:=h'}:=by
 have th:∀b o,s0.heap.get? b=some o->∃o',s.heap.get? b=some o':=λb o q=>I.base.there b o q (λz=>nomatch z)
 have up:∀b,s.heap.get? b=none->s0.heap.get? b=none:=λb q=>by
  rcases e:s0.heap.get? b with _|o
  ·rfl
  ·obtain⟨o',z⟩:=th b o e;rw[q]at z;cases z
 have up2:∀b,s'.heap.get? b=none->s.heap.get? b=none:=λb q=>by
  rcases e:s.heap.get? b with _|o
  ·rfl
  ·obtain⟨o',z⟩:=un.there b o e (λz=>nomatch z);rw[q]at z;cases z
 have nT:H' T=none:=by
  rcases e:H' T with _|o
  ·rfl
  · have:=hok T o e
    have lt:=this.lt
    rcases q:s'.heap.get? T with _|u
    · have:HOk P w H' s'.heap:=hok
      exact absurd q (by
       intro q
       have hx:=hok T o e
       cases o with
       |lst xs=>obtain⟨_,_,_,_,z⟩:=hx;rw[q]at z;cases z
       |tup xs=>obtain⟨_,_,_,_,z,_⟩:=hx;rw[q]at z;cases z
       |dK kvs=>obtain⟨_,_,_,_,_,_,_,z,_⟩:=hx;rw[q]at z;cases z
       |dT kvs=>obtain⟨_,_,_,_,_,_,_,z,_⟩:=hx;rw[q]at z;cases z
       |set S n=>obtain⟨_,_,_,_,z,_⟩:=hx;rw[q]at z;cases z
       |ins C dx fs=>obtain⟨_,_,_,z,_⟩:=hx;rw[q]at z;cases z
       |own y=>obtain⟨_,z⟩:=hx;rw[q]at z;cases z
       |xd fs=>obtain⟨_,⟨_,_,_,z,_⟩,_⟩:=hx;rw[q]at z;cases z
       |rng lo hi=>obtain⟨_,_,_,z⟩:=hx;rw[q]at z;cases z
       |frz ob u=>obtain⟨z,_⟩:=hx;rw[q]at z;cases z
       |tbl ps=>rw[show s'.heap.get? T=some {cls:=.none,data:=.fields ps}from hx]at q;cases q
       |met f y=>rw[show s'.heap.get? T=some (xj (.ref f) (.ref y))from hx]at q;cases q
       |ext φ=>obtain⟨_,⟨_,z⟩,_⟩:=hx;rw[q]at z;cases z)
    ·rw[q]at hT;cases hT
 have nl:∀b o,s0.heap.get? b=some o->b∉frs outer->b∉frs (jJ qual scope s0.heap.objs.size f cd::outer):=λb o q hb z=>by
  rcases zi.mp (I.stkSub b z)with e|z
  ·exact absurd (zl q) (by have:=I.ok.above;rw[e];exact Nat.not_lt.mpr this)
  ·exact hb z
 refine⟨a,T,cls,H',rfl,up a ha,up T (up2 T hT),na,nT,os.trans I.os,bare,⟨?_,?_,?_,?_,?_,?_,?_⟩,?_,tr,hE⟩
 · intro b o q n hb _
   have q1:=I.base.keep b o q n hb (λz=>nomatch z)
   have n1:=I.base.free b o q n (λz=>nomatch z)
   have q2:=un.keep b o q1 n1 (nl b o q hb) (λz=>nomatch z)
   exact kp b o q2 (nl b o q hb) (.inl (by rw[q1];exact λz=>nomatch z))
 · intro b o q n hb _
   obtain⟨sl1,q1⟩:=I.base.slot b o q n hb (λz=>nomatch z)
   have n1:=I.base.free b o q n (λz=>nomatch z)
   have hb2:b∈frs (jJ qual scope s0.heap.objs.size f cd::outer):=zw _ hb
   obtain⟨sl2,q2⟩:=un.slot b _ q1 n1 hb2 (λz=>nomatch z)
   obtain⟨_,o',ho',nd⟩:=I.ok.funs.mem hb
   have ho':s0.heap.get? b=some o':=ho'
   rw[q]at ho';cases ho'
   obtain⟨sl3,q3⟩:=sl b _ q2 hb2 (by rw[q1];exact λz=>nomatch z) nd
   exact⟨sl3,q3⟩
 · intro b o q n _
   have n1:=I.base.free b o q n (λz=>nomatch z)
   obtain⟨o',q1⟩:=th b o q
   exact un.free b o' q1 n1 (λz=>nomatch z)
 · intro b o q _
   obtain⟨o1,q1⟩:=th b o q
   obtain⟨o2,q2⟩:=un.there b o1 q1 (λz=>nomatch z)
   by_cases hb:b∈frs outer
   · obtain⟨_,o',ho',nd⟩:=I.ok.funs.mem hb
     have ho':s0.heap.get? b=some o':=ho'
     rw[q]at ho';cases ho'
     have n0:H0 b=none:=I.ok.frf b hb
     obtain⟨sl1,r1⟩:=I.base.slot b o q n0 hb (λz=>nomatch z)
     have n1:=I.base.free b o q n0 (λz=>nomatch z)
     have hb2:b∈frs (jJ qual scope s0.heap.objs.size f cd::outer):=zw _ hb
     obtain⟨sl2,r2⟩:=un.slot b _ r1 n1 hb2 (λz=>nomatch z)
     obtain⟨sl3,r3⟩:=sl b _ r2 hb2 (by rw[r1];exact λz=>nomatch z) nd
     exact⟨_,r3⟩
   ·exact⟨o2,kp b o2 q2 (nl b o q hb) (.inl (by rw[q1];exact λz=>nomatch z))⟩
 ·exact λb xs q=>un.tups b xs (I.base.tups b xs q)
 ·exact λb o u q=>un.frzs b o u (I.base.frzs b o u q)
 · intro b ps q
   obtain⟨m1,q1⟩:=I.base.tbls b ps q
   obtain⟨m2,q2⟩:=un.tbls b _ q1
   exact⟨m1++m2,by rw[q2,ZK]⟩
 · refine dE3 hok λb u o e q=>?_
   refine kp b u q (λhb=>?_) (.inr (by rw[e];exact λz=>nomatch z))
   have n1:=I.stkFree b hb
   rcases q1:s.heap.get? b with _|o1
   · obtain⟨_,o2,z,_⟩:=I.stack.mem hb
     have z:s.heap.get? b=some o2:=z
     rw[q1]at z;cases z
   ·rw[un.free b o1 q1 n1 (λz=>nomatch z)]at e;cases e
end
section
variable{P:zC}{w:zN}{K:zc}{mg:Str->Option zg}{base:Heap}{N:List Str}{qual:Str}{scope:Scope}{f:Addr}{cd:zg}{A:zT}{outer:List Env}{s0:zm}{H0:Hp}{E:XK}
theorem eQ8:bE0 (CXd P w) (W7 (CXd P w) P w K mg base N qual scope f cd A outer s0 H0 E) E:=by
 intro pins U H s e s' I h
 obtain⟨a,T,cls,H',rfl,ha,hT,na,nT,os,bare,un,hok,tr,hE⟩:=h
 have hl:s'.heap.FunFrames base (jJ qual scope s0.heap.objs.size f cd::outer):=bQ6 _ (λb o hb q _=>un.slot b o q (I.stkFree b hb) hb (λz=>nomatch z)) I.stack
 have ne1:∀b,(s.heap.get? b≠none\/H' b≠none)->b≠a:=λb hb z=>by
  rw[z]at hb;rcases hb with hb|hb
  ·exact hb ha
  ·exact hb na
 have ne2:∀b,(s.heap.get? b≠none\/H' b≠none)->b≠T:=λb hb z=>by
  rw[z]at hb;rcases hb with hb|hb
  ·exact hb hT
  ·exact hb nT
 have ne3:∀b o,s'.heap.get? b=some o->b≠s'.heap.objs.size:=λb o q=>zE (zl q)
 refine eD8 (base:=base) I.ok.frames hl rfl tr λh' h1 l1 sz1 l2 t2=>?_
 refine cU6 I un os bare hok ha (Zr (zj _)) na (λb o q nb hb=>?_) (λb o q hb hb2 nd=>?_) t2 hE
 ·exact l2.keep b o (l1.keep b o q (λz=>nomatch z) (ne1 b hb) (ne2 b hb)) nb (ne1 b hb) (ne3 b o q)
 ·exact l2.slot b o (l1.keep b o q (λz=>nomatch z) (ne1 b (.inl hb2)) (ne2 b (.inl hb2))) hb (ne1 b (.inl hb2)) (ne3 b o q)
theorem eV2{pins:PNS}{U:St}{H:Hp}{s:zm}{h1:Heap}{a:Addr}{cls:zg}{args:List zg}(I:Inv (W7 (CXd P w) P w K mg base N qual scope f cd A outer s0 H0 E) pins U H s)(m:Heap.MadeExcOf s.heap h1 a cls args)(hE:E cls none H):
 (W7 (CXd P w) P w K mg base N qual scope f cd A outer s0 H0 E).xe (.ref a) {s with heap:=h1}:=by
 obtain⟨t,e1,_,_⟩:=m.there
 have kp:=m.keeps
 have ha:=m.new
 have na:H a=none:=by
  rcases e:H a with _|o
  ·rfl
  · rcases q:s.heap.get? a with _|u
    · have hx:=I.hok a o e
      cases o with
      |lst xs=>obtain⟨_,_,_,_,z⟩:=hx;rw[q]at z;cases z
      |tup xs=>obtain⟨_,_,_,_,z,_⟩:=hx;rw[q]at z;cases z
      |dK kvs=>obtain⟨_,_,_,_,_,_,_,z,_⟩:=hx;rw[q]at z;cases z
      |dT kvs=>obtain⟨_,_,_,_,_,_,_,z,_⟩:=hx;rw[q]at z;cases z
      |set S n=>obtain⟨_,_,_,_,z,_⟩:=hx;rw[q]at z;cases z
      |ins C dx fs=>obtain⟨_,_,_,z,_⟩:=hx;rw[q]at z;cases z
      |own y=>obtain⟨_,z⟩:=hx;rw[q]at z;cases z
      |xd fs=>obtain⟨_,⟨_,_,_,z,_⟩,_⟩:=hx;rw[q]at z;cases z
      |rng lo hi=>obtain⟨_,_,_,z⟩:=hx;rw[q]at z;cases z
      |frz ob u=>obtain⟨z,_⟩:=hx;rw[q]at z;cases z
      |tbl ps=>rw[show s.heap.get? a=some {cls:=.none,data:=.fields ps}from hx]at q;cases q
      |met f y=>rw[show s.heap.get? a=some (xj (.ref f) (.ref y))from hx]at q;cases q
      |ext φ=>obtain⟨_,⟨_,z⟩,_⟩:=hx;rw[q]at z;cases z
    ·rw[q]at ha;cases ha
 have hok1:HOk P w H h1:=I.hok.kept kp
 have un:Un (frs (jJ qual scope s0.heap.objs.size f cd::outer)) [] H H s.heap h1:=⟨λb o q _ _ _=>kp b o q,λb o q _ _ _=>⟨o.slots,kp b o q⟩,λb o q n _=>n,λb o q _=>⟨o,kp b o q⟩,λ_ _ q=>q,λ_ _ _ q=>q,λb ps q=>⟨#[],by simpa using q⟩⟩
 have hl:h1.FunFrames base (jJ qual scope s0.heap.objs.size f cd::outer):=bQ6 _ (λb o hb q _=>⟨o.slots,kp b o q⟩) I.stack
 have ne1:∀b,(s.heap.get? b≠none\/H b≠none)->b≠a:=λb hb z=>by
  rw[z]at hb;rcases hb with hb|hb
  ·exact hb ha
  ·exact hb na
 have ne3:∀b o,h1.get? b=some o->b≠h1.objs.size:=λb o q=>zE (zl q)
 refine dZ5 (s:={s with heap:=h1}) (base:=base) I.ok.frames hl rfl e1 rfl rfl λh' l t=>?_
 refine cU6 (s':={s with heap:=h1}) I un rfl I.bare hok1 ha (Zr (zj _)) na (λb o q nb hb=>?_) (λb o q hb hb2 nd=>?_) t hE
 ·exact l.keep b o q nb (ne1 b hb) (ne3 b o q)
 ·exact l.slot b o q hb (ne1 b (.inl hb2)) (ne3 b o q)
end
structure bB6(base:Heap)(C:Addr)(B newId initId:String)(bmB:List zg):Prop where
 facts:ExcBaseFacts B newId initId bmB
 ex:∃nm q Nn bs bm hdct sn sub ab col dd k0 k1 k2 k3 k5 mN,base.get? C=some (excClassObj nm q C Nn bs bm hdct sn sub ab col dd k0 k1 k2 k3 k5 newId)/\base.Ns Nn mN/\mN "__init__" =none/\OwnTail base bmB bm/\bm.contains (.type "BaseException")=true
noncomputable def eH2(E:XK)(C:Addr)(t:TA):TS:=λ_ U H=>t U H λvs H1=>vs.length<=zd/\E (.ref C) none H1
theorem dE6{P:zC}{w:zN}{K:zc}{mg:Str->Option zg}{base:Heap}{N:List Str}{qual:Str}{scope:Scope}{f:Addr}{cd:zg}{A:zT}{outer:List Env}{s0:zm}{H0:Hp}{E:XK}{x:Str}{es:List Expr}{e1:Expr}{C:Addr}{np cpos pos:Pos}{t:TA}{B newId initId:String}{bmB:List zg}
 (hg:Gl (W7 (CXd P w) P w K mg base N qual scope f cd A outer s0 H0 E) x) (hm:mg x=some (.ref C)) (hC:bB6 base C B newId initId bmB) (ha:PA (W7 (CXd P w) P w K mg base N qual scope f cd A outer s0 H0 E) (e1::es) t)
 (hdb:(x==("__debug__" :Str))=false) (he:zy (e1::es) (jJ qual scope s0.heap.objs.size f cd)= (false,eval e1 (jJ qual scope s0.heap.objs.size f cd))::zy es (jJ qual scope s0.heap.objs.size f cd)) (hpl:(yb cpos (zy es (jJ qual scope s0.heap.objs.size f cd))).any (·.1)=false):
 PS (W7 (CXd P w) P w K mg base N qual scope f cd A outer s0 H0 E) (.Raise (some (.Call (.Name x np) (e1::es) [] cpos)) none pos) (eH2 E C t):=by
 intro pins s U H D I h
 obtain⟨nm,q,Nn,bs,bm,hdct,sn,sub,ab,col,dd,k0,k1,k2,k3,k5,mN,q1,q2,q3,q4,q5⟩:=hC.ex
 refine wpAny_Raise_call_subT (C:=C) (bm:=bm) (nm:=nm) (q:=q) (N:=Nn) (bs:=bs) (hdct:=hdct) (sn:=sn) (sub:=sub) (ab:=ab) (col:=col) (dd:=dd) (k0:=k0) (k1:=k1) (k2:=k2) (k3:=k3) (k5:=k5) (mN:=mN) hC.facts q5 (I.ok.hd rfl) (by rw[show (W7 (CXd P w) P w K mg base N qual scope f cd A outer s0 H0 E).env=jJ qual scope s0.heap.objs.size f cd from rfl,he];exact hpl) q3 (aM4 I hg hm ⟨rfl,?_⟩ hdb)
 have w1:=ha cpos pins s U H _ I h
 have he2:yb cpos (zy (e1::es) (W7 (CXd P w) P w K mg base N qual scope f cd A outer s0 H0 E).env)= (false,eval e1 (jJ qual scope s0.heap.objs.size f cd))::yb cpos (zy es (jJ qual scope s0.heap.objs.size f cd)):=by
  show yb cpos (zy (e1::es) (jJ qual scope s0.heap.objs.size f cd))=_
  rw[he];rfl
 rw[he2]at w1 ⊢
 refine XH (thn w1 λus s1 hE1=>?_)
 obtain⟨vs,H1,I1,r,l1,hE⟩:=hE1
 have kb:∀b o,base.get? b=some o->s1.heap.get? b=some o:=I1.bk
 refine⟨rfl,by rw[<-r.length];exact l1,kb _ _ q1,?_,q4.keeps kb,λh' e m=>eV2 I1 m hE⟩
 obtain⟨o,es',ep,z1,z2⟩:=q2
 exact⟨o,es',ep,kb _ _ z1,z2⟩
noncomputable def ZE(mg:Str->Option zg)(E:XK):XC:=λx _ _ H=>∃C,mg x=some (.ref C)/\E (.ref C) none H
def spX(c:Wc)(n:Nat)(F:List D->M D):Sp:=λvs H Q E=>vs.length=n/\∃ds μ G,m6 c μ H ds vs/\o5 c μ G H/\c7 c (ZE c.mg E) μ H (F ds G) λd X2 _ H'=>∀v,d7 c X2 H' d v->Q v H'
def fnZ(n:Nat)(F:List D->M D):List D->M D:=λds=>if ds.length=n then F ds else M.stuck
noncomputable def X6(x:Str)(fs:DSt->M (List D)):Fs:=λU=>do
 let _ <-fs U
 (λG=>some (.error x,G))
theorem bD3{H:Hp}{n:Nat}{G:DH}{K:D->List Addr->DH->Hp->Prop}(p:c7 cc Z μ H (fnZ n F ds G) K):ds.length=n/\c7 cc Z μ H (F ds G) K:=by
 unfold fnZ at p
 split at p
 ·rename_i h;exact⟨h,p⟩
 ·exact p.elim
section
variable{P:zC}{w:zN}{K:zc}{mg:Str->Option zg}{base:Heap}
theorem okX{x qual:Str}{st:Stmt}{f:Addr}{fd:yF}{N ps:List Str}{k:Nat}{sp:Sp}(F:Fun K x qual st f fd)(S:O5 N ps (o4 st))(len:∀vs H Q E,sp vs H Q E->vs.length=ps.length)
 (hbody:∀(cdv:zg) (A:zT) (outer:List Env) (s:zm) (H:Hp) (vs:List V) (Q:VK) (E:XK),N8 k (A.deeper (jJ qual (o4 st) s.heap.objs.size f cdv))->sp vs H Q E->
   ∃t,PSs (W7 (CXd P w) P w K mg base N qual (o4 st) f cdv A outer s H E) (O4 st) t/\t {nx:=λ_ H'=>Q .non H',rt:=Q} (start N vs) H):X3 P w K mg base (CXd P w) (k+1) f fd ps sp:=by
 obtain⟨oc,od,kV,doc,pm,an,cdv,ct,osl,rfl,lk,hcd⟩:=F.ex
 exact dW0 lk hcd S len λA outer s H vs Q E hr hsp=>hbody cdv A outer s H vs Q E hr hsp
theorem fA0{x:Str}{st:Stmt}{f:Addr}{k n m:Nat}{fb:Fs}(F:FF K mg x st ps f fd)(S:O5 N ps (o4 st))(hn:ps.length=n)(hm:N.length=m)
 (hbody:∀(cdv:zg) (A:zT) (outer:List Env) (s:zm) (H:Hp) (E:XK),N8 k (A.deeper (jJ x (o4 st) s.heap.objs.size f cdv))->DB (W7 (CXd P w) P w K mg base N x (o4 st) f cdv A outer s H E) (ZE mg E) (O4 st) fb):
 X3 P w K mg base (CXd P w) (k+1) f fd ps (spX ⟨K,mg⟩ n (t7 m fb)):=by
 refine okX F.F S (λvs H Q E h=>by rw[hn];exact h.1) λcdv A outer s H vs Q E hr h=>⟨_,(hbody cdv A outer s H E hr).h,?_⟩
 obtain⟨hl,ds,μ,G,rl,hG,p⟩:=h
 subst hm
 refine⟨_,μ,G,bJ3 rl,hG,(c7.bind p).mono λfl X0 G1 H1 x1 h1 p1=>?_⟩
 cases fl with
 |nx X9=>exact λU _=>c7.ok p1 h1 _ ofN
 |rt d=>exact λv rv=>c7.ok p1 h1 v rv
 |bk _=>exact p1.elim
 |ct _=>exact p1.elim
theorem dM2{k n:Nat}{f:Addr}(hn:ps.length=n):X3 P w K mg base (CXd P w) k f fd ps (spX ⟨K,mg⟩ n λ_=>M.stuck):=
 ⟨λvs H Q E h=>by rw[hn];exact h.1,λA outer s H args us vs Q E _ _ _ _ h=>by
  obtain⟨_,ds,μ,G,_,_,p⟩:=h
  exact p.elim⟩
variable{N:List Str}{qual:Str}{scope:Scope}{cd:zg}{A:zT}{outer:List Env}{s0:zm}{H0:Hp}{E:XK}{fa:Addr}
theorem dC1{X:Cx}{B newId initId:String}{bmB:List zg}{C:Addr}{e1:Expr}(hX:X=W7 (CXd P w) P w K mg base N qual scope fa cd A outer s0 H0 E)(hg:Gl X x)(hm:mg x=some (.ref C))(hC:bB6 base C B newId initId bmB)(ha:DA X (ZE mg E) [e1] fs)
 (hdb:(x==("__debug__" :Str))=false) (he:zy [e1] X.env= (false,eval e1 X.env)::zy [] X.env) (hpl:(yb cpos (zy [] X.env)).any (·.1)=false) (hl:∀ U G ds G',fs U G=some (.ok ds,G')->ds.length=1):
 DS X (ZE mg E) (.Raise (some (.Call (.Name x np) [e1] [] cpos)) none pos) (X6 x fs):=by
 subst hX
 refine DS.of (dE6 hg hm hC ha.h hdb he hpl) λD U H hE0=>hE0.elim λX9 μ G s h p=>?_
 have p1:=c7.bind p
 refine⟨X9,μ,G,s,h,?_⟩
 rcases r:fs X9 G with _|⟨r0,G1⟩
 ·rw[r]at p1;exact p1.elim
 · rw[r]at p1
   cases r0 with
   |error y=>exact p1
   |ok ds=>
     intro X0 H1 x1 h1 vs rv
     obtain⟨C',z1,z2⟩:=p1 X0 H1 x1 h1 X0 H1 (Ext.refl _ _) h1
     rw[hm]at z1;cases z1
     refine⟨?_,z2⟩
     rw[<-rv.length,hl _ _ _ _ r];decide
end
section
variable{M:Model}{A:zT}{E:VSP}{s:zm}{base:Heap}{env:Env}{outer:List Env}{L e:Addr}{Q:Unit->zm->Prop}
theorem eS5{T:Addr}{cls:zg}(hfr:A.frames=some (env::outer))(hl:s.heap.FunFrames base (env::outer))(hf:env.frame=some L)(ht:TrF s.heap e T cls)
 (h:∀h' h1,Lv [] e T s.heap h1->h1.objs.size=s.heap.objs.size->Lv (frs (env::outer)) e s.heap.objs.size h1 h'->TrF h' e s.heap.objs.size cls->Q () {s with heap:=h'}):zt M A (YT (.ref e) env) (λ_ s'=>zt M A (YS (.ref e) none) Q E s') E s:=by
 obtain⟨oe,vs,oT,ts,he,rfl,hd,h1,ne,hT,dT,h3⟩:=ht
 unfold YT
 simp only[hf]
 refine za (zV he hd h1 ?_)
 rw[if_pos (show (Value.ref T != Value.none)=true from by simp)]
 refine za (zV hT dT h3 ?_)
 rw[if_neg (show ¬((Value.none==xg L)=true)from by simp[xg])]
 refine za (xc hT dT (jv.mp h3).1 ?_)
 have other:∀b,b≠T->(s.heap.update T (jS (·.setIfInBounds 3 Value.none))).get? b=s.heap.get? b:=λb hb=>jf _ _ (Ne.symm hb)
 have nT:∀b o,s.heap.get? b=some o->(∀vs,o.data≠ .fields vs)->b≠T:=λb o hb k q=>by
  rw[q,hT]at hb;cases hb;exact k ts dT
 have sz:(s.heap.update T (jS (·.setIfInBounds 3 Value.none))).objs.size=s.heap.objs.size:=Xu ..
 refine aU9 (s:={s with heap:=s.heap.update T (jS (·.setIfInBounds 3 Value.none))}) hfr (hl.of_keeps λb o hb k=>⟨o,(other b (nT b o hb k)).trans hb,rfl⟩) hf ((other e (Ne.symm ne)).trans he) hd (jv.mp h1).1 λh' l t=>?_
 dsimp only at l t
 rw[sz]at l t
 exact h h' _ ⟨λb o q _ _ nb=>(other b nb).trans q,λb o q hb=>nomatch hb⟩ sz l t
theorem fA3{T:Addr}{cls:zg}(ht:TrF s.heap e T cls)(h:∀h',Lv [] e T s.heap h'->TrF h' e T cls->Q () {s with heap:=h'}):zt M A (YS (.ref e) none) Q E s:=by
 obtain⟨oe,vs,oT,ts,he,rfl,hd,h1,ne,hT,dT,h3⟩:=ht
 have other:∀b,b≠T->(s.heap.update T (jS (·.setIfInBounds 3 ((none:Option Addr).elim Value.none λf=>xg f)))).get? b=s.heap.get? b:=λb hb=>jf _ _ (Ne.symm hb)
 unfold YS
 refine za (zV he hd h1 ?_)
 rw[if_pos (show (Value.ref T != Value.none)=true from by simp)]
 refine xc hT dT (jv.mp h3).1 (h _ ⟨λb o q _ _ nb=>(other b nb).trans q,λb o q hb=>nomatch hb⟩ ?_)
 have d3:=yE dT (·.setIfInBounds 3 ((none:Option Addr).elim Value.none λf=>xg f))
 exact⟨_,_,_,_,(other e (Ne.symm ne)).trans he,rfl,hd,h1,ne,yi _ hT (xy d3),d3,by simp[(jv.mp h3).1]⟩
end
section
variable{X:Cx}{pins:PNS}{U S:St}{H:Hp}{s:zm}{a T:Addr}{cls:zg}
theorem cV0{h':Heap}(I:Inv X pins U H s)(ha:X.WY.heap.get? a=none)(hT:X.WY.heap.get? T=none)(pn:∀p∈X.pn++pins,p.1≠a/\p.1≠T)(na:H a=none)(nT:H T=none)(tr:TrF s.heap a T cls)
 (kp:∀b o,s.heap.get? b=some o->b≠a->b≠T->b∉frs X.stack->h'.get? b=some o) (sl:∀b o,s.heap.get? b=some o->b≠a->b≠T->b∈frs X.stack->∃sl,h'.get? b=some {o with slots:=sl}):Inv X pins U H {s with heap:=h'}:=by
 obtain⟨oe,vs,oT,ts,he,hc,hd,h1,ne,hTT,dT,h3⟩:=tr
 have df:∀b o,s.heap.get? b=some o->(∀vs,o.data≠ .fields vs)->b≠a/\b≠T:=λb o q k=>⟨λz=>by rw[z,he]at q;cases q;exact k _ hd,λz=>by rw[z,hTT]at q;cases q;exact k _ dT⟩
 have any:∀b o,s.heap.get? b=some o->b≠a->b≠T->∃sl,h'.get? b=some {o with slots:=sl}:=λb o q x y=>by
  by_cases hb:b∈frs X.stack
  ·exact sl b o q x y hb
  ·exact⟨o.slots,kp b o q x y hb⟩
 have nl:∀b o,X.WY.heap.get? b=some o->b∉X.fs->b∉frs X.stack:=λb o q hb z=>by
  rcases zi.mp (I.stkSub b z)with e|z
  ·exact absurd (zl q) (by have:=I.ok.above;rw[e];exact Nat.not_lt.mpr this)
  ·exact hb z
 have n0:∀b o,X.WY.heap.get? b=some o->b≠a/\b≠T:=λb o q=>⟨λz=>(by rw[z,ha]at q;cases q),λz=>(by rw[z,hT]at q;cases q)⟩
 have cel:∀c v,s.heap.IsCell c v->h'.IsCell c v:=λc v ⟨o,q,d⟩=>by
  obtain⟨x,y⟩:=df c o q (λvs z=>by rw[d]at z;cases z)
  obtain⟨l,q'⟩:=any c o q x y
  exact⟨_,q',d⟩
 obtain⟨m,hN,hl⟩:=I.loc
 refine⟨I.ok,I.os,I.bare,⟨λb o q n hb hx=>?_,λb o q n hb hx=>?_,I.base.free,λb o q hx=>?_,I.base.tups,I.base.frzs,I.base.tbls⟩,⟨m,?_,λi x v q1 q2 q3=>?_⟩,λx c q=>?_,I.free,I.freeC,λp hp=>?_,?_,I.len⟩
 ·exact kp b o (I.base.keep b o q n hb hx) (n0 b o q).1 (n0 b o q).2 (nl b o q hb)
 · obtain⟨l1,q1⟩:=I.base.slot b o q n hb hx
   obtain⟨l2,q2⟩:=any b _ q1 (n0 b o q).1 (n0 b o q).2
   exact⟨l2,q2⟩
 · obtain⟨o1,q1⟩:=I.base.there b o q hx
   obtain⟨l2,q2⟩:=any b _ q1 (n0 b o q).1 (n0 b o q).2
   exact⟨_,q2⟩
 · obtain⟨o,es,ep,ho,hd,hr⟩:=hN
   obtain⟨x,y⟩:=df _ o ho (λvs z=>by rw[hd]at z;cases z)
   obtain⟨l,q'⟩:=any _ o ho x y
   exact⟨_,es,ep,q',hd,hr⟩
 · obtain⟨u,r,k⟩:=hl i x v q1 q2 q3
   refine⟨u,r,?_⟩
   rcases k with k|⟨k,c,k1,k2⟩
   ·exact .inl k
   ·exact .inr ⟨k,c,k1,cel c _ k2⟩
 · obtain⟨v,k⟩:=I.cell x c q
   exact⟨v,cel c v k⟩
 · obtain⟨q1,q2,q3,q4,q5⟩:=I.pin p hp
   refine⟨kp _ _ q1 (pn p hp).1 (pn p hp).2 λz=>?_,q2,q3,q4,q5⟩
   rcases zi.mp (I.stkSub _ z)with e|z
   ·exact q3 e
   ·exact q4 z
 · refine dE3 I.hok λb u o e q=>kp b u q (λz=>?_) (λz=>?_) λz=>?_
   ·rw[z,na]at e;cases e
   ·rw[z,nT]at e;cases e
   ·rw[I.stkFree b z]at e;cases e
def EC(X:Cx)(pins:PNS)(S:St)(R:XK):VSP:=λe s'=>∃a T cls H',e= .ref a/\Inv X pins S H' s'/\X.WY.heap.get? a=none/\X.WY.heap.get? T=none/\(∀p∈X.pn++pins,p.1≠a/\p.1≠T)/\H' a=none/\H' T=none/\TrF s'.heap a T cls/\R cls none H'
def CxT(X:Cx)(pins:PNS)(S:St)(R:XK):Cx:={X with xe:=EC X pins S R,pn:=X.pn++pins}
variable{R:XK}
theorem eW6(k:X.Ok):(CxT X pins S R).Ok:=⟨k.mod,k.kind,k.glob,k.blt,k.above,k.inj,k.has,k.cab,k.hd,k.frames,k.stk,k.exf,k.bs,k.bsz,k.noex,k.exfs,k.funs,k.frf,k.gd⟩
theorem eK2(I:Inv X pins U H s):Inv (CxT X pins S R) [] U H s:=⟨eW6 I.ok,I.os,I.bare,I.base,I.loc,I.cell,I.free,I.freeC,λp hp=>I.pin p (by rw[jC]at hp;exact hp),I.hok,I.len⟩
theorem eN7(k:(CxT X pins S R).Ok):X.Ok:=⟨k.mod,k.kind,k.glob,k.blt,k.above,k.inj,k.has,k.cab,k.hd,k.frames,k.stk,k.exf,k.bs,k.bsz,k.noex,k.exfs,k.funs,k.frf,k.gd⟩
theorem bA6{p1:PNS}(I:Inv (CxT X pins S R) p1 U H s):Inv X pins U H s:=⟨eN7 I.ok,I.os,I.bare,I.base,I.loc,I.cell,I.free,I.freeC,λp hp=>I.pin p (yR _ hp),I.hok,I.len⟩
theorem dN5{p1:PNS}{e:zg}{s':zm}(hex:X.ex= [])(I:Inv (CxT X pins S R) p1 S H s)(h:CXd X.prog X.w X.stack H s R e s'):EC X pins S R e s':=by
 obtain⟨a,T,cls,H',rfl,ha,hT,na,nT,os,bare,un,hok,tr,hE⟩:=h
 have I:=bA6 I
 have up:∀b,s.heap.get? b=none->X.WY.heap.get? b=none:=λb q=>by
  rcases e:X.WY.heap.get? b with _|o
  ·rfl
  ·obtain⟨o',z⟩:=I.base.there b o e (by rw[hex];exact λz=>nomatch z);rw[q]at z;cases z
 refine⟨a,T,cls,H',rfl,I.call' os un hok bare (λb hb=>nomatch hb),up a ha,up T hT,λp hp=>⟨λz=>?_,λz=>?_⟩,na,nT,tr,hE⟩
 ·have:=(I.pin p hp).1;rw[z,ha]at this;cases this
 ·have:=(I.pin p hp).1;rw[z,hT]at this;cases this
end
noncomputable def cC2(x:Str)(f g:Fs):Fs:=λU G=>match f U G with
 |some (.error y,G')=>if y=x then g U G' else none
 |r=>r
noncomputable def CxH(X:Cx)(a:Addr):Cx:={X with A:=X.A.mark (some (.ref a)),calm:=false,xe:=λ_ _=>False}
section
variable{X:Cx}{pins:PNS}{U S:St}{H:Hp}{s:zm}{a T C:Addr}{x:Str}
theorem dW4(I:Inv X pins U H s):Inv (CxH X a) pins U H s:=⟨(λk=>⟨k.mod,k.kind,k.glob,k.blt,k.above,k.inj,k.has,k.cab,λz=>(nomatch z),k.frames,k.stk,k.exf,k.bs,k.bsz,k.noex,k.exfs,k.funs,k.frf,k.gd⟩:X.Ok->(CxH X a).Ok) I.ok,I.os,I.bare,I.base,I.loc,I.cell,I.free,I.freeC,I.pin,I.hok,I.len⟩
theorem bO2(k:X.Ok)(I:Inv (CxH X a) pins U H s):Inv X pins U H s:=⟨k,I.os,I.bare,I.base,I.loc,I.cell,I.free,I.freeC,I.pin,I.hok,I.len⟩
structure BAt(X:Cx)(body:List Stmt)(f:Fs):Prop where
 h:∀(pins:PNS) (S:St) (R:XK) (s:zm) (H:Hp) (D:bP4),Inv (CxT X pins S R) [] S H s->aY1 (wc X) (ZE X.mg R) f D S H->zt (zB X.prog X.w) X.A (execs body X.env) (SP (CxT X pins S R) [] D) (EC X pins S R) s
theorem eI2{B newId initId:String}{bmB:List zg}{np hp pos:Pos}{body suite:List Stmt}{b₀:Stmt}{f g:Fs}(hst:X.stack=X.env::X.outer)(hfr:X.env.frame=some X.env.locals)(hex:X.ex= [])(hg:Gl X x)(hm:X.mg x=some (.ref C))(hC:bB6 X.base C B newId initId bmB)(hdb:(x==("__debug__" :Str))=false)
 (hb:BAt X body f) (hs:∀a,DB (CxH X a) ZF (b₀::suite) g):DS X ZF (.Try body [.ExceptHandler (some (.Name x np)) none (b₀::suite) hp] [] [] pos) (cC2 x f g):=by
 refine⟨λpins s U H D I hL=>?_⟩
 obtain⟨X9,μ,G,sr,hr,p⟩:=hL
 obtain⟨nm,q,Nn,bs,bm,hdct,sn,sub,ab,col,dd,k0,k1,k2,k3,k5,mN,q1,q2,q3,q4,q5⟩:=hC.ex
 refine wpAny_Try_except (jx (hb.h pins U (λc _ H1=>c= .ref C/\∃ X0 G1,Ext μ H X0 H1/\o5 (wc X) X0 G1 H1/\c7 (wc X) ZF X0 H1 (g X9 G1) (λfl X2 _ H'=>aY0 (wc X) D fl X2 H')) s H D (eK2 I) ⟨X9,μ,G,sr,hr,?_⟩) (λfl s1 h1=>?_) (λe s1 h1=>?_))
 · unfold cC2 at p
   rcases r:f X9 G with _|⟨r0,G1⟩
   ·rw[r]at p;exact p
   · rw[r]at p
     cases r0 with
     |ok fl=>exact p
     |error y=>
       intro X0 H1 x1 h1
       dsimp only at p
       split at p
       · rename_i e;subst e
         exact⟨C,hm,rfl,X0,G1,x1,h1,p.from x1⟩
       ·exact p.elim
 · cases fl with
   |next=>
     obtain⟨X1,H',I',k⟩:=h1
     exact xn ⟨X1,H',bA6 I',k⟩
   |brk=>
     obtain⟨X1,H',I',k⟩:=h1
     exact⟨X1,H',bA6 I',k⟩
   |cont=>
     obtain⟨X1,H',I',k⟩:=h1
     exact⟨X1,H',bA6 I',k⟩
   |ret u=>
     obtain⟨v,X1,H',I',k⟩:=h1
     exact⟨v,X1,H',bA6 I',k⟩
 · obtain⟨a,T,cls,H',rfl,I',ha,hT,pn,na,nT,tr,rfl,X0,G1,ex,hr1,p1⟩:=h1
   have kk:=I'.ok
   have fr:X.A.frames=some (X.env::X.outer):=hst▸I'.ok.frames
   have st:s1.heap.FunFrames X.base (X.env::X.outer):=hst▸I'.stack
   refine eS5 (base:=X.base) fr st hfr tr λh' h1 l1 sz l2 t2=>?_
   rw[<-hst]at l2
   have kp:∀b o,s1.heap.get? b=some o->b≠a->b≠T->b∉frs X.stack->h'.get? b=some o:=λb o q na nT nf=>l2.keep b o (l1.keep b o q (λz=>nomatch z) na nT) nf na (zE (zl q))
   have sl:∀b o,s1.heap.get? b=some o->b≠a->b≠T->b∈frs X.stack->∃sl,h'.get? b=some {o with slots:=sl}:=λb o q na nT nf=>l2.slot b o (l1.keep b o q (λz=>nomatch z) na nT) nf na (zE (zl q))
   have I2:Inv X pins U H' {s1 with heap:=h'}:=cV0 I' ha hT pn na nT tr kp sl
   refine wpAny_handleBy_cons (codeAny_handlers_test (aM4 (X:=CxH X a) (dW4 I2) hg hm ?_ hdb)) (by intro q;cases q)
   obtain⟨oe,vs,oT,ts,he,hc,_⟩:=id t2
   refine wpAny_excMatches_sub_self (I2.bk _ _ q1) he hc q5 ?_
   refine codeAny_handlers_suite (fA3 t2 λh3 l3 t3=>?_)
   have I3:Inv X pins U H' {s1 with heap:=h3}:=cV0 I' ha hT pn na nT tr (λb o q na nT nf=>l3.keep b o (kp b o q na nT nf) (λz=>nomatch z) na (zE (zl q))) λb o q na nT nf=>by
    obtain⟨l,z⟩:=sl b o q na nT nf
    exact⟨l,l3.keep b _ z (λz=>nomatch z) na (zE (zl q))⟩
   refine jx ((hs a).h pins _ U H' D (dW4 I3) ⟨X9,X0,G1,sr.mono ex,hr1,p1⟩) (λfl s4 h4=>?_) λ_ _ z=>z.elim
   cases fl with
   |next=>
     obtain⟨X1,H',I',k⟩:=h4
     exact⟨X1,H',bO2 kk I',k⟩
   |brk=>
     obtain⟨X1,H',I',k⟩:=h4
     exact⟨X1,H',bO2 kk I',k⟩
   |cont=>
     obtain⟨X1,H',I',k⟩:=h4
     exact⟨X1,H',bO2 kk I',k⟩
   |ret u=>
     obtain⟨v,X1,H',I',k⟩:=h4
     exact⟨v,X1,H',bO2 kk I',k⟩
end
noncomputable def tAt(S:St)(t:TE):TE:=λU H Q=>U=S/\t U H Q
section
variable{X:Cx}{pins:PNS}{U S:St}{H:Hp}{s:zm}{a T C:Addr}{x:Str}{R:XK}
structure EAt(X:Cx)(e:Expr)(f:Fe):Prop where
 h:∀(pins:PNS) (S:St) (R:XK),PE (CxT X pins S R) e (tAt S (aD5 (wc X) (ZE X.mg R) f))
theorem cY6(hex:X.ex= [])(hF:X3 X.prog X.w X.K X.mg X.base (CXd X.prog X.w) k f fd ps (spX (wc X) n F))(hr:N8 k X.A)(hg:Gl X x)(hm:X.mg x=some (.ref f))(hk:jE X.K (.ref f)=true)(hb:aO9 X.K fd ps [])
 (ha:∀pins S R,DA (CxT X pins S R) (ZE X.mg R) (e::es) fs)
 (hdb:(x==("__debug__" :Str))=false) (he:zy (e::es) X.env= (false,eval e X.env)::zy es X.env) (hpl:(yb pos (zy es X.env)).any (·.1)=false):
 EAt X (.Call (.Name x p) (e::es) [] pos) (q12 (fnZ n F) fs):=by
 refine⟨λpins S R p1 s U H Q I hh=>?_⟩
 obtain⟨rfl,X9,μ,G,sr,hG,pp⟩:=hh
 refine yM (aM4 (X:=CxT X pins U R) I hg hm ?_ hdb)
 refine xG (h₀:=X.base) I.ok.mod.kin hk (thn ((ha pins U R).h pos p1 s U H (λvs H1=>spX (wc X) n F (vs++[]) H1 Q R) I ⟨X9,μ,G,sr,hG,(c7.bind pp).mono λds' X0 G1 H1 x' h1 p1 vs rv=>?_⟩) λus s1 hE1=>hE1.elim λvs H1 I1 r q=>⟨I1.kIn,?_⟩) he hpl
 · obtain⟨hl,p2⟩:=bD3 p1
   rw[jC]
   exact⟨by rw[<-rv.length];exact hl,ds',X0,G1,rv,h1,p2⟩
 · have r2:o6 (vs++[]) (us++[]):=r.append .nil
   have hl:(us++[]).length=ps.length:=by rw[<-r2.length];exact hF.len _ _ _ _ q
   refine wpAny_call (YB (hF.run X.A X.stack s1 H1 ⟨us, []⟩ (us++[]) (vs++[]) Q R hr I1.env0 (hb s1 us I1.kIn hl) r2 q) λr s' hq=>?_)
   cases r with
   |error e=>exact dN5 hex I1 hq
   |ok fl=>
     cases fl with
     |ret u=>exact I1.after hq
     |next=>exact jG hq
     |brk=>exact jG hq
     |cont=>exact jG hq
theorem dP2(h:EAt X e f)(hs:zy [e] X.env= (false,eval e X.env)::zy [] X.env):EAt X (.List [e] pos) (O3 (q10 f q11)):=by
 refine⟨λpins S R=>PE.mono (dE7 (cM0 (h.h pins S R) cY8 hs)) λU H Q hh=>?_⟩
 obtain⟨rfl,X9,μ,G,s,h,p⟩:=hh
 refine⟨rfl,X9,μ,G,s,h,(c7.bind (c7.bind p)).mono λd X0 G1 H1 x' h1 p1 v rv=>?_⟩
 have p2:=c7.ok (c7.bind p1) h1
 have p3:=c7.ok p2 h1
 show (_/\∀q,H1 q=none->Q (.ref q) (upd H1 q (.lst [v])))
 split at p3
 · rename_i hz
   exact⟨hz,λq hq=>R8 (vs:= [v]) h1 (show m6 (wc X) X0 H1 [d] [v] from⟨v, [],rfl,rv,rfl⟩) p3 q hq⟩
 ·exact p3.elim
theorem dS3{gg}(he:EAt X e fa)(hg:∀pins S R,DG (CxT X pins S R) (ZE X.mg R) tg gg)(hs:Jf [tg] e pos.line X.env=pure false)(hw:Jg [tg] e X.env=pure none)
 (h1:(yw [tg] X.env).map (·.2)= [Zg tg X.env]):BAt X [.Assign [tg] e pos] (J7 fa gg):=by
 refine⟨λpins S R s H D I hh=>?_⟩
 have w:=dJ6 (X:=CxT X pins S R) (he.h pins S R) (hg pins S R).h hs hw h1
 refine YQ (thn (w [] s S H D I ⟨rfl,?_⟩) λfl s1 k=>?_)
 · obtain⟨X9,μ,G,s,h,p⟩:=hh
   exact⟨X9,μ,G,s,h,(c7.bind p).mono λd X0 G1 H1 x' h1 p1 v rv=>
    ⟨d,X9,X0,G1,rv,s.mono x',h1,(c7.bind p1).mono λdσ2 WX G2 H2 x2 h2 p2 WL s2=>c7.ok p2 h2 WL s2⟩⟩
 · cases fl with
   |next=>exact xn k
   |_=>exact k
end
noncomputable def VE:List zg:= [.type "ValueError",.type "Exception",.type "BaseException",.type "object"]
theorem bB6.of{K:zc}{h:Heap}{C:Addr}(X:K.In h)(q:xv K C VE "ValueError.__new__" =true):bB6 h C "ValueError" "ValueError.__new__" "ValueError.__init__" VE:=by
 refine⟨PySem.F.excBase_ValueError,?_⟩
 unfold xv at q
 split at q
 · rename_i dd cd sl ho
   split at q
   · rename_i C' bm k0 k1 k2 k3 n k5 hm hs
     simp only[zQ,beq_iff_eq,Bool.not_eq_true']at q
     obtain⟨⟨⟨⟨⟨rfl,rfl⟩,hdel⟩,ht⟩,hok⟩,hni⟩:=q
     obtain⟨nm,bs,mro,ns,qn,hd,sn,sub,ab,col,del⟩:=cd
     dsimp only at hm hdel hok hni
     subst hm hdel
     have hsl:sl= #[k0,k1,k2,k3,some (.builtin "ValueError.__new__"),k5]:=by
      obtain⟨l⟩:=sl
      simp only at hs
      rw[hs]
     subst hsl
     have T:=PySem.W.tail_of_in X ht
     exact⟨nm,qn,ns,bs,bm,hd,sn,sub,ab,col,dd,k0,k1,k2,k3,k5,_,X _ _ ho,.of_isNs (PySem.W.isNs_of_in X hok),PySem.W.nsMap_none_of_in X hok hni,T,T.hasType (by decide)⟩
   ·cases q
 ·cases q
structure cN5(K:zc)(mg:Str->Option zg)(x:Str):Prop where
 ex:∃C,mg x=some (.ref C)/\xv K C VE "ValueError.__new__" =true
theorem cN5.of{K:zc}{mg:Str->Option zg}{x:Str}{h:Heap}{C:Addr}(X:K.In h)(G:h.Ns zS mg)(e:yx K zS x=some (some (.ref C)))(q:xv K C VE "ValueError.__new__" =true):cN5 K mg x:=⟨C,xN X G e,q⟩
structure XI(K:zc)(x:Str):Prop where
 ex:∃C,yx K zS x=some (some (.ref C))/\xv K C VE "ValueError.__new__" =true
theorem XI.of{K:zc}{x:Str}{C:Addr}(e:yx K zS x=some (some (.ref C)))(q:xv K C [.type "ValueError",.type "Exception",.type "BaseException",.type "object"] "ValueError.__new__" =true):XI K x:=⟨C,e,q⟩
theorem XI.ok{K:zc}{mg:Str->Option zg}{x:Str}{h:Heap}(c:XI K x)(X:K.In h)(G:h.Ns zS mg):cN5 K mg x:=by
 obtain⟨C,e,q⟩:=c.ex
 exact .of X G e q
structure aJ1(F:List D->M D)(n:Nat)(x:Str)(P:zC)(w:zN)(K:zc)(mg:Str->Option zg)(base:Heap)(k:Nat):Prop where
 ex:∃f fd ps,X3 P w K mg base (CXd P w) k f fd ps (spX ⟨K,mg⟩ n F)/\mg x=some (.ref f)/\jE K (.ref f)=true/\aO9 K fd ps []
noncomputable abbrev CkZ(E:Ev)(F:List D->M D)(n:Nat)(x:Str)(k:Nat):Prop:=aJ1 F n x E.P E.w E.K E.mg E.base k
section
variable{E:Ev}{x:Str}{st:Stmt}{k n m:Nat}{fb:Fs}
theorem aT3(N ps:List Str)(X:EvX E)(Y:FH E.K x st)(S:O5 N ps (o4 st))(b:BA x st ps)(hn:ps.length=n)(hm:N.length=m)
 (hb:O5 N ps (o4 st)->∀f cdv A outer s H Z,N8 k (A.deeper (jJ x (o4 st) s.heap.objs.size f cdv))->DB (W7 (CXd E.P E.w) E.P E.w E.K E.mg E.base N x (o4 st) f cdv A outer s H Z) (ZE E.mg Z) (O4 st) fb):CkZ E (t7 m fb) n x (k+1):=by
 obtain⟨h,X,G⟩:=X.ex
 obtain⟨f,fd,c⟩:=Y.ff X G b
 exact⟨f,fd,ps,fA0 c S hn hm (hb S f),c.m,c.F.kp,c.b⟩
theorem cO7(ps:List Str)(X:EvX E)(Y:FH E.K x st)(b:BA x st ps)(hn:ps.length=n):CkZ E (λ_=>M.stuck) n x k:=by
 obtain⟨h,X,G⟩:=X.ex
 obtain⟨f,fd,c⟩:=Y.ff X G b
 exact⟨f,fd,ps,dM2 hn,c.m,c.F.kp,c.b⟩
end
theorem c7.zmono{α:Type}{c:Wc}{Z Z':XC}{μ:List Addr}{H:Hp}{r:Option (Except Str α×DH)}{K:α->List Addr->DH->Hp->Prop}(h:c7 c Z μ H r K)(k:∀x μ G H,Z x μ G H->Z' x μ G H):c7 c Z' μ H r K:=by
 match r,h with
 |some (.ok a,G'),h=>exact h
 |some (.error x,G'),h=>exact λWX H2 p2 e=>k _ _ _ _ (h WX H2 p2 e)
structure cZ0(X:Cx)(Z:XC):Prop where
 ex:∃E:XK,bE0 (CXd X.prog X.w) X E/\∀x μ G H,Z x μ G H->ZE X.mg E x μ G H
theorem eD1{X:Cx}:cZ0 X ZF:=⟨λ_ _ _=>False,λ_ _ _ _ _ _ _ h=>(by obtain⟨_,_,_,_,_,_,_,_,_,_,_,_,_,_,z⟩:=h;exact z.elim),λ_ _ _ _ z=>z.elim⟩
section
variable{P:zC}{w:zN}{K:zc}{mg:Str->Option zg}{base:Heap}{N:List Str}{qual:Str}{scope:Scope}{cd:zg}{A:zT}{outer:List Env}{s0:zm}{H0:Hp}{E:XK}{fa:Addr}
theorem eH0:cZ0 (W7 (CXd P w) P w K mg base N qual scope fa cd A outer s0 H0 E) (ZE mg E):=⟨E,eQ8,λ_ _ _ _ z=>z⟩
theorem cT2{e1:Expr}(hC:cN5 K mg x)(hg:Gl (W7 (CXd P w) P w K mg base N qual scope fa cd A outer s0 H0 E) x)(ha:DA (W7 (CXd P w) P w K mg base N qual scope fa cd A outer s0 H0 E) (ZE mg E) [e1] (q10 fe q11))
 (hdb:(x==("__debug__" :Str))=false) (hs: [e1].all K7=true):DS (W7 (CXd P w) P w K mg base N qual scope fa cd A outer s0 H0 E) (ZE mg E) (.Raise (some (.Call (.Name x np) [e1] [] cpos)) none pos) (X6 x (q10 fe q11)):=by
 obtain⟨C,hm,qq⟩:=hC.ex
 rw[jl,zQ]at hs
 refine⟨λpins s U H D I hL=>(dC1 rfl hg hm (bB6.of I.ok.mod.kin qq) ha hdb (q13 hs.1) (by rw[R5];exact V9 hs.2) λU G ds G' h=>?_).h pins s U H D I hL⟩
 unfold q10 q11 at h
 simp only[M.bind_eq]at h
 rcases q:fe U G with _|⟨r,G1⟩
 ·rw[q]at h;cases h
 · rw[q]at h
   cases r with
   |error y=>cases h
   |ok d=>cases h;rfl
end
section
variable{X:Cx}{Z:XC}
theorem cR5(hT:cZ0 X Z)(hF:∃k kk,aJ1 F n x X.prog X.w X.K X.mg X.base k/\N8 kk X.A/\k<=kk)(hg:Gl X x)(ha:DA X Z (e::es) fs)(hdb:(x==("__debug__" :Str))=false)(hs:(e::es).all K7=true):
 DE X Z (.Call (.Name x p) (e::es) [] pos) (q12 (fnZ n F) fs):=by
 obtain⟨k,kk,hF,hr,hk⟩:=hF
 obtain⟨f,fd,ps,h1,h2,h3,h4⟩:=hF.ex
 obtain⟨E,hp,hz⟩:=hT.ex
 rw[jl,zQ]at hs
 refine DE.of (cF6 (E:=E) h1 (hr.mono hk) hg h2 h3 h4 .nil hp ha.h hdb (q13 hs.1) (by rw[R5];exact V9 hs.2)) λU H Q hE0=>hE0.elim λX9 μ G s h p=>?_
 refine⟨X9,μ,G,s,h,(c7.bind p).mono λds' X0 G1 H1 x' h1 p1 vs rv=>?_⟩
 obtain⟨hl,p2⟩:=bD3 p1
 show spX (wc X) n F (vs++[]) H1 Q E
 rw[jC]
 exact⟨by rw[<-rv.length];exact hl,ds',X0,G1,rv,h1,p2.zmono hz⟩
def aE0(i n:Nat)(tab:Str->Option (List D->M D))(fs:DSt->M (List D)):Fe:=λU=>match U[i]? with
 |some (some (.fn x))=>match tab x with
   |some F=>fs U >>= fnZ n F
   |none=>M.stuck
 |_=>M.stuck
theorem cS0{α:Type}{X9:DSt}{c:Wc}{H:Hp}{G:DH}{K:D->List Addr->DH->Hp->Prop}(p:c7 c Z μ H (aE0 i n tab fs X9 G) K):
 ∃x F,X9[i]? =some (some (.fn x))/\tab x=some F/\c7 c Z μ H ((fs X9 >>= fnZ n F) G) K:=by
 delta aE0 at p
 rcases hx:X9[i]? with _|_|d
 ·rw[hx]at p;exact p.elim
 ·rw[hx]at p;exact p.elim
 · rw[hx]at p
   rcases d with _|_|_|_|_|_|x|_<;>try exact p.elim
   have p:c7 c Z μ H ((match tab x with|some F=>fs X9 >>= fnZ n F|none=>M.stuck:M D) G) K:=p
   rcases hF:tab x with _|F
   ·rw[hF]at p;exact p.elim
   ·rw[hF]at p;exact⟨x,F,rfl,hF,p⟩
theorem cR2{e:Expr}{y:Str}(hTh:cZ0 X Z)(hT:∀x F,tab x=some F->∃k kk,aJ1 F n x X.prog X.w X.K X.mg X.base k/\N8 kk X.A/\k<=kk)(hv:PE X (.Name y p) (dL0 i))(ha:DA X Z (e::es) fs)(hs:(e::es).all K7=true):
 DE X Z (.Call (.Name y p) (e::es) [] pos) (aE0 i n tab fs):=⟨by
 intro pins s U H Q I h
 obtain⟨X9,μ,G,sr,hr,pp⟩:=h
 obtain⟨E,hp,hz⟩:=hTh.ex
 obtain⟨x,F,hx,hF,pp⟩:=cS0 (α:=D) pp
 obtain⟨k,kk,hC,hrm,hk⟩:=hT x F hF
 obtain⟨f,fd,ps,f1,f2,f3,f4⟩:=hC.ex
 rw[jl,zQ]at hs
 obtain⟨v,e1,r⟩:=sr.2 i _ hx
 unfold d7 at r
 obtain⟨a,ea,rfl⟩:=r
 have ea:X.mg x=some (.ref a):=ea
 rw[f2]at ea
 cases ea
 refine yM (thn (hv pins s U H (λv' H'=>v'= .ref f/\H'=H) I ⟨_,e1,rfl,rfl⟩) λu s1 ⟨v',H',I1,rv,e2,e3⟩=>?_)
 subst e2 e3
 cases rv
 refine xG (h₀:=X.base) I1.ok.mod.kin f3 (thn (ha.h pos pins s1 U H' (λvs H2=>spX (wc X) n F vs H2 Q E) I1 ⟨X9,μ,G,sr,hr,(c7.bind pp).mono λds' X0 G1 H1 x' h1 p1 vs rv=>?_⟩) λus s2 ⟨vs,H2,I2,r2,q2⟩=>⟨I2.kIn,?_⟩) (q13 hs.1) (by rw[R5];exact V9 hs.2)
 · obtain⟨hl,p2⟩:=bD3 p1
   exact⟨by rw[<-rv.length];exact hl,ds',X0,G1,rv,h1,p2.zmono hz⟩
 ·exact cF0 (dvs:= []) (ds:= []) f1 (hrm.mono hk) f4 .nil hp I2 r2 (by rw[jC];exact q2)⟩
theorem cA8(hTh:cZ0 X Z)(ha:∃k kk,aJ1 Fa n a X.prog X.w X.K X.mg X.base k/\N8 kk X.A/\k<=kk)(hb:∃k kk,aJ1 Fb n b X.prog X.w X.K X.mg X.base k/\N8 kk X.A/\k<=kk)
 (hN:X.N[i]? =some y) (hv:Vis X.env.scope y) (hd:(y==("__debug__" :Str))=false) (hcd:(y==("__classdict__" :Str))=false) (hs:(e::es).all K7=true) (hA:DA X Z (e::es) fs):
 DE X Z (.Call (.Name y p) (e::es) [] pos) (aE0 i n (aV7 a b Fa Fb) fs):=cR2 hTh (λx F h=>by
 unfold aV7 at h
 split at h
 ·rename_i k;cases h;rw[k];exact ha
 · split at h
   ·rename_i k;cases h;rw[k];exact hb
   ·cases h) (cE6 hN hv hd hcd) hA hs
theorem dN7(hF:∃F n k,aJ1 F n x X.prog X.w X.K X.mg X.base k)(hg:Gl X x)(hdb:(x==("__debug__" :Str))=false):DE X Z (.Name x p) (cE (.fn x)):=⟨by
 intro pins s U H Q I h
 obtain⟨F,n,k,hF⟩:=hF
 obtain⟨f,fd,ps,f1,f2,f3,f4⟩:=hF.ex
 obtain⟨X9,μ,G,sr,hr,pp⟩:=h
 exact aM4 I hg f2 ⟨.ref f,H,I,rfl,c7.ok pp hr _ ⟨f,f2,rfl⟩⟩ hdb⟩
theorem cS6(hex:X.ex= [])(hF:∃k kk,aJ1 F n x X.prog X.w X.K X.mg X.base k/\N8 kk X.A/\k<=kk)(hg:Gl X x)(ha:∀pins S R,DA (CxT X pins S R) (ZE X.mg R) (e::es) fs)(hdb:(x==("__debug__" :Str))=false)(hs:(e::es).all K7=true):
 EAt X (.Call (.Name x p) (e::es) [] pos) (q12 (fnZ n F) fs):=by
 obtain⟨k,kk,hF,hr,hk⟩:=hF
 obtain⟨f,fd,ps,h1,h2,h3,h4⟩:=hF.ex
 rw[jl,zQ]at hs
 exact cY6 hex h1 (hr.mono hk) hg h2 h3 h4 ha hdb (q13 hs.1) (by rw[R5];exact V9 hs.2)
theorem dS4{np hp pos:Pos}{body suite:List Stmt}{b₀:Stmt}{f g:Fs}(hst:X.stack=X.env::X.outer)(hfr:X.env.frame=some X.env.locals)(hex:X.ex= [])(hC:cN5 X.K X.mg x)(hg:Gl X x)(hdb:(x==("__debug__" :Str))=false)
 (hb:BAt X body f) (hs:∀a,DB (CxH X a) ZF (b₀::suite) g):DS X ZF (.Try body [.ExceptHandler (some (.Name x np)) none (b₀::suite) hp] [] [] pos) (cC2 x f g):=by
 obtain⟨C,hm,q⟩:=hC.ex
 exact⟨λpins s U H D I hL=>(eI2 hst hfr hex hg hm (bB6.of I.ok.mod.kin q) hdb hb hs).h pins s U H D I hL⟩
end
def bY8(f:Fe):Fe:=λU=>do
 match <-f U with
 | .str z=>if (xf z).length<=zd then pure (.str (xf z))else M.stuck
 |_=>M.stuck
def aY6:List Fe->Str->Fe
 |[],acc=>λ_=>if acc.length<=zd then pure (.str acc)else M.stuck
 |f::r,acc=>λU=>do
   match <-f U with
   | .str y=>if (acc++y).length<=zd then aY6 r (acc++y) U else M.stuck
   |_=>M.stuck
section
variable{X:Cx}{Z:XC}
theorem dU8(he:DE X Z e f):DE X Z (.FormattedValue e 114 none pos) (bY8 f):=⟨by
 intro pins s U H Q I h
 obtain⟨X9,μ,G,sr,hr,p⟩:=h
 refine wpAny_FormattedValue_repr (thn (he.h pins s U H (λv H1=>∃z,v= .str z/\(xf z).length<=zd/\Q (.str (xf z)) H1) I ⟨X9,μ,G,sr,hr,(c7.bind p).mono λd X0 G1 H1 x' h1 p1 v rv=>?_⟩) λu s1 hE=>hE.elim λv H1 I1 r q=>?_)
 · rcases d with _|_|_|z|_|_|_|_<;>try exact p1.elim
   dsimp only at p1
   split at p1
   · rename_i hz
     rw[aE6 rv]
     exact⟨z,rfl,hz,c7.ok p1 h1 _ (by unfold d7;rfl)⟩
   ·exact p1.elim
 · obtain⟨z,rfl,hz,q⟩:=q
   obtain⟨t,rfl⟩:=r
   refine wpAny_pyReprObj_gives (Zv _ _ _) slot_str_repr entry_str_repr (args_str_repr _) (gives_str_repr z t) ?_ rfl hz
   exact formatField_str (λt' tk=>⟨.str (xf z),H1,I1.tok _,⟨_,rfl⟩,q⟩) hz⟩
structure DJ(X:Cx)(Z:XC)(es:List Expr)(fs:List Fe):Prop where
 h:∀(acc:Str) (pins:PNS) (s:zm) (U:St) (H:Hp) (Q:VK),Inv X pins U H s->aD5 (wc X) Z (aY6 fs acc) U H Q->Joins (zB X.prog X.w) X.A X.xe (evalEach es X.env) acc (λout W1=>out.length<=zd/\EP X pins U Q (.str out W1.toks) {W1 with toks:=W1.toks+1}) s
theorem eJ2:DJ X Z [] []:=⟨λacc pins s U H Q I h=>by
 obtain⟨X9,μ,G,sr,hr,p⟩:=h
 show _/\_
 unfold aY6 at p
 split at p
 · rename_i hz
   exact⟨hz,.str acc,H,I.tok _,⟨_,rfl⟩,c7.ok p hr _ (by unfold d7;rfl)⟩
 ·exact p.elim⟩
theorem dK6(he:DE X Z e f)(hr:DJ X Z es fs):DJ X Z (e::es) (f::fs):=⟨λacc pins s U H Q I h=>by
 obtain⟨X9,μ,G,sr,hr',p⟩:=h
 show zt _ _ (eval e X.env) _ _ s
 refine thn (he.h pins s U H (λv H1=>∃y,v= .str y/\(acc++y).length<=zd/\aD5 (wc X) Z (aY6 fs (acc++y)) U H1 Q) I ⟨X9,μ,G,sr,hr',(c7.bind p).mono λd X0 G1 H1 x' h1 p1 v rv=>?_⟩) λu s1 hE=>hE.elim λv H1 I1 r q=>?_
 · rcases d with _|_|_|y|_|_|_|_<;>try exact p1.elim
   dsimp only at p1
   split at p1
   · rename_i hz
     rw[aE6 rv]
     exact⟨y,rfl,hz,X9,X0,G1,sr.mono x',h1,p1⟩
   ·exact p1.elim
 · obtain⟨y,rfl,hz,q⟩:=q
   obtain⟨t,rfl⟩:=r
   exact⟨y,t,rfl,hz,hr.h _ pins s1 U H1 Q I1 q⟩⟩
theorem dU7(h:DJ X Z (e1::e2::es) fs):DE X Z (.JoinedStr (e1::e2::es) pos) (aY6 fs xk):=⟨λpins s U H Q I hh=>wpAny_JoinedStr (h.h _ pins s U H Q I hh)⟩
end
end DL
namespace W
open PySem PySem.Spec L2 DL
open PyProof.Rows hiding St
abbrev aX1(a:Fe):=q10 a (q11)
abbrev aX2(a b:Fe):=q10 a (q10 b (q11))
abbrev aX3(a b c:Fe):=q10 a (q10 b (q10 c (q11)))
abbrev aX4(a b c d:Fe):=q10 a (q10 b (q10 c (q10 d (q11))))
abbrev aX5(a b c d e:Fe):=q10 a (q10 b (q10 c (q10 d (q10 e (q11)))))
abbrev asQ(e:Fe)(g:D->DSt->M DSt)(r:Fs):Fs:=m9 (J7 e g) r
abbrev cBf:Fe:=cE (.bl false)
abbrev cBt:Fe:=cE (.bl true)
abbrev cI0:Fe:=cE (.int 0)
abbrev cI1:Fe:=cE (.int 1)
abbrev bU6:Fe:=cE (.int 10)
abbrev cI2:Fe:=cE (.int 2)
abbrev cI3:Fe:=cE (.int 3)
abbrev cI4:Fe:=cE (.int 4)
abbrev cI5:Fe:=cE (.int 5)
abbrev cI6:Fe:=cE (.int 6)
abbrev cI7:Fe:=cE (.int 7)
abbrev cI8:Fe:=cE (.int 8)
abbrev cI9:Fe:=cE (.int 9)
abbrev cIn(i:Int):Fe:=cE (.int i)
abbrev cSt(s:Str):Fe:=cE (.str s)
abbrev cX1(F:List D->M D)(a:Fe):Fe:=q12 (fnX 1 F) (q10 a (q11))
abbrev cX2(F:List D->M D)(a b:Fe):Fe:=q12 (fnX 2 F) (q10 a (q10 b (q11)))
abbrev cX3(F:List D->M D)(a b c:Fe):Fe:=q12 (fnX 3 F) (q10 a (q10 b (q10 c (q11))))
abbrev cX4(F:List D->M D)(a b c d:Fe):Fe:=q12 (fnX 4 F) (q10 a (q10 b (q10 c (q10 d (q11)))))
abbrev cY1(F:List D->M D)(a:Fe):Fe:=q12 F (q10 a (q11))
abbrev cY2(F:List D->M D)(a b:Fe):Fe:=q12 F (q10 a (q10 b (q11)))
abbrev gdQ(t:DSt->M Bool)(x:Fe)(r:Fs):Fs:=m9 (ifS t (u6 x) J2) r
abbrev ixE(a b:Fe):Fe:=binE ixD a b
abbrev nG0:=q14 0
abbrev nG1:=q14 1
abbrev nG2:=q14 2
abbrev nG3:=q14 3
abbrev nG4:=q14 4
abbrev nG5:=q14 5
abbrev nG6:=q14 6
abbrev nG7:=q14 7
abbrev nG8:=q14 8
abbrev nG9:=q14 9
noncomputable abbrev sRf(r:Nat):Option D:=some (D.ref r)
abbrev tBn(o:D->D->M D)(a b:Fe):=bE4 (binE o a b)
abbrev tX1(a:Fe):=aK1 (q10 a (q11))
abbrev tX2(a b:Fe):=aK1 (q10 a (q10 b (q11)))
abbrev tX3(a b c:Fe):=aK1 (q10 a (q10 b (q10 c (q11))))
abbrev vE0:Fe:=aD8 0
abbrev vE1:Fe:=aD8 1
abbrev vE2:Fe:=aD8 2
abbrev vE3:Fe:=aD8 3
abbrev vE4:Fe:=aD8 4
abbrev vE5:Fe:=aD8 5
abbrev vE6:Fe:=aD8 6
abbrev vE7:Fe:=aD8 7
abbrev vE8:Fe:=aD8 8
abbrev vE9:Fe:=aD8 9
def aL3:Fs:=m9 (J7 cI0 nG3) (m9 (ifS (tBn neD vE0 (O3 q11)) (J7 (binE bF0 (cY1 dF1 vE0) cI2) nG3) J2) (u6 (O3 (aX4 vE1 (binE bF0 (binE aK4 (binE addD (binE addD (binE bF0 vE1 (cIn 2147483629)) (binE aK4 (cIn 7919) vE2)) cI1) (cIn 48271)) (cIn 2147483647)) vE3 cI0))))
def aF6:List D->M D:=t7 4 aL3
def aM0:Fs:=m9 (ifS (tBn eqD (ixE vE0 cI2) cI0) (asQ (binE bF0 (ixE vE0 cI0) vE1) nG2 (asQ (binE bM0 (ixE vE0 cI0) vE1) (bF9 vE0 cI0) (u6 vE2))) J2) (asQ (binE addD (binE bF0 (binE aK4 (ixE vE0 cI1) (ixE vE0 cI1)) (cIn 2147483629)) cI3) (bF9 vE0 cI1) (u6 (binE bF0 (binE bM0 (binE bF0 (binE aK4 (ixE vE0 cI1) (cIn 69621)) (cIn 2147483563)) cI8) vE1)))
def d9:List D->M D:=t7 3 aM0
def aG0:Fs:=m9 (ifS (tBn eqD (cX2 d9 vE0 cI3) cI1) (u6 (binE aO1 (cX2 d9 vE0 (binE addD (binE aK4 cI2 (binE dA3 bU6 (cIn 18))) cI1)) (binE dA3 bU6 (cIn 18)))) J2) (u6 (ixE (O3 (q10 cI0 (q10 cI1 (q10 (unE bV3 cI1) (q10 cI2 (q10 (unE bV3 cI2) (aX5 cI3 bU6 (unE bV3 bU6) (binE dA3 bU6 (cIn 18)) (binE aO1 cI0 (binE dA3 bU6 (cIn 18)))))))))) (cX2 d9 vE0 bU6)))
def U3:List D->M D:=t7 1 aG0
def LT:Fs:=(J7 (binE addD vE3 (ixE (cSt "abcdefghijklmnopqrstuvwxyz") (cX2 d9 vE0 (cIn 26)))) nG3)
def V5:Fs:=m9 (J7 (cSt "") nG3) (m9 (aR4 (U0 (aX1 (binE addD vE1 (cX2 d9 vE0 (binE addD (binE aO1 vE2 vE1) cI1))))) nG4 LT) (u6 vE3))
def S9:List D->M D:=t7 5 V5
def aK7:Fs:=m9 (ifS (tBn eqD (cX2 d9 vE0 cI3) cI1) (u6 (cX3 S9 vE0 cI0 (cIn 20))) J2) (u6 (ixE (O3 (q10 (cSt "") (q10 (cSt "a") (q10 (cSt "b") (q10 (cSt "aa") (q10 (cSt "ab") (aX5 (cSt "ba") (cSt "abc") (cSt "z") (cSt "true") (binE aK4 (cSt "z") (cIn 20))))))))) (cX2 d9 vE0 bU6)))
def aF1:List D->M D:=t7 1 aK7
def NB:Fs:=(asQ (ixE (O3 (q10 (cSt "a") (q10 (cSt "b") (q10 (cSt "ab") (aX5 (cSt "ba") (cSt "abc") (cSt "z") (cSt "zz") (cSt "zzzzzzzz")))))) (cX2 d9 vE0 cI8)) nG3 (m9 (ifS (tBn eqD (cX2 d9 vE0 cI3) cI1) (J7 (cX3 S9 vE0 cI1 cI8) nG3) J2) (J7 cBt (bF9 vE1 vE3))))
def aB8:Fs:=m9 (J7 (bB0) nG1) (m9 (aR4 (U0 (aX1 (cX2 d9 vE0 (ixE (O3 (aX2 cI4 cI9)) (cX2 d9 vE0 cI2))))) nG2 NB) (u6 (cY1 aJ3 vE1)))
def aC3:List D->M D:=t7 4 aB8
def VAb(R:List D->M D):Fs:=(m9 (ifS (tBn eqD vE2 cI6) (asQ (cX2 d9 vE0 (ixE (O3 (aX2 cI4 cI9)) (cX2 d9 vE0 cI2))) nG3 (u6 (tX2 (cSt "list") (cY1 aD3 (R1 (U0 (aX1 vE3)) [none,some 1,some 0] nG0 (U6) (cX2 R vE2 (binE aO1 vE1 cI1))))))) J2) (u6 (tX2 (cSt "record") (cY1 aD3 (R1 (itW (cX1 aC3 vE0)) [none,some 1,some 0] nG0 (U6) (tX2 vE0 (cX2 R vE2 (binE aO1 vE1 cI1))))))))
def VC:Fs:=(gdQ (tBn inD vE2 (tX3 cI0 cI3 cI6)) (cX1 U3 vE0) (gdQ (tBn inD vE2 (tX3 cI1 cI4 cI7)) (cX1 aF1 vE0) (u6 (ixE (O3 (aX2 cBf cBt)) (cX2 d9 vE0 cI2)))))
def VT:DSt->M Bool:=(aQ2 (tBn gtD vE2 cI5) (aQ2 (tBn gtD vE1 cI1) (tBn ltD (ixE vE0 cI3) (cIn 20))))
def T8(R:List D->M D):Fs:=m9 (J7 (cX2 d9 vE0 cI8) nG2) (asQ (binE addD (ixE vE0 cI3) cI1) (bF9 vE0 cI3) (m9 (ifS VT (VAb R) J2) VC))
def T5:Nat->List D->M D
 |0=>λ_=>M.stuck
 |n+1=>t7 4 (T8 (T5 n))
def aB9:List D->M D:=T5 6
def aJ0:Fs:=u6 (ixE (O3 (q10 cI0 (q10 cI1 (q10 (unE bV3 cI1) (aX5 (cSt "a") (cSt "") cBt cBf cI7))))) (cX2 d9 vE0 cI8))
def T7:List D->M D:=t7 1 aJ0
def WA:Fs:=(J7 (R1 (U0 (aX1 (binE addD cI9 (cX2 d9 vE0 (cIn 50))))) [none,some 0] nG0 (U6) (cX1 T7 vE1)) nG2)
def WB:Fs:=(u6 (tX2 (cSt "record") (cY1 aD3 (R1 (U0 (aX1 (cY1 lenF vE2))) [none,some 3,some 2] nG0 (U6) (tX2 (binE addD (ixE vE1 (binE bM0 vE0 cI3)) (ixE (cSt "abc") (binE bF0 vE0 cI3))) (ixE vE2 vE0))))))
def aF2:Fs:=m9 (J7 (cX2 d9 vE0 cI2) nG1) (m9 WA (gdQ (tBn eqD vE1 cI0) (tX2 (cSt "list") (cY1 aD3 vE2)) (asQ (cSt "abcdefghijklmnopqrstuvwxyz") nG3 WB)))
def aF3:List D->M D:=t7 4 aF2
def CB:Fs:=(asQ (O3 (aX3 (tX2 (cSt "list") (tX1 vE2)) (tX2 (cSt "list") (tX2 cI0 vE2)) (tX2 (cSt "record") (tX1 (tX2 (cSt "a") vE2))))) nG4 (J7 (ixE (binE addD vE4 (O3 (aX1 (tX2 (cSt "record") (tX2 (tX2 (cSt "a") cI1) (tX2 (cSt "b") vE2)))))) (cX2 d9 vE0 cI4)) nG2))
def aC5:Fs:=m9 (J7 (cX1 T7 vE0) nG2) (m9 (aR4 (U0 (aX1 (cX2 d9 vE0 vE1))) nG3 CB) (u6 vE2))
def aB6:List D->M D:=t7 5 aC5
def aJ6:Fs:=m9 (J7 (cX2 d9 vE0 cI6) nG2) (gdQ (tBn eqD vE2 cI1) (cX1 aF3 vE0) (gdQ (tBn eqD vE2 cI2) (cX2 aB6 vE0 vE1) (u6 (cX2 aB9 vE0 cI5))))
def aC0:List D->M D:=t7 3 aJ6
def QT:Fs:=(u6 (tX2 (ixE vE1 cI0) (binE addD (binE addD (w5 (ixE vE1 cI1) (J4) (J3 vE3)) (tX1 vE4)) (w5 (ixE vE1 cI1) (J3 (binE addD vE3 cI1)) (J4)))))
def QA(R:List D->M D):Fs:=m9 (J7 (cX2 d9 vE0 (cY1 lenF (ixE vE1 cI1))) nG3) (asQ (ixE (ixE vE1 cI1) vE3) nG4 (m9 (ifS (tBn eqD (ixE vE1 cI0) (cSt "record")) (J7 (tX2 (ixE vE4 cI0) (cX3 R vE0 (ixE vE4 cI1) vE2)) nG4) (J7 (cX3 R vE0 vE4 vE2) nG4)) QT))
def QB:Fs:=(u6 (ixE (O3 (q10 (cY1 bV1 vE1) (aX5 (eU4 vE1) vE1 (cSt "true") (cSt "false") (tX2 (cSt "list") (tX1 vE1))))) vE5))
def QI:Fs:=(u6 (ixE (O3 (q10 (binE aO1 cI0 vE1) (aX5 (binE addD vE1 cI1) vE1 (binE aO1 vE1 cI1) (binE eqD vE1 cI1) (tX2 (cSt "list") (tX1 vE1))))) vE5))
def QS:Fs:=(u6 (ixE (O3 (q10 (unE cA9 vE1) (aX5 (binE addD vE1 (cSt "a")) vE1 (w5 vE1 (J3 cI1) (J4)) (tX2 (cSt "list") (aK1 q11)) (tX2 (cSt "record") (aK1 q11))))) vE5))
def QL:Fs:=(u6 (tX2 (cSt "list") (ixE (O3 (q10 (unE cA9 (ixE vE1 cI1)) (aX5 (binE addD (ixE vE1 cI1) (tX1 cI0)) (ixE vE1 cI1) (w5 (ixE vE1 cI1) (J3 cI1) (J4)) (w5 (ixE vE1 cI1) (J4) (J3 (unE bV3 cI1))) (aK1 q11)))) vE5)))
def QR:Fs:=(u6 (ixE (O3 (q10 (tX2 (cSt "record") (w5 (ixE vE1 cI1) (J3 cI1) (J4))) (aX5 (tX2 (cSt "record") (w5 (ixE vE1 cI1) (J4) (J3 (unE bV3 cI1)))) vE1 (tX2 (cSt "list") (aK1 q11)) (tX2 (cSt "record") (aK1 q11)) cI0))) vE5))
def QN:Fs:=m9 (J7 (cX2 d9 vE0 cI6) nG5) (m9 (ifS (truthE (cY2 u9 vE1 (cE (.ty "bool")))) QB J2) (m9 (ifS (truthE (cY2 u9 vE1 (cE (.ty "int")))) QI J2) (m9 (ifS (truthE (cY2 u9 vE1 (cE (.ty "str")))) QS J2) (m9 (ifS (tBn eqD (ixE vE1 cI0) (cSt "list")) QL J2) QR))))
def R7(R:List D->M D):Fs:=m9 (ifS (aQ2 (truthE (cY2 u9 vE1 (cE (.ty "tuple")))) (aQ2 (tBn neD (ixE vE1 cI1) (aK1 q11)) (tBn gtD (cX2 d9 vE0 vE2) cI0))) (QA R) J2) QN
def S8:Nat->List D->M D
 |0=>λ_=>M.stuck
 |n+1=>t7 6 (R7 (S8 n))
def aD7:List D->M D:=S8 21
def aX9:Fs:=u6 (cX3 aD7 vE0 vE1 (ixE (O3 (aX2 cI4 (cIn 40))) (cX2 d9 vE0 cI2)))
def V3:List D->M D:=t7 2 aX9
def SPA:Fs:=(J7 (O3 (q10 (cSt "") (q10 (cSt " ") (q10 (cSt ",") (q10 (cSt ", ") (q10 (cSt ":") (q10 (cSt ": ") (q10 (cSt "[") (q10 (cSt "]") (q10 (cSt "{") (q10 (cSt "}") (q10 (cE (.str ("\"" :Str))) (q10 (cSt "-") (q10 (cSt "0") (aX5 (cSt "1") (cSt "a") (cSt "b") (cSt "A") (cSt "true")))))))))))))))) nG2)
def SPB:Fs:=(J7 (binE addD vE2 (O3 (q10 (cSt "\n") (q10 (cSt "-0") (q10 (cSt "01") (q10 (cSt "[]") (q10 (cSt "{}") (q10 (cE (.str ("\"\"" :Str))) (q10 (cSt "b: 1") (aX5 (cSt "false") (cSt "_") (binE aK4 (cSt "1") (cIn 40)) (binE aK4 (cSt "1") (cIn 41)) (cSt "a: "))))))))))) nG2)
def Z8:Fs:=m9 SPA (m9 SPB (asQ (cX2 d9 vE0 (binE addD (cY1 lenF vE1) cI1)) nG3 (asQ (binE addD vE3 (cX2 d9 vE0 cI4)) nG4 (asQ (ixE vE2 (cX2 d9 vE0 (cIn 30))) nG5 (asQ (cX2 d9 vE0 cI5) nG6 (gdQ (tBn eqD vE6 cI0) (binE addD (binE addD (w5 vE1 (J4) (J3 vE3)) vE5) (w5 vE1 (J3 vE3) (J4))) (gdQ (tBn eqD vE6 cI1) (binE addD (w5 vE1 (J4) (J3 vE3)) (w5 vE1 (J3 vE4) (J4))) (gdQ (tBn eqD vE6 cI2) (binE addD (binE addD (w5 vE1 (J4) (J3 vE3)) vE5) (w5 vE1 (J3 (binE addD vE3 cI1)) (J4))) (gdQ (tBn eqD vE6 cI3) (binE addD (w5 vE1 (J4) (J3 vE4)) (w5 vE1 (J3 vE3) (J4))) (u6 (binE addD vE1 vE5)))))))))))
def O2:List D->M D:=t7 7 Z8
def aP8:Fs:=u6 (R1 (itW vE0) [none] nG0 (U6) (ixE vE0 cI0))
def S6:List D->M D:=t7 1 aP8
def aE5:Fs:=u6 (tX2 (cY1 cW6 vE0) (binE ltD vE0 cI0))
def W0:List D->M D:=t7 1 aE5
def aI9:Fs:=u6 (tX2 (cY1 lenF vE0) vE0)
def aB5:List D->M D:=t7 1 aI9
def aV4:Fs:=m9 (ifS (truthE (cY2 u9 vE0 (cE (.ty "bool")))) (u6 (tX2 cI2 vE0)) J2) (gdQ (truthE (cY2 u9 vE0 (cE (.ty "int")))) (tX2 cI0 (cX1 W0 vE0)) (gdQ (truthE (cY2 u9 vE0 (cE (.ty "str")))) (tX2 cI1 (cX1 aB5 vE0)) (gdQ (tBn eqD (ixE vE0 cI0) (cSt "list")) (tX2 cI3 (cY1 lenF (ixE vE0 cI1))) (u6 (tX3 cI4 (cY1 lenF (ixE vE0 cI1)) (cX1 S6 (ixE vE0 cI1)))))))
def aI0:List D->M D:=t7 1 aV4
def aD6:Fs:=m9 (ifS (truthE (cY2 u9 vE0 (tX2 (cE (.ty "int")) (cE (.ty "str"))))) (u6 (O3 q11)) J2) (gdQ (tBn eqD (ixE vE0 cI0) (cSt "list")) (cY1 bY5 (ixE vE0 cI1)) (u6 (R1 (itW (ixE vE0 cI1)) [none] nG0 (U6) (ixE vE0 cI1))))
def O8:List D->M D:=t7 1 aD6
def OWB:Fs:=(asQ (mtE W3 dC3 vE2 q11) nG3 (m9 (bF4 (mtE W3 aR3 vE1 (aX1 (cX1 aI0 vE3)))) (bF4 (mtE W3 aQ7 vE2 (aX1 (unE bK2 (cX1 O8 vE3)))))))
def aG2:Fs:=m9 (J7 (O3 q11) nG1) (asQ (O3 (aX1 vE0)) nG2 (m9 (W2 (truthE vE2) OWB) (u6 vE1)))
def Q8:List D->M D:=t7 4 aG2
def aJ9:Fs:=u6 (binE eqD (cX1 Q8 vE0) (cX1 Q8 vE1))
def Q0:List D->M D:=t7 2 aJ9
def aX8(R:List D->M D):Fs:=u6 (binE addD (binE addD (ixE vE0 cI0) (cSt ": ")) (cX1 R (ixE vE0 cI1)))
def aA1(R:List D->M D):List D->M D:=t7 1 (aX8 R)
def aI7(R:List D->M D):Fs:=m9 (ifS (truthE (cY2 u9 vE0 (cE (.ty "bool")))) (u6 (ifE (truthE vE0) (cSt "true") (cSt "false"))) J2) (gdQ (truthE (cY2 u9 vE0 (cE (.ty "int")))) (cY1 dD0 vE0) (gdQ (truthE (cY2 u9 vE0 (cE (.ty "str")))) (binE addD (binE addD (cE (.str ("\"" :Str))) vE0) (cE (.str ("\"" :Str)))) (gdQ (tBn eqD (ixE vE0 cI0) (cSt "list")) (binE addD (binE addD (cSt "[") (mtE isStrM bA5 (cSt ", ") (aX1 (R1 (itW (ixE vE0 cI1)) [none] nG0 (U6) (cX1 R vE0))))) (cSt "]")) (u6 (binE addD (binE addD (cSt "{") (mtE isStrM bA5 (cSt ", ") (aX1 (R1 (itW (ixE vE0 cI1)) [none] nG0 (U6) (cX1 (aA1 R) vE0))))) (cSt "}"))))))
def aC4:Nat->List D->M D
 |0=>λ_=>M.stuck
 |n+1=>t7 1 (aI7 (aC4 n))
def W4:List D->M D:=aC4 21
def aW8:List D->M D:=aA1 W4
def RT:DSt->M Bool:=(aQ2 (tBn ltD vE4 (cY1 lenF vE0)) (bE4 (aG3 leD leD vE2 (ixE vE0 vE4) vE3)))
def RB:Fs:=(J7 (binE addD vE4 cI1) nG4)
def aN9:Fs:=m9 (J7 vE1 nG4) (m9 (W2 RT RB) (u6 vE4))
def X5:List D->M D:=t7 5 aN9
def NE:Fs:=m9 (ifS (orT (tBn eqD vE3 vE2) (tBn gtD (binE aO1 vE3 vE2) (cIn 40))) (X6 "NoValue" (aX1 (cSt "no number of one to forty figures where one is due"))) J2) (m9 (ifS (aQ2 (truthE (mtE isStrM startsD vE0 (aX2 (cSt "0") vE2))) (tBn gtD (binE aO1 vE3 vE1) cI1)) (X6 "NoValue" (aX1 (cSt "a nought ahead, or below nought"))) J2) (u6 (tX2 (cY1 bV1 (w5 vE0 (J3 vE1) (J3 vE3))) vE3)))
def Z9:Fs:=m9 (J7 (ifE (truthE (mtE isStrM startsD vE0 (aX2 (cSt "-") vE1))) (binE addD vE1 cI1) vE1) nG2) (asQ (cX4 X5 vE0 vE2 (cSt "0") (cSt "9")) nG3 NE)
def aA0:List D->M D:=t7 4 Z9
def bS9:Fs:=m9 (ifS (bM7 (truthE (mtE isStrM startsD vE0 (aX2 vE2 vE1)))) (X6 "NoValue" (aX1 (aY6 [cE (.str ("no " :Str)),bY8 vE2,cE (.str (" where one is due" :Str))] xk))) J2) (u6 (binE addD vE1 (cY1 lenF vE2)))
def aE4:List D->M D:=t7 3 bS9
def bI4:Fs:=m9 (J7 (cX4 X5 vE0 (binE addD vE1 cI1) (cSt "a") (cSt "z")) nG2) (u6 (tX2 (w5 vE0 (J3 (binE addD vE1 cI1)) (J3 vE2)) (q12 (fnZ 3 aE4) (aX3 vE0 vE2 (cE (.str ("\"" :Str)))))))
def F_text_at:List D->M D:=t7 3 bI4
def bT7:Fs:=u6 (cY1 bO1 (R1 (bL9 (aX2 vE0 (w5 vE0 (J3 cI1) (J4)))) [none,none] (bZ8 2 (aH0 nG0 (aH0 nG1 (cE5)))) (U6) (binE ltD vE0 vE1)))
def aH1:List D->M D:=t7 1 bT7
def bL4(R:List D->M D):Fs:=m9 (J7 (cX4 X5 vE0 vE1 (cSt "a") (cSt "z")) nG3) (m9 (ifS (tBn eqD vE3 vE1) (X6 "NoValue" (aX1 (cSt "no name where one is due"))) J2) (asQ (q12 (fnZ 3 R) (aX3 vE0 (q12 (fnZ 3 aE4) (aX3 vE0 vE3 (cSt ": "))) vE2)) nG4 (u6 (tX2 (tX2 (w5 vE0 (J3 vE1) (J3 vE3)) (ixE vE4 cI0)) (ixE vE4 cI1)))))
def K8(R:List D->M D):List D->M D:=t7 5 (bL4 R)
def PW(R:List D->M D):Fs:=(asQ (aE0 3 3 (aV7 "value_at" "pair_at" R (K8 R)) (aX3 vE0 vE1 vE4)) nG6 (m9 (bF4 (mtE W3 aR3 vE5 (aX1 (ixE vE6 cI0)))) (gdQ (truthE (mtE isStrM startsD vE0 (aX2 vE2 (ixE vE6 cI1)))) (tX2 (cY1 aD3 vE5) (binE addD (ixE vE6 cI1) (cY1 lenF vE2))) (J7 (q12 (fnZ 3 aE4) (aX3 vE0 (ixE vE6 cI1) (cSt ", "))) nG1))))
def aD2(R:List D->M D):Fs:=m9 (ifS (truthE (mtE isStrM startsD vE0 (aX2 vE2 vE1))) (u6 (tX2 (aK1 q11) (binE addD vE1 (cY1 lenF vE2)))) J2) (asQ (O3 q11) nG5 (W2 (truthE cBt) (PW R)))
def T3(R:List D->M D):List D->M D:=t7 7 (aD2 R)
def bL3(R:List D->M D):Fs:=m9 (J7 (q12 (fnZ 5 (T3 R)) (aX5 vE0 (binE addD vE1 cI1) (cSt "]") (cE (.fn "value_at")) (binE addD vE2 cI1))) nG3) (u6 (tX2 (tX2 (cSt "list") (ixE vE3 cI0)) (ixE vE3 cI1)))
def aH5(R:List D->M D):List D->M D:=t7 4 (bL3 R)
def aW4(R:List D->M D):Fs:=m9 (J7 (q12 (fnZ 5 (T3 R)) (aX5 vE0 (binE addD vE1 cI1) (cSt "}") (cE (.fn "pair_at")) (binE addD vE2 cI1))) nG3) (m9 (ifS (bM7 (truthE (cX1 aH1 (cX1 S6 (ixE vE3 cI0))))) (X6 "NoValue" (aX1 (cSt "a record's names don't rise"))) J2) (u6 (tX2 (tX2 (cSt "record") (ixE vE3 cI0)) (ixE vE3 cI1))))
def aA2(R:List D->M D):List D->M D:=t7 4 (aW4 R)
def X4(R:List D->M D):Fs:=m9 (ifS (tBn gtD vE2 (cIn 20)) (X6 "NoValue" (aX1 (cSt "too many lists and records within one another"))) J2) (gdQ (truthE (mtE isStrM startsD vE0 (aX2 (cSt "[") vE1))) (q12 (fnZ 3 (aH5 R)) (aX3 vE0 vE1 vE2)) (gdQ (truthE (mtE isStrM startsD vE0 (aX2 (cSt "{") vE1))) (q12 (fnZ 3 (aA2 R)) (aX3 vE0 vE1 vE2)) (gdQ (truthE (mtE isStrM startsD vE0 (aX2 (cE (.str ("\"" :Str))) vE1))) (cY2 (fnZ 2 F_text_at) vE0 vE1) (gdQ (truthE (mtE isStrM startsD vE0 (aX2 (cSt "true") vE1))) (tX2 cBt (binE addD vE1 (cY1 lenF (cSt "true")))) (gdQ (truthE (mtE isStrM startsD vE0 (aX2 (cSt "false") vE1))) (tX2 cBf (binE addD vE1 (cY1 lenF (cSt "false")))) (u6 (cY2 (fnZ 2 aA0) vE0 vE1)))))))
def Q7:Nat->List D->M D
 |0=>λ_=>M.stuck
 |n+1=>t7 3 (X4 (Q7 n))
def V0:List D->M D:=Q7 21
def bJ9:List D->M D:=K8 V0
def bE5:List D->M D:=T3 V0
def bI9:List D->M D:=aH5 V0
def aY4:List D->M D:=aA2 V0
def aR0:Fs:=m9 (J7 (q12 (fnZ 3 V0) (aX3 vE0 cI0 cI1)) nG1) (m9 (ifS (tBn neD (ixE vE1 cI1) (cY1 lenF vE0)) (X6 "NoValue" (aX1 (cSt "something stands behind the value"))) J2) (u6 (ixE vE1 cI0)))
def Q3:List D->M D:=t7 2 aR0
def aW5:Fs:=m9 (ifS (bM7 (aQ2 (truthE (cY2 u9 vE0 (cE (.ty "tuple")))) (tBn eqD (cY1 lenF vE0) cI2))) (u6 cBf) J2) (u6 (aG9 (cY2 u9 (ixE vE0 cI0) (cE (.ty "str"))) (aG9 (binE eqD (ixE vE0 cI0) vE1) (cY2 u9 (ixE vE0 cI1) (cE (.ty "tuple"))))))
def aF4:List D->M D:=t7 2 aW5
def aU8:Fs:=u6 (aG9 (cY2 u9 vE0 (cE (.ty "str"))) (cY1 bO1 (R1 (itW vE0) [none] nG0 (U6) (aG3 leD leD (cSt "a") vE0 (cSt "z")))))
def aH6:List D->M D:=t7 1 aU8
def aU7:Fs:=u6 (aG9 (cX1 aH6 vE0) (binE gtD (cY1 lenF vE0) cI0))
def aN8:List D->M D:=t7 1 aU7
def aU2:Fs:=u6 (aG9 (cY2 u9 vE0 (cE (.ty "tuple"))) (aG9 (binE eqD (cY1 lenF vE0) cI2) (cX1 aN8 (ixE vE0 cI0))))
def aN3:List D->M D:=t7 1 aU2
def bD4:Fs:=m9 (ifS (truthE (cY2 u9 vE0 (cE (.ty "int")))) (u6 cBt) J2) (gdQ (truthE (cY2 u9 vE0 (cE (.ty "str")))) (cX1 aH6 vE0) (gdQ (truthE (cX2 aF4 vE0 (cSt "record"))) (aG9 (cY1 bO1 (R1 (itW (ixE vE0 cI1)) [none] nG0 (U6) (cX1 aN3 vE0))) (cX1 aH1 (cX1 S6 (ixE vE0 cI1)))) (u6 (cX2 aF4 vE0 (cSt "list")))))
def aJ2:List D->M D:=t7 1 bD4
def VL:Fs:=(asQ (mtE W3 dC3 vE1 q11) nG2 (gdQ (bM7 (truthE (cX1 aJ2 vE2))) cBf (bF4 (mtE W3 aQ7 vE1 (aX1 (cX1 O8 vE2))))))
def aI2:Fs:=m9 (J7 (O3 (aX1 vE0)) nG1) (m9 (W2 (truthE vE1) VL) (u6 cBt))
def aJ8:List D->M D:=t7 3 aI2
def aT6:Fs:=m9 (J7 (O3 q11) nG1) (m9 (cC2 "NoValue" (J7 (O3 (aX1 (cY1 (fnZ 1 Q3) vE0))) nG1) (J7 (O3 q11) nG1)) (gdQ (tBn eqD vE1 (O3 q11)) cBt (u6 (aG9 (binE dS8 (cX1 aJ8 (ixE vE1 cI0)) cBt) (binE eqD (cX1 W4 (ixE vE1 cI0)) vE0)))))
def aC1:List D->M D:=t7 2 aT6
def JB:Fs:=(ifS (tBn neD (binE eqD (ixE vE7 vE9) (ixE vE7 vE8)) (cX2 Q0 (ixE vE6 vE9) (ixE vE6 vE8))) (u6 cBf) J2)
def JA:Fs:=m9 (ifS (tBn cW7 (cX2 Q0 (cY1 (fnZ 1 Q3) (ixE vE7 vE8)) (ixE vE6 vE8)) cBt) (u6 cBf) J2) (aR4 (U0 (aX1 vE8)) nG9 JB)
def JC:Fs:=(ifS (bM7 (truthE (cX1 aC1 (aD8 11)))) (u6 cBf) J2)
def JD:Fs:=m9 (J7 (cX2 O2 vE3 (ixE vE7 cI0)) (q14 10)) (aR4 (itW (O3 (aX4 (aD8 10) (cX2 O2 vE3 (aD8 10)) (cX2 O2 vE3 (ixE vE7 cI1)) (cX2 O2 vE3 (cSt ""))))) (q14 11) JC)
def JE:Fs:=m9 (J7 (R1 (itW vE6) [none] nG0 (U6) (cX1 W4 vE0)) nG7) (m9 (aR4 (U0 (aX1 cI5)) nG8 JA) JD)
def JF:Fs:=m9 (J7 (cX3 aF6 vE0 vE2 vE1) nG3) (asQ (cX2 aC0 vE3 (cIn 18)) nG4 (asQ (cX2 V3 vE3 vE4) nG5 (asQ (O3 (aX5 vE4 vE5 (cX2 V3 vE3 vE5) (cX2 V3 vE3 vE4) (cX2 aB9 vE3 cI2))) nG6 JE)))
def JG:Fs:=(u6 (binE dS8 (cX2 Q0 (cY1 (fnZ 1 Q3) (cSt "[0, false, true, 1]")) (tX2 (cSt "list") (aK1 (aX4 cI0 cBf cBt cI1)))) cBt))
def cH7:Fs:=m9 (aR4 (aV5 (aX1 (w5 vE0 (J4) (J3 (cIn 63))))) (bZ8 2 (aH0 nG1 (aH0 nG2 (cE5)))) JF) JG
def dJ7:List D->M D:=t7 12 cH7
local macro_rules | `(tactic| walk_at "cl") => `(tactic| (refine ⟨?k, ?kk, ?a, ?b, ?c⟩; (case a => first | (dsimp only [Cx.nox, W7]; with_reducible assumption) | assumption); (case b => assumption); (case c => first | decide | omega)))
local macro_rules | `(tactic| walk_at "ck") => `(tactic| (refine ⟨?k, ?kk, ?kkk, ?a, ?b, ?c, ?d⟩; (case a => assumption); (case b => rfl); (case c => rfl); (case d => decide +kernel)))
local macro_rules | `(tactic| walk_at "od") => `(tactic| first
 |with_reducible exact eM6
 |with_reducible exact eL8
 |with_reducible exact eJ1
 |with_reducible exact dL7
 |with_reducible exact eL3
 |with_reducible exact eG8
 |with_reducible exact eV5
 |with_reducible exact eQ1
 |with_reducible exact eL2
 |with_reducible exact cN8
 |((with_reducible refine eT3 ?_);exact N8.units (by assumption))
 |((with_reducible refine eP6 ?_);exact N8.units (by assumption))
 |((with_reducible refine eU5 ?_);exact N8.units (by assumption))
 |((with_reducible refine eV0 ?_);exact N8.units (by assumption)))
local macro_rules | `(tactic| walk_at "bd") => `(tactic| first
 |with_reducible exact dZ7
 |with_reducible exact bH8
 |with_reducible exact eA7
 |with_reducible exact eB1
 |with_reducible exact cY9
 |with_reducible exact dM0
 |with_reducible exact dV4
 |with_reducible exact dU4
 |with_reducible exact eC2
 |with_reducible exact cD5)
local macro_rules | `(tactic| walk_at "da") => `(tactic| first
 |with_reducible exact q16
 |((with_reducible refine fB5 ?_ ?_ ?_);walk_at "de";walk_at "da";rfl))
local macro_rules | `(tactic| walk_at "do") => `(tactic| first
 |with_reducible exact dS7
 |((with_reducible refine dU9 ?_);walk_at "de"))
local macro_rules | `(tactic| walk_at "pk") => `(tactic| first | exact eH4 | ((apply eI1); walk_at "pk"; walk_at "pk"; (unfold cN6; decide); rfl) | ((apply eC0); walk_at "pk"; walk_at "pk"; rfl))
local macro_rules | `(tactic| walk_at "de") => `(tactic| first
 |with_reducible exact q17
 |with_reducible exact eP8
 |with_reducible exact eM5
 |((with_reducible refine fD0 _ ?_ ?_ ?_ ?_);rfl;(first|exact Or.inl rfl|exact Or.inr (Or.inl rfl)|exact Or.inr (Or.inr rfl));decide;decide)
 |((with_reducible refine eE7 ?_ ?_ ?_ ?_ ?_ ?_);assumption;decide;decide +kernel;rfl;decide;decide)
 |((with_reducible refine eE4 ?_ ?_ ?_);assumption;rfl;decide)
 |((with_reducible refine eO3 ?_ ?_ ?_);walk_at "od";walk_at "de";walk_at "de")
 |((with_reducible refine eP9 eB4 ?_);walk_at "de")
 |((with_reducible refine eN2 ?_);walk_at "de")
 |((with_reducible refine eA2 ?_ ?_ ?_ ?_);walk_at "od";walk_at "de";walk_at "de";with_unfolding_all rfl)
 |((with_reducible refine dE8 ?_ ?_ ?_ ?_ ?_ ?_);walk_at "od";walk_at "od";walk_at "de";walk_at "de";walk_at "de";with_unfolding_all rfl)
 |((with_reducible refine eC4 ?_);walk_at "de")
 |((with_reducible refine dO2 ?_ ?_);walk_at "de";walk_at "de")
 |((with_reducible refine eS1 ?_ ?_ ?_);walk_at "dt";walk_at "de";walk_at "de")
 |((with_reducible refine eH5 ?_);walk_at "da")
 |((with_reducible refine eK6 ?_);walk_at "da")
 |with_reducible exact dB3
 |((with_reducible refine dP4 ?_);walk_at "de")
 |((with_reducible refine cP0 ?_ ?_ ?_);walk_at "de";walk_at "do";walk_at "do")
 |((with_reducible refine eN8 ?_ ?_ ?_);walk_at "de";walk_at "de";exact λ_ _=>rfl)
 |((with_reducible refine dT2 ?_ ?_ ?_ ?_ ?_ ?_);walk_at "de";rfl;assumption;rfl;rfl;rfl)
 |((with_reducible refine cZ1 ?_ ?_ ?_ ?_ ?_);walk_at "cl";rfl;walk_at "da";decide;rfl)
 |((with_reducible refine cO1 ?_ ?_ ?_ ?_ ?_ ?_ ?_ ?_);walk_at "cl";walk_at "cl";rfl;(first|exact .inl rfl|exact .inr (.inl rfl)|exact .inr (.inr rfl));decide;decide;rfl;walk_at "da")
 |((with_reducible refine eH7 ?_ ?_ ?_ ?_ ?_ ?_ ?_ ?_ ?_);rfl;walk_at "bd";assumption;decide +kernel;rfl;walk_at "da";decide;decide;rfl)
 |((with_reducible refine dW3 XG PySem.F.type_list_append cO9 ?_ ?_ ?_ ?_ ?_ ?_ ?_);walk_at "de";walk_at "da";rfl;rfl;rfl;exact q13 rfl;rfl)
 |((with_reducible refine dW3 XF PySem.F.type_list_extend cN7 ?_ ?_ ?_ ?_ ?_ ?_ ?_);walk_at "de";walk_at "da";rfl;rfl;rfl;exact q13 rfl;rfl)
 |((with_reducible refine cV1 PySem.F.slot_str_join PySem.F.type_str_join dS9 ?_ ?_ ?_ ?_ ?_ ?_ ?_);walk_at "de";walk_at "da";rfl;rfl;rfl;exact q13 rfl;rfl)
 |((with_reducible refine cV1 Xk PySem.F.type_str_startswith cR0 ?_ ?_ ?_ ?_ ?_ ?_ ?_);walk_at "de";walk_at "da";rfl;rfl;rfl;exact q13 rfl;rfl)
 |((with_reducible refine eB0 Jz PySem.F.type_list_pop eI0 ?_ ?_ ?_);walk_at "de";rfl;rfl)
 |((with_reducible refine dP6 ?_ ?_ ?_ ?_ ?_ ?_ ?_ ?_);rfl;walk_at "di";walk_at "ck";decide +kernel;(intro _ _ _ _ _;walk_at "dg");(intro _ _ _ _;walk_at "dts");(intro _ _ _ _;walk_at "de");exact λ_=>rfl))
local macro_rules | `(tactic| walk_at "dt") => `(tactic| first
 |((with_reducible refine DW.dt ?_);walk_at "dw")
 |((with_reducible refine eM4 ?_);walk_at "dt")
 |((with_reducible refine eG7 ?_ ?_ ?_ ?_);walk_at "od";walk_at "de";walk_at "de";with_unfolding_all rfl)
 |((with_reducible refine dB7 ?_ ?_ ?_ ?_ ?_ ?_);walk_at "od";walk_at "od";walk_at "de";walk_at "de";walk_at "de";with_unfolding_all rfl)
 |((with_reducible refine cZ5 ?_ ?_);walk_at "de";exact λ_=>rfl))
local macro_rules | `(tactic| walk_at "dw") => `(tactic| first
 |((with_reducible refine dL2 ?_);walk_at "dt")
 |((with_reducible refine eG6 ?_);walk_at "dt")
 |((with_reducible refine eE8 ?_ ?_);walk_at "dt";walk_at "dw")
 |((with_reducible refine eX3 ?_ ?_);walk_at "dt";walk_at "dw"))
local macro_rules | `(tactic| walk_at "dts") => `(tactic| first
 |with_reducible exact dO6)
local macro_rules | `(tactic| walk_at "di") => `(tactic| first
 |((with_reducible refine eO1 ?_ ?_ ?_ ?_);assumption;rfl;walk_at "da";rfl)
 |((with_reducible refine eZ4 ?_ ?_ ?_ ?_ ?_);assumption;rfl;walk_at "da";rfl;rfl)
 |((with_reducible refine fB3 ?_ ?_ ?_ ?_);assumption;rfl;walk_at "da";rfl)
 |((with_reducible refine eY5 ?_);walk_at "de"))
local macro_rules | `(tactic| walk_at "dg") => `(tactic| first
 |((with_reducible refine eX9 ?_ ?_ ?_ ?_);exact⟨_,_,_, ‹O5 _ _ _›,rfl⟩;rfl;(first|exact Or.inl rfl|exact Or.inr rfl);(first|exact .inl rfl|exact .inr rfl))
 |((with_reducible refine cG4 ?_ ?_ ?_ ?_);assumption;rfl;(first|exact Or.inl rfl|exact Or.inr rfl);(first|exact .inl rfl|exact .inr rfl))
 |((with_reducible refine eA8 ?_ ?_ ?_ ?_);rfl;walk_at "dgs";rfl;rfl)
 |((with_reducible refine eA5 ?_ ?_ ?_ ?_);exact N8.units (by assumption);walk_at "de";walk_at "de";exact λ_=>rfl))
local macro_rules | `(tactic| walk_at "dgs") => `(tactic| first
 |with_reducible exact dQ8
 |((with_reducible refine dC9 ?_ ?_ ?_);walk_at "dg";walk_at "dgs";rfl))
local macro_rules | `(tactic| walk_at "ds") => `(tactic| first
 |((with_reducible refine eI4 ?_);walk_at "de")
 |((with_reducible refine eS3 ?_ ?_ ?_);walk_at "dt";walk_at "db";walk_at "db")
 |((with_reducible refine cV3 ?_ ?_ ?_ ?_ ?_ ?_ ?_ ?_ ?_ ?_);rfl;walk_at "di";walk_at "ck";decide +kernel;(intro _ _ _ _ _;walk_at "dg");(intro _ _ _ _;walk_at "dts");(intro _ _ _ _;walk_at "de");(exact λ_=>rfl);walk_at "dg";rfl)
 |((with_reducible refine eB7 ?_ ?_ ?_ ?_ ?_);walk_at "de";walk_at "dg";rfl;rfl;rfl)
 |((with_reducible refine dS5 ?_ ?_);walk_at "de";rfl)
 |((with_reducible refine cX5 ?_ ?_ ?_ ?_ ?_ ?_);exact XY;rfl;walk_at "di";walk_at "dg";walk_at "db";exact λ_=>rfl)
 |((with_reducible refine bW7 ?_ ?_ ?_);exact XY;walk_at "dt";walk_at "db"))
local macro_rules | `(tactic| walk_at "db") => `(tactic| first
 |with_reducible exact eN5
 |((with_reducible refine dC5 ?_);walk_at "ds")
 |((with_reducible refine cG2 ?_ ?_);walk_at "ds";walk_at "db"))
local macro_rules | `(tactic| walk_at "db0") => `(tactic| first
 |(refine dC5 ?_;walk_at "ds")
 |(refine cG2 ?_ ?_;walk_at "ds";walk_at "db"))
set_option maxHeartbeats 2000000
local macro_rules | `(tactic| walk_at "th") => `(tactic| first | exact eD1 | exact eH0)
local macro_rules | `(tactic| walk_at "de") => `(tactic| first
 |((with_reducible refine cR5 ?_ ?_ ?_ ?_ ?_ ?_);walk_at "th";walk_at "cl";rfl;walk_at "da";decide;rfl)
 |((with_reducible refine cA8 ?_ ?_ ?_ ?_ ?_ ?_ ?_ ?_ ?_);walk_at "th";walk_at "cl";walk_at "cl";rfl;(first|exact .inl rfl|exact .inr (.inl rfl)|exact .inr (.inr rfl));decide;decide;rfl;walk_at "da")
 |((with_reducible refine dN7 ?_ ?_ ?_);exact⟨_,_,_,by assumption⟩;rfl;decide)
 |((with_reducible refine dU7 ?_);walk_at "dj")
 |((with_reducible refine dU8 ?_);walk_at "de"))
local macro_rules | `(tactic| walk_at "dj") => `(tactic| first
 |with_reducible exact eJ2
 |((with_reducible refine dK6 ?_ ?_);walk_at "de";walk_at "dj"))
local macro_rules | `(tactic| walk_at "eat") => `(tactic| first
 |((with_reducible refine dP2 ?_ ?_);walk_at "eat";exact q13 rfl)
 |((with_reducible refine cS6 ?_ ?_ ?_ ?_ ?_ ?_);rfl;walk_at "cl";rfl;(intro _ _ _;walk_at "da");decide;rfl))
local macro_rules | `(tactic| walk_at "bat") => `(tactic| ((with_reducible refine dS3 ?_ ?_ ?_ ?_ ?_); walk_at "eat"; (intro _ _ _; walk_at "dg"); rfl; rfl; rfl))
local macro_rules | `(tactic| walk_at "ds") => `(tactic| first
 |((with_reducible refine cT2 ?_ ?_ ?_ ?_ ?_);assumption;rfl;walk_at "da";decide;rfl)
 |((with_reducible refine dS4 ?_ ?_ ?_ ?_ ?_ ?_ ?_ ?_);rfl;rfl;rfl;assumption;rfl;decide;walk_at "bat";(intro _;walk_at "db"))
 |((with_reducible refine cX5 ?_ ?_ ?_ ?_ ?_ ?_);exact Xt;rfl;walk_at "di";walk_at "dg";walk_at "db";exact λ_=>rfl)
 |((with_reducible refine bW7 ?_ ?_ ?_);exact Xt;walk_at "dt";walk_at "db"))
local macro_rules | `(tactic| walk_at "sc") => `(tactic| exact ⟨rfl, rfl, rfl, by decide +kernel, rfl, by decide +kernel, by decide +kernel⟩)
local macro_rules | `(tactic| walk_at "ba") => `(tactic| (intro _ _ _ _ _ _ us h; (repeat (have q := eW2 h; clear h; obtain ⟨_, _, e, h⟩ := q; subst e)); cases List.eq_nil_of_length_eq_zero h; rfl))
noncomputable abbrev aK9:D:=.int 40
noncomputable abbrev aX7:D:=.int 20
structure BC(K:zc)(mg:Str->Option zg):Prop where
 b:BLs mg
 c_MOST_FIGURES:cK1 K mg "MOST_FIGURES" aK9
 c_MOST_DEEP:cK1 K mg "MOST_DEEP" aX7
 x_NoValue:cN5 K mg "NoValue"
local macro_rules | `(tactic| walk_at "s1") => `(tactic| (walk_at "sc"; walk_at "ba"; (intro _ _ _ _ _ _ _ _ _; obtain ⟨_, _, _, _⟩ := (‹_› : BC _ _); skip)))
noncomputable def top(i:Nat):Stmt:=PySem.Challenge.pw_allmeet_k07_whole_texts_and_values.main.body.getD i (.Pass ⟨0,0,0,0⟩)
section
variable{E:Ev}(zx:EvX E)(zb:BC E.K E.mg)
include zx zb
theorem bP6(Y:FH E.K "_law_hand" (top 34)):Ck E aF6 3 "_law_hand" 1:=by
 refine U4 ["script", "cell", "k", "way"] ["script", "cell", "k"] zx Y ?_ ?_ rfl rfl ?_;walk_at "s1";unfold aL3;walk_at "db0"
variable(k0:Ck E aF6 3 "_law_hand" 1)
theorem bO4(Y:FH E.K "_law_draw" (top 35)):Ck E d9 2 "_law_draw" 1:=by
 refine U4 ["hand", "limit", "got"] ["hand", "limit"] zx Y ?_ ?_ rfl rfl ?_;walk_at "s1";unfold aM0;walk_at "db0"
variable(k1:Ck E d9 2 "_law_draw" 1)
include k1 in
theorem bE8(Y:FH E.K "_law_number" (top 38)):Ck E U3 1 "_law_number" 2:=by
 refine U4 ["hand"] ["hand"] zx Y ?_ ?_ rfl rfl ?_;walk_at "s1";unfold aG0;walk_at "db0"
variable(k2:Ck E U3 1 "_law_number" 2)
include k1 in
theorem aY7(Y:FH E.K "_law_letters" (top 36)):Ck E S9 3 "_law_letters" 2:=by
 refine U4 ["hand", "least", "most", "text", "k"] ["hand", "least", "most"] zx Y ?_ ?_ rfl rfl ?_;walk_at "s1";unfold V5;unfold LT;walk_at "db0"
variable(k3:Ck E S9 3 "_law_letters" 2)
include k1 k3 in
theorem bR4(Y:FH E.K "_law_text" (top 37)):Ck E aF1 1 "_law_text" 3:=by
 refine U4 ["hand"] ["hand"] zx Y ?_ ?_ rfl rfl ?_;walk_at "s1";unfold aK7;walk_at "db0"
variable(k4:Ck E aF1 1 "_law_text" 3)
include k1 k3 in
theorem bH4(Y:FH E.K "_law_names" (top 39)):Ck E aC3 1 "_law_names" 3:=by
 refine U4 ["hand", "some", "k", "name"] ["hand"] zx Y ?_ ?_ rfl rfl ?_;walk_at "s1";unfold aB8;unfold NB;walk_at "db0"
variable(k5:Ck E aC3 1 "_law_names" 3)
include k1 k2 k4 k5 in
theorem aY5{R:List D->M D}{lv kk:Nat}(kR:Ck E R 2 "_law_value" lv)(h1:lv<=kk)(h2:3<=kk)(Y:FH E.K "_law_value" (top 40)):Ck E (t7 4 (T8 R)) 2 "_law_value" (kk+1):=by
 refine U4 ["hand", "deep", "kind", "many"] ["hand", "deep"] zx Y ?_ ?_ rfl rfl ?_;walk_at "s1";unfold T8;unfold VAb VC VT;walk_at "db0"
section
variable(Y:FH E.K "_law_value" (top 40))
include Y k1 k2 k4 k5
theorem aL5:∀n,Ck E (T5 n) 2 "_law_value" (3+n)
 |0=>bF7 ["hand", "deep"] zx Y (by walk_at "ba") rfl
 |n+1=>aY5 zx zb k1 k2 k4 k5 (aL5 n) (zj _) (jR _ _) Y
end
include k1 k2 k4 k5 in
theorem bI2(Y:FH E.K "_law_value" (top 40)):Ck E aB9 2 "_law_value" 9:=aL5 zx zb k1 k2 k4 k5 Y 6
variable(k6:Ck E aB9 2 "_law_value" 9)
include k1 in
theorem bH6(Y:FH E.K "_law_small" (top 41)):Ck E T7 1 "_law_small" 2:=by
 refine U4 ["hand"] ["hand"] zx Y ?_ ?_ rfl rfl ?_;walk_at "s1";unfold aJ0;walk_at "db0"
variable(k7:Ck E T7 1 "_law_small" 2)
include k1 k7 in
theorem bN6(Y:FH E.K "_law_wide" (top 42)):Ck E aF3 1 "_law_wide" 3:=by
 refine U4 ["hand", "kind", "parts", "letters"] ["hand"] zx Y ?_ ?_ rfl rfl ?_;walk_at "s1";unfold aF2;unfold WB WA;walk_at "db0"
variable(k8:Ck E aF3 1 "_law_wide" 3)
include k1 k7 in
theorem bH5(Y:FH E.K "_law_chain" (top 43)):Ck E aB6 2 "_law_chain" 3:=by
 refine U4 ["hand", "most", "value", "k", "ways"] ["hand", "most"] zx Y ?_ ?_ rfl rfl ?_;walk_at "s1";unfold aC5;unfold CB;walk_at "db0"
variable(k9:Ck E aB6 2 "_law_chain" 3)
include k1 k6 k8 k9 in
theorem bG5(Y:FH E.K "_law_drawn" (top 44)):Ck E aC0 2 "_law_drawn" 10:=by
 refine U4 ["hand", "most", "way"] ["hand", "most"] zx Y ?_ ?_ rfl rfl ?_;walk_at "s1";unfold aJ6;walk_at "db0"
variable(k10:Ck E aC0 2 "_law_drawn" 10)
include k1 in
theorem aT4{R:List D->M D}{lv kk:Nat}(kR:Ck E R 3 "_law_near_at" lv)(h1:lv<=kk)(h2:1<=kk)(Y:FH E.K "_law_near_at" (top 46)):Ck E (t7 6 (R7 R)) 3 "_law_near_at" (kk+1):=by
 refine U4 ["hand", "value", "far", "at", "inner", "kind"] ["hand", "value", "far"] zx Y ?_ ?_ rfl rfl ?_;walk_at "s1";unfold R7;unfold QN QB QI QS QL QR QA QT;walk_at "db0"
section
variable(Y:FH E.K "_law_near_at" (top 46))
include Y k1
theorem aH2:∀n,Ck E (S8 n) 3 "_law_near_at" (1+n)
 |0=>bF7 ["hand", "value", "far"] zx Y (by walk_at "ba") rfl
 |n+1=>aT4 zx zb k1 (aH2 n) (zj _) (jR _ _) Y
end
include k1 in
theorem aZ4(Y:FH E.K "_law_near_at" (top 46)):Ck E aD7 3 "_law_near_at" 22:=aH2 zx zb k1 Y 21
variable(k11:Ck E aD7 3 "_law_near_at" 22)
include k1 k11 in
theorem bM9(Y:FH E.K "_law_near" (top 45)):Ck E V3 2 "_law_near" 23:=by
 refine U4 ["hand", "value"] ["hand", "value"] zx Y ?_ ?_ rfl rfl ?_;walk_at "s1";unfold aX9;walk_at "db0"
variable(k12:Ck E V3 2 "_law_near" 23)
include k1 in
theorem bF1(Y:FH E.K "_law_spoilt" (top 47)):Ck E O2 2 "_law_spoilt" 2:=by
 refine U4 ["hand", "text", "signs", "at", "far", "sign", "kind"] ["hand", "text"] zx Y ?_ ?_ rfl rfl ?_;walk_at "s1";unfold Z8;unfold SPA SPB;walk_at "db0"
variable(k13:Ck E O2 2 "_law_spoilt" 2)
theorem bV9(Y:FH E.K "names_of" (top 9)):Ck E S6 1 "names_of" 1:=by
 refine U4 ["pairs"] ["pairs"] zx Y ?_ ?_ rfl rfl ?_;walk_at "s1";unfold aP8;walk_at "db0"
variable(k14:Ck E S6 1 "names_of" 1)
theorem aZ2(Y:FH E.K "number_order" (top 13)):Ck E W0 1 "number_order" 1:=by
 refine U4 ["number"] ["number"] zx Y ?_ ?_ rfl rfl ?_;walk_at "s1";unfold aE5;walk_at "db0"
variable(k15:Ck E W0 1 "number_order" 1)
theorem bH7(Y:FH E.K "text_order" (top 14)):Ck E aB5 1 "text_order" 1:=by
 refine U4 ["text"] ["text"] zx Y ?_ ?_ rfl rfl ?_;walk_at "s1";unfold aI9;walk_at "db0"
variable(k16:Ck E aB5 1 "text_order" 1)
include k14 k15 k16 in
theorem cA1(Y:FH E.K "head_of" (top 15)):Ck E aI0 1 "head_of" 2:=by
 refine U4 ["value"] ["value"] zx Y ?_ ?_ rfl rfl ?_;walk_at "s1";unfold aV4;walk_at "db0"
variable(k17:Ck E aI0 1 "head_of" 2)
theorem aY9(Y:FH E.K "inner_values" (top 11)):Ck E O8 1 "inner_values" 1:=by
 refine U4 ["thing"] ["thing"] zx Y ?_ ?_ rfl rfl ?_;walk_at "s1";unfold aD6;walk_at "db0"
variable(k18:Ck E O8 1 "inner_values" 1)
include k17 k18 in
theorem bD5(Y:FH E.K "value_order" (top 16)):Ck E Q8 1 "value_order" 3:=by
 refine U4 ["value", "heads", "waiting", "some"] ["value"] zx Y ?_ ?_ rfl rfl ?_;walk_at "s1";unfold aG2;unfold OWB;walk_at "db0"
variable(k19:Ck E Q8 1 "value_order" 3)
include k19 in
theorem bH3(Y:FH E.K "same_value" (top 17)):Ck E Q0 2 "same_value" 4:=by
 refine U4 ["one", "other"] ["one", "other"] zx Y ?_ ?_ rfl rfl ?_;walk_at "s1";unfold aJ9;walk_at "db0"
variable(k20:Ck E Q0 2 "same_value" 4)
theorem aO7{R:List D->M D}{lv:Nat}(kR:Ck E R 1 "show_value" lv)(h2:0<=lv)(Y:FH E.K "show_pair" (top 22)):Ck E (aA1 R) 1 "show_pair" (lv+1):=by
 refine U4 ["pair"] ["pair"] zx Y ?_ ?_ rfl rfl ?_;walk_at "s1";unfold aX8;walk_at "db0"
theorem aZ0{R:List D->M D}{lv:Nat}(kR:Ck E R 1 "show_value" lv)(h22:Ck E (aA1 R) 1 "show_pair" (lv+1))(h2:0<=lv)(Y:FH E.K "show_value" (top 21)):Ck E (t7 1 (aI7 R)) 1 "show_value" (lv+2):=by
 refine U4 ["value"] ["value"] zx Y ?_ ?_ rfl rfl ?_;walk_at "s1";unfold aI7;walk_at "db0"
section
variable(Y:FH E.K "show_value" (top 21))(Y22:FH E.K "show_pair" (top 22))
include Y Y22
theorem aK3:∀n,Ck E (aC4 n) 1 "show_value" (0+2*n)
 |0=>bF7 ["value"] zx Y (by walk_at "ba") rfl
 |n+1=>by
   have kR:=aK3 n
   have h22:=aO7 zx zb kR (jR _ _) Y22
   exact aZ0 zx zb kR h22 (jR _ _) Y
end
theorem bG8(Y:FH E.K "show_value" (top 21))(Y22:FH E.K "show_pair" (top 22)):Ck E W4 1 "show_value" 42:=aK3 zx zb Y Y22 21
variable(k21:Ck E W4 1 "show_value" 42)
include k21 in
theorem bO5(Y:FH E.K "show_pair" (top 22)):Ck E aW8 1 "show_pair" 43:=aO7 zx zb k21 (by decide) Y
variable(k22:Ck E aW8 1 "show_pair" 43)
theorem cD3(Y:FH E.K "run_end" (top 31)):Ck E X5 4 "run_end" 1:=by
 refine U4 ["text", "at", "first", "last", "end"] ["text", "at", "first", "last"] zx Y ?_ ?_ rfl rfl ?_;walk_at "s1";unfold aN9;unfold RT RB;walk_at "db0"
variable(k23:Ck E X5 4 "run_end" 1)
include k23 in
theorem bO8(Y:FH E.K "number_at" (top 30)):CkZ E aA0 2 "number_at" 2:=by
 refine aT3 ["text", "at", "start", "end"] ["text", "at"] zx Y ?_ ?_ rfl rfl ?_;walk_at "s1";unfold Z9;unfold NE;walk_at "db0"
variable(k24:CkZ E aA0 2 "number_at" 2)
theorem cO3(Y:FH E.K "behind" (top 32)):CkZ E aE4 3 "behind" 1:=by
 refine aT3 ["text", "at", "sign"] ["text", "at", "sign"] zx Y ?_ ?_ rfl rfl ?_;walk_at "s1";unfold bS9;walk_at "db0"
variable(k25:CkZ E aE4 3 "behind" 1)
include k23 k25 in
theorem cD2(Y:FH E.K "text_at" (top 29)):CkZ E F_text_at 2 "text_at" 2:=by
 refine aT3 ["text", "at", "end"] ["text", "at"] zx Y ?_ ?_ rfl rfl ?_;walk_at "s1";unfold bI4;walk_at "db0"
variable(k26:CkZ E F_text_at 2 "text_at" 2)
theorem cT3(Y:FH E.K "rising" (top 8)):Ck E aH1 1 "rising" 1:=by
 refine U4 ["keys"] ["keys"] zx Y ?_ ?_ rfl rfl ?_;walk_at "s1";unfold bT7;walk_at "db0"
variable(k27:Ck E aH1 1 "rising" 1)
include k23 k25 in
theorem aW3{R:List D->M D}{lv:Nat}(kR:CkZ E R 3 "value_at" lv)(h2:2<=lv)(Y:FH E.K "pair_at" (top 28)):CkZ E (K8 R) 3 "pair_at" (lv+1):=by
 refine aT3 ["text", "at", "depth", "end", "found"] ["text", "at", "depth"] zx Y ?_ ?_ rfl rfl ?_;walk_at "s1";unfold bL4;walk_at "db0"
include k25 in
theorem aQ9{R:List D->M D}{lv:Nat}(kR:CkZ E R 3 "value_at" lv)(h29:CkZ E (K8 R) 3 "pair_at" (lv+1))(h2:2<=lv)(Y:FH E.K "parts_at" (top 27)):CkZ E (T3 R) 5 "parts_at" (lv+2):=by
 refine aT3 ["text", "at", "close", "part_at", "depth", "parts", "found"] ["text", "at", "close", "part_at", "depth"] zx Y ?_ ?_ rfl rfl ?_;walk_at "s1";unfold aD2;unfold PW;walk_at "db0"
theorem aX0{R:List D->M D}{lv:Nat}(kR:CkZ E R 3 "value_at" lv)(h30:CkZ E (T3 R) 5 "parts_at" (lv+2))(h2:2<=lv)(Y:FH E.K "list_at" (top 25)):CkZ E (aH5 R) 3 "list_at" (lv+3):=by
 refine aT3 ["text", "at", "depth", "found"] ["text", "at", "depth"] zx Y ?_ ?_ rfl rfl ?_;walk_at "s1";unfold bL3;walk_at "db0"
include k14 k27 in
theorem aO5{R:List D->M D}{lv:Nat}(kR:CkZ E R 3 "value_at" lv)(h29:CkZ E (K8 R) 3 "pair_at" (lv+1))(h30:CkZ E (T3 R) 5 "parts_at" (lv+2))(h2:2<=lv)(Y:FH E.K "record_at" (top 26)):CkZ E (aA2 R) 3 "record_at" (lv+3):=by
 refine aT3 ["text", "at", "depth", "found"] ["text", "at", "depth"] zx Y ?_ ?_ rfl rfl ?_;walk_at "s1";unfold aW4;walk_at "db0"
include k24 k26 in
theorem bG7{R:List D->M D}{lv:Nat}(kR:CkZ E R 3 "value_at" lv)(h31:CkZ E (aH5 R) 3 "list_at" (lv+3))(h32:CkZ E (aA2 R) 3 "record_at" (lv+3))(h2:2<=lv)(Y:FH E.K "value_at" (top 24)):CkZ E (t7 3 (X4 R)) 3 "value_at" (lv+4):=by
 refine aT3 ["text", "at", "depth"] ["text", "at", "depth"] zx Y ?_ ?_ rfl rfl ?_;walk_at "s1";unfold X4;walk_at "db0"
section
variable(Y:FH E.K "value_at" (top 24))(Y29:FH E.K "pair_at" (top 28))(Y30:FH E.K "parts_at" (top 27))(Y31:FH E.K "list_at" (top 25))(Y32:FH E.K "record_at" (top 26))
include Y Y29 Y30 Y31 Y32 k14 k23 k24 k25 k26 k27
theorem aQ6:∀n,CkZ E (Q7 n) 3 "value_at" (2+4*n)
 |0=>cO7 ["text", "at", "depth"] zx Y (by walk_at "ba") rfl
 |n+1=>by
   have kR:=aQ6 n
   have h29:=aW3 zx zb k23 k25 kR (jR _ _) Y29
   have h30:=aQ9 zx zb k25 kR h29 (jR _ _) Y30
   have h31:=aX0 zx zb kR h30 (jR _ _) Y31
   have h32:=aO5 zx zb k14 k27 kR h29 h30 (jR _ _) Y32
   exact bG7 zx zb k24 k26 kR h31 h32 (jR _ _) Y
end
include k14 k23 k24 k25 k26 k27 in
theorem bX8(Y:FH E.K "value_at" (top 24))(Y29:FH E.K "pair_at" (top 28))(Y30:FH E.K "parts_at" (top 27))(Y31:FH E.K "list_at" (top 25))(Y32:FH E.K "record_at" (top 26)):CkZ E V0 3 "value_at" 86:=aQ6 zx zb k14 k23 k24 k25 k26 k27 Y Y29 Y30 Y31 Y32 21
variable(k28:CkZ E V0 3 "value_at" 86)
include k23 k25 k28 in
theorem bZ2(Y:FH E.K "pair_at" (top 28)):CkZ E bJ9 3 "pair_at" 87:=aW3 zx zb k23 k25 k28 (by decide) Y
variable(k29:CkZ E bJ9 3 "pair_at" 87)
include k25 k28 k29 in
theorem bW6(Y:FH E.K "parts_at" (top 27)):CkZ E bE5 5 "parts_at" 88:=aQ9 zx zb k25 k28 k29 (by decide) Y
variable(k30:CkZ E bE5 5 "parts_at" 88)
include k28 k30 in
theorem cB5(Y:FH E.K "list_at" (top 25)):CkZ E bI9 3 "list_at" 89:=aX0 zx zb k28 k30 (by decide) Y
variable(k31:CkZ E bI9 3 "list_at" 89)
include k14 k27 k28 k29 k30 in
theorem bR7(Y:FH E.K "record_at" (top 26)):CkZ E aY4 3 "record_at" 89:=aO5 zx zb k14 k27 k28 k29 k30 (by decide) Y
variable(k32:CkZ E aY4 3 "record_at" 89)
include k28 in
theorem bG9(Y:FH E.K "read_value" (top 23)):CkZ E Q3 1 "read_value" 87:=by
 refine aT3 ["text", "found"] ["text"] zx Y ?_ ?_ rfl rfl ?_;walk_at "s1";unfold aR0;walk_at "db0"
variable(k33:CkZ E Q3 1 "read_value" 87)
theorem bP3(Y:FH E.K "is_tagged" (top 6)):Ck E aF4 2 "is_tagged" 1:=by
 refine U4 ["thing", "word"] ["thing", "word"] zx Y ?_ ?_ rfl rfl ?_;walk_at "s1";unfold aW5;walk_at "db0"
variable(k34:Ck E aF4 2 "is_tagged" 1)
theorem cD4(Y:FH E.K "is_text" (top 4)):Ck E aH6 1 "is_text" 1:=by
 refine U4 ["thing"] ["thing"] zx Y ?_ ?_ rfl rfl ?_;walk_at "s1";unfold aU8;walk_at "db0"
variable(k35:Ck E aH6 1 "is_text" 1)
include k35 in
theorem cB2(Y:FH E.K "is_name" (top 5)):Ck E aN8 1 "is_name" 2:=by
 refine U4 ["thing"] ["thing"] zx Y ?_ ?_ rfl rfl ?_;walk_at "s1";unfold aU7;walk_at "db0"
variable(k36:Ck E aN8 1 "is_name" 2)
include k36 in
theorem cA2(Y:FH E.K "is_pair" (top 7)):Ck E aN3 1 "is_pair" 3:=by
 refine U4 ["thing"] ["thing"] zx Y ?_ ?_ rfl rfl ?_;walk_at "s1";unfold aU2;walk_at "db0"
variable(k37:Ck E aN3 1 "is_pair" 3)
include k14 k27 k34 k35 k37 in
theorem bU0(Y:FH E.K "has_form" (top 10)):Ck E aJ2 1 "has_form" 4:=by
 refine U4 ["thing"] ["thing"] zx Y ?_ ?_ rfl rfl ?_;walk_at "s1";unfold bD4;walk_at "db0"
variable(k38:Ck E aJ2 1 "has_form" 4)
include k18 k38 in
theorem bS7(Y:FH E.K "is_value" (top 12)):Ck E aJ8 1 "is_value" 5:=by
 refine U4 ["thing", "waiting", "some"] ["thing"] zx Y ?_ ?_ rfl rfl ?_;walk_at "s1";unfold aI2;unfold VL;walk_at "db0"
variable(k39:Ck E aJ8 1 "is_value" 5)
include k21 k33 k39 in
theorem bI3(Y:FH E.K "_law_there" (top 48)):Ck E aC1 1 "_law_there" 88:=by
 refine U4 ["text", "told"] ["text"] zx Y ?_ ?_ rfl rfl ?_;walk_at "s1";unfold aT6;walk_at "db0"
variable(k40:Ck E aC1 1 "_law_there" 88)
end
set_option maxHeartbeats 4000000 in
theorem all_mk{l:PySem.W.OpenLaw}{w:zN}{K:zc}{h:Heap}{mg:Str->Option zg}{fa:Addr}(X:K.In h)(G:h.Ns zS mg)(hfa:mg "law" =some (.ref fa))(Z0:FHs K top ["_law_hand", "_law_draw", "_law_number", "_law_letters", "_law_text", "_law_names", "_law_value", "_law_small", "_law_wide", "_law_chain", "_law_drawn", "_law_near_at", "_law_near", "_law_spoilt", "names_of", "number_order", "text_order", "head_of", "inner_values", "value_order", "same_value", "show_value", "show_pair", "run_end", "number_at"] [34,35,38,36,37,39,40,41,42,43,44,46,45,47,9,13,14,15,11,16,17,21,22,31,30])(Z25:FHs K top ["behind", "text_at", "rising", "value_at", "pair_at", "parts_at", "list_at", "record_at", "read_value", "is_tagged", "is_text", "is_name", "is_pair", "has_form", "is_value", "_law_there", "law"] [32,29,8,24,28,27,25,26,23,6,4,5,7,10,12,48,49])
 (g_MOST_FIGURES:CC K mg "MOST_FIGURES" aK9)
 (g_MOST_DEEP:CC K mg "MOST_DEEP" aX7)
 (x_NoValue:XI K "NoValue")
 (z:∀b∈bltL,yx K zS b=some none) (pure:∀ns:List Int,ns.length<=63->∃G',dJ7 [.ref 0] [.rol (ns.map D.int)]=some (.ok (.bl true),G')):
 ∃fd:yF,(∀(s:zm) (v:zg),Zy s fd ⟨[v], []⟩ [("script",v)])/\∀base:Heap,K.In base->base.Ns zS mg->X3 l.prog w K mg base CX0 89 fa fd ["script"] (cL6 K):=by
 obtain⟨Y0,Y1,Y2,Y3,Y4,Y5,Y6,Y7,Y8,Y9,Y10,Y11,Y12,Y13,Y14,Y15,Y16,Y17,Y18,Y19,Y20,Y21,Y22,Y23,Y24,_⟩:=Z0
 obtain⟨Y25,Y26,Y27,Y28,Y29,Y30,Y31,Y32,Y33,Y34,Y35,Y36,Y37,Y38,Y39,Y40,Y41,_⟩:=Z25
 have zb:BC K mg:=⟨BLs.of X G z,g_MOST_FIGURES.ok X G,g_MOST_DEEP.ok X G,x_NoValue.ok X G⟩
 refine eY1 (N:= ["script", "k", "cell", "hand", "value", "near", "row", "texts", "j", "i", "bad", "text"]) X G hfa Y41 (by walk_at "ba") (by walk_at "sc") rfl (λ_ _ _ _ _ _ s v=>.of_eq rfl) (λbase=>?_) pure
 have zx:EvX ⟨l.prog,w,K,mg,base⟩:=⟨h,X,G⟩
 have k0:=bP6 zx zb Y0
 have k1:=bO4 zx zb Y1
 have k2:=bE8 zx zb k1 Y2
 have k3:=aY7 zx zb k1 Y3
 have k4:=bR4 zx zb k1 k3 Y4
 have k5:=bH4 zx zb k1 k3 Y5
 have k6:=bI2 zx zb k1 k2 k4 k5 Y6
 have k7:=bH6 zx zb k1 Y7
 have k8:=bN6 zx zb k1 k7 Y8
 have k9:=bH5 zx zb k1 k7 Y9
 have k10:=bG5 zx zb k1 k6 k8 k9 Y10
 have k11:=aZ4 zx zb k1 Y11
 have k12:=bM9 zx zb k1 k11 Y12
 have k13:=bF1 zx zb k1 Y13
 have k14:=bV9 zx zb Y14
 have k15:=aZ2 zx zb Y15
 have k16:=bH7 zx zb Y16
 have k17:=cA1 zx zb k14 k15 k16 Y17
 have k18:=aY9 zx zb Y18
 have k19:=bD5 zx zb k17 k18 Y19
 have k20:=bH3 zx zb k19 Y20
 have k21:=bG8 zx zb Y21 Y22
 have k22:=bO5 zx zb k21 Y22
 have k23:=cD3 zx zb Y23
 have k24:=bO8 zx zb k23 Y24
 have k25:=cO3 zx zb Y25
 have k26:=cD2 zx zb k23 k25 Y26
 have k27:=cT3 zx zb Y27
 have k28:=bX8 zx zb k14 k23 k24 k25 k26 k27 Y28 Y29 Y30 Y31 Y32
 have k29:=bZ2 zx zb k23 k25 k28 Y29
 have k30:=bW6 zx zb k25 k28 k29 Y30
 have k31:=cB5 zx zb k28 k30 Y31
 have k32:=bR7 zx zb k14 k27 k28 k29 k30 Y32
 have k33:=bG9 zx zb k28 Y33
 have k34:=bP3 zx zb Y34
 have k35:=cD4 zx zb Y35
 have k36:=cB2 zx zb k35 Y36
 have k37:=cA2 zx zb k36 Y37
 have k38:=bU0 zx zb k14 k27 k34 k35 k37 Y38
 have k39:=bS7 zx zb k18 k38 Y39
 have k40:=bI3 zx zb k21 k33 k39 Y40
 intro _ _ _ _ _ _ _ _
 obtain⟨_,_,_,_⟩:=zb;unfold cH7;unfold JF JE JA JB JD JC JG;walk_at "db0"
mutual
noncomputable def szD:D->Nat
 | .tup l=>1+szL l
 | .str _=>1
 | .ref _=>1
 | .fn _=>1
 | .ty _=>1
 | .non=>1
 | .bl _=>1
 | .int _=>1
noncomputable def szL:List D->Nat
 |[]=>0
 |d::r=>szD d+szL r
end
theorem bQ1:∀d:D,1<=szD d:=λd=>by cases d<;>unfold szD<;>lia
theorem aO0:∀l:List D,l.length<=szL l
 |[]=>by simp[szL]
 |d::r=>by
   have:=aO0 r
   have:=bQ1 d
   unfold szL
   simp only[zp]
   lia
theorem aJ7:∀a b:List D,szL (a++b)=szL a+szL b
 |[],b=>by simp[szL]
 |d::r,b=>by
   have:=aJ7 r b
   simp only[Zb,szL]
   lia
noncomputable def aO2:D->Option D
 | .tup [_,v]=>some v
 |_=>none
noncomputable abbrev v9:Str:= "list"
noncomputable abbrev M3:Str:= "record"
noncomputable def aV6(w:Str):D->Bool
 | .tup [.str a,.tup _]=>a==w
 |_=>false
noncomputable def U9:D->List D
 | .tup [_,.tup l]=>l
 |_=> []
def kids(d:D):List D:=if aV6 v9 d then U9 d else if aV6 M3 d then (U9 d).filterMap aO2 else []
theorem bK6(h:aV6 w d=true):∃l,d= .tup [.str w,.tup l]:=by
 unfold aV6 at h
 split at h
 · rename_i a l
   rw[beq_iff_eq]at h
   subst h
   exact⟨l,rfl⟩
 ·exact bL8 h
theorem cS5(h:aO2 x=some v):∃a,x= .tup [a,v]:=by
 unfold aO2 at h
 split at h
 · rename_i a b
   cases h
   exact⟨a,rfl⟩
 ·exact t6 h
theorem cG7:∀l:List D,szL (l.filterMap aO2)<=szL l
 |[]=>by simp[szL]
 |x::r=>by
   have ih:=cG7 r
   rw[jd]
   rcases h:aO2 x with _|v
   ·simp only[szL];lia
   ·
     obtain⟨a,rfl⟩:=cS5 h
     simp only[szL,szD]
     lia
theorem cF9(d:D):szL (kids d)<szD d:=by
 unfold kids
 split
 · rename_i ht
   obtain⟨l,rfl⟩:=bK6 ht
   simp only[U9,szD,szL]
   lia
 · split
   · rename_i ht
     obtain⟨l,rfl⟩:=bK6 ht
     have:=cG7 l
     simp only[U9,szD,szL]
     lia
   · have:=bQ1 d
     simp only[szL]
     lia
noncomputable def Ap(G G':DH):Prop:=∃t,G'=G++t
theorem Ap.refl:Ap G G:=⟨[],by simp⟩
theorem Ap.trans(h:Ap G G1)(k:Ap G1 G2):Ap G G2:=by
 obtain⟨t,rfl⟩:=h
 obtain⟨u,rfl⟩:=k
 exact⟨t++u,by simp⟩
theorem Ap.one:Ap G (G++[o]):=⟨_,rfl⟩
theorem Ap.at{p:Nat}(h:Ap G G')(e:G[p]? =some o):G'[p]? =some o:=by
 obtain⟨t,rfl⟩:=h
 exact O9 e
theorem Ap.len(h:Ap G G'):G.length<=G'.length:=by
 obtain⟨t,rfl⟩:=h
 simp
theorem Ap.gr(h:Ap G G'):Gr G G':=by
 obtain⟨t,rfl⟩:=h
 exact Gr.app
section
theorem X7(J:DH->Prop)(S:DSt->Prop)(f:D->D)(hck:∀G,J G->ck G=true):∀items U G,S U->J G->
 (∀d∈items,∀ U G,S U->J G->Wp (g d U) G λWZ G1=>G1=G/\S WZ/\Wp (t WZ) G λb G2=>b=true/\G2=G/\Wp (e WZ) G λy G3=>J G3/\y=f d)->
 Wp (K9 g t e ck items U) G λys G'=>J G'/\ys=items.map f
 |[],U,G,s,j,_=>by
   rw[bF8]
   exact⟨hck G j,j,rfl⟩
 |d::r,U,G,s,j,step=>by
   rw[bE2]
   refine⟨hck G j,Wp.mono (step d (by simp) U G s j) λWZ G1 ⟨e1,s1,w1⟩=>?_⟩
   subst e1
   refine Wp.mono w1 λb G2 ⟨eb,e2,w2⟩=>?_
   subst eb e2
   rw[if_pos rfl]
   refine Wp.mono w2 λy G3 ⟨j3,py⟩=>?_
   refine Wp.mono (X7 J S f hck r WZ G3 s1 j3 λd hd=>step d (by simp[hd])) λys G4 ⟨j4,l4⟩=>⟨j4,by simp[l4,py]⟩
end
theorem cG1(e:G[p]? =some (.lst xs))(eq:G[q]? =some (.lst [])):Wp (eqD (.ref p) (.ref q)) G Q↔Q (.bl xs.isEmpty) G:=by
 have h:eqN 40 G (.ref p) (.ref q)=some xs.isEmpty:=by
  have h1:K3 G (.ref p)=some (false,xs):=by simp only[K3,e]
  have h2:K3 G (.ref q)=some (false, []):=by simp only[K3,eq]
  rw[cF5,h1,h2]
  cases xs<;>rfl
 rw[cK3,h];exact M8
theorem eD0{lo hi:Option Int}(e:G[p]? =some (.lst l)):Wp (slD (.ref p) lo hi) G Q↔Q (.ref G.length) (G++[.lst (DL.cutD l lo hi)]):=by
 have h:slD (.ref p) lo hi= (do
  let l <-N5 p >>= DL.listOf
  M4 (.lst (DL.cutD l lo hi))):=rfl
 rw[h]
 simp only[g8,O6,e,M8,DL.listOf,d8,R9]
theorem big:1000000<zd:=by decide
theorem aT0:aV6 v9 (.tup [.str M3,.tup l])=false:=by
 show (M3==v9)=false
 decide
section
theorem aI1:Wp (J6 (n+1) t b U) G P↔Wp (t U) G λk G1=>if k=true then Wp (b U) G1 λfl G2=>match fl with
 | .nx X1=>Wp (J6 n t b X1) G2 P
 | .ct X1=>Wp (J6 n t b X1) G2 P
 | .bk X1=>P (.nx X1) G2
 | .rt d=>P (.rt d) G2
 else P (.nx U) G1:=by
 rw[J6]
 simp only[g8,aK8,d8]
 constructor
 · rintro⟨k,G1,e,q⟩
   refine⟨k,G1,e,?_⟩
   rcases k with _|_
   ·exact q
   ·
     simp only[if_true]at q ⊢
     obtain⟨fl,G2,e2,q⟩:=q
     refine⟨fl,G2,e2,?_⟩
     cases fl<;>first
      |exact q
      |exact d8.mp q
 · rintro⟨k,G1,e,q⟩
   refine⟨k,G1,e,?_⟩
   rcases k with _|_
   ·exact q
   ·
     simp only[if_true]at q ⊢
     obtain⟨fl,G2,e2,q⟩:=q
     refine⟨fl,G2,e2,?_⟩
     cases fl<;>first
      |exact q
      |exact d8.mpr q
theorem aL8(h:Wp (J6 n t b U) G P):Wp (W2 t b U) G P:=by
 obtain⟨a,G',e,q⟩:=h
 refine⟨a,G',?_,q⟩
 have hx:∃n,(J6 n t b U G).isSome=true:=⟨n,by rw[e];rfl⟩
 unfold W2
 rw[dif_pos hx]
 have hs:=YO hx
 obtain⟨r,hr⟩:=xS.mp hs
 rw[hr]
 have e1:=aM9 (Nat.le_max_left n (xm hx)) e
 have e2:=aM9 (Nat.le_max_right n (xm hx)) hr
 rw[e1]at e2
 exact e2.symm
end
theorem cF8(h:G[r]? =some (.lst (l++[y]))):Wp (dC3 (.ref r) []) G Q↔Q y (G.set r (.lst l)):=by
 have e:dC3 (.ref r) []= (do
  let l <-lstM r
  match l.getLast? with
  |some y=>do
    let _ <-aZ3 r (.lst l.dropLast)
    pure y
  |none=>M.stuck):=rfl
 rw[e]
 unfold lstM
 simp only[g8,O6,h,M8,d8,List.getLast?_append,List.getLast?_singleton,Option.some_or,List.dropLast_concat,bE6]
theorem bB3(h:G[r]? =some (.lst l))(hq:G[q]? =some (.lst k))(hl:l.length+k.length<=zd):Wp (aQ7 (.ref r) [.ref q]) G Q↔Q .non (G.set r (.lst (l++k))):=by
 have e:aQ7 (.ref r) [.ref q]= (do
  let l <-lstM r
  let k <-lstM q
  if l.length+k.length<=zd then do
   let _ <-aZ3 r (.lst (l++k))
   pure .non
  else M.stuck):=rfl
 rw[e]
 unfold lstM
 simp only[g8,O6,h,hq,M8,d8,if_pos hl,bE6]
theorem Gr.set(h:Gr G0 G)(hp:G0.length<=p):Gr G0 (G.set p o):=⟨by rw[List.length_set];exact h.1,λi hi=>by rw[jT (by lia)];exact h.2 i hi⟩
theorem bL0(e:G[p]? =some (.lst xs)):Wp (aC9 (.ref p)) G B↔B (!xs.isEmpty) G:=by
 unfold aC9
 simp only[g8,O6,e,M8,d8]
theorem lt_of_get{G:DH}(e:G[p]? =some o):p<G.length:=by
 by_cases hi:p<G.length
 ·exact hi
 ·rw[zX (by lia)]at e;exact t6 e
theorem aN5:kids (.tup [.str v9,.tup l])=l:=by
 unfold kids
 simp only[show aV6 v9 (.tup [.str v9,.tup l])=true from by simp[aV6],if_true,U9]
theorem aR5:kids (.tup [.str M3,.tup l])=l.filterMap aO2:=by
 unfold kids
 rw[aT0]
 simp only[jQ,if_false,show aV6 M3 (.tup [.str M3,.tup l])=true from by simp[aV6],if_true,U9]
noncomputable def VB(b:Nat):Nat->D->Prop
 |0,_=>False
 |n+1,d=>(∃i,d= .int i)\/(∃k,d= .bl k)\/(∃z,d= .str z/\z.length<=b)\/(∃l,d= .tup [.str v9,.tup l]/\∀x∈l,VB b n x)\/(∃l,d= .tup [.str M3,.tup l]/\∀x∈l,∃nm v,x= .tup [.str nm,v]/\nm.length<=1000000/\VB b n v)
theorem VB.le{b c:Nat}(hb:b<=c):∀ {n m:Nat} {d:D},n<=m->VB b n d->VB c m d
 |0,_,_,_,h=>h.elim
 |n+1,0,_,h,_=>by lia
 |n+1,m+1,d,h,a=>by
   rcases a with a|a|⟨z,e,hz⟩|⟨l,e,hl⟩|⟨l,e,hl⟩
   ·exact .inl a
   ·exact .inr (.inl a)
   ·exact .inr (.inr (.inl ⟨z,e,by lia⟩))
   ·exact .inr (.inr (.inr (.inl ⟨l,e,λx hx=>VB.le hb (by lia) (hl x hx)⟩)))
   ·exact .inr (.inr (.inr (.inr ⟨l,e,λx hx=>let ⟨nm,v,q1,q2,q3⟩:=hl x hx;⟨nm,v,q1,q2,VB.le hb (by lia) q3⟩⟩)))
section
variable{bd n:Nat}
theorem VB.i{i:Int}:VB bd (n+1) (.int i):=.inl ⟨i,rfl⟩
theorem VB.b{i:Bool}:VB bd (n+1) (.bl i):=.inr (.inl ⟨i,rfl⟩)
theorem VB.s{z:Str}(h:z.length<=bd):VB bd (n+1) (.str z):=.inr (.inr (.inl ⟨z,rfl,h⟩))
theorem VB.l{l:List D}(h:∀x∈l,VB bd n x):VB bd (n+1) (.tup [.str v9,.tup l]):=.inr (.inr (.inr (.inl ⟨l,rfl,h⟩)))
theorem VB.r{l:List D}(h:∀x∈l,∃nm v,x= .tup [.str nm,v]/\nm.length<=1000000/\VB bd n v):VB bd (n+1) (.tup [.str M3,.tup l]):=.inr (.inr (.inr (.inr ⟨l,rfl,h⟩)))
end
theorem VB.pos{b n:Nat}{d:D}(h:VB b n d):0<n:=by
 cases n with
 |zero=>exact h.elim
 |succ n=>lia
theorem VB.there{b n:Nat}{d:D}{G:DH}(h:VB b n d):aR7 G d:=by
 cases n with
 |zero=>exact h.elim
 |succ n=>rcases h with⟨i,rfl⟩|⟨k,rfl⟩|⟨z,rfl,hz⟩|⟨l,rfl,hl⟩|⟨l,rfl,hl⟩<;>exact⟨_,rfl⟩
theorem VB.kids{b n:Nat}{d:D}(h:VB b (n+1) d):∀x∈W.kids d,VB b n x:=by
 intro x hx
 rcases h with⟨i,rfl⟩|⟨k,rfl⟩|⟨z,rfl,hz⟩|⟨l,rfl,hl⟩|⟨l,rfl,hl⟩
 ·cases hx
 ·cases hx
 ·cases hx
 · rw[aN5]at hx
   exact hl x hx
 · rw[aR5]at hx
   obtain⟨y,hy,ey⟩:=yC.mp hx
   obtain⟨nm,v,rfl,hn,hv⟩:=hl y hy
   cases ey
   exact hv
theorem bQ4:∀l:List D,szL l.reverse=szL l
 |[]=>rfl
 |x::r=>by rw[yP,aJ7,bQ4 r];simp only[szL];lia
theorem cV2{l:List D}:szD (.tup [.str v9,.tup l])=szL l+3:=by simp only[szD,szL];lia
theorem bP0{l:List D}:szD (.tup [.str M3,.tup l])=szL l+3:=by simp only[szD,szL];lia
theorem dI5{z:Str}{v:D}:szD (.tup [.str z,v])=szD v+2:=by simp only[szD,szL];lia
theorem bX5(l:List D)(n:Nat):DL.cutD l none (some (n:Int))=l.take n:=by
 unfold DL.cutD
 rw[HT.sIx_none,HT.sIx_nat,List.drop_zero,Nat.sub_zero]
 by_cases h:n<=l.length
 ·rw[Nat.min_eq_left h]
 ·rw[Nat.min_eq_right (by lia),yB (zj _),yB (by lia)]
theorem dH2(l:List D)(n:Nat):DL.cutD l (some (n:Int)) none=l.drop n:=by
 unfold DL.cutD
 rw[HT.sIx_none,HT.sIx_nat]
 by_cases h:n<=l.length
 ·rw[Nat.min_eq_left h,yB (by rw[Za];lia)]
 · rw[Nat.min_eq_right (by lia),Zf (zj _),Zf (by lia)]
   simp
section
variable{G:DH}{Q:DPP}
noncomputable def bE3:D->Bool
 | .bl _=>true
 |_=>false
theorem dM9{d:D}(h:aR7 G d):Wp (u9 [d,.ty "bool"]) G Q↔Q (.bl (bE3 d)) G:=by
 obtain⟨k,h⟩:=h
 rw[aV0 dV1]
 simp only[h,M8]
 rw[cM1 (bE3) (λk=>k.is .bool) h (λ_=>⟨rfl,rfl⟩) rfl (λ_=>rfl) (λ_=>rfl) (λ_=>rfl) λ_=>rfl]
theorem eO6{a c:Bool}:Wp (neD (.bl a) (.bl c)) G Q↔Q (.bl (!(a==c))) G:=by
 have e:eqN 40 G (.bl a) (.bl c)=some (a==c):=by rfl
 rw[dD9,e];exact M8
theorem dO5{i:Int}:Wp (cW6 [.int i]) G Q↔Q (.int (if i<0 then -i else i)) G:=d8
theorem dL9{ds:List D}{k:Int}(h0:0<=k)(h1:k<ds.length)(q:∀d∈ds,Q d (G++[.lst ds])):Wp (ixD (.ref G.length) (.int k)) (G++[.lst ds]) Q:=by
 rw[bR0 m8]
 obtain⟨d,hd,e⟩:=bB2 (l:=ds) h0 h1
 exact⟨d,e,q d hd⟩
end
noncomputable def aE8{α β:Type}(R:α->β->Prop):List α->List β->Prop
 |[], []=>True
 |a::r,b::s=>R a b/\aE8 R r s
 |_,_=>False
section
variable{α β:Type}{R S:α->β->Prop}
theorem aE8.len:∀ {a:List α} {b:List β},aE8 R a b->a.length=b.length
 |[], [],_=>rfl
 |_::_,_::_,h=>by simp[aE8.len h.2]
 |[],_::_,h=>h.elim
 |_::_, [],h=>h.elim
theorem aE8.mono(k:∀a b,R a b->S a b):∀ {a:List α} {b:List β},aE8 R a b->aE8 S a b
 |[], [],_=>trivial
 |_::_,_::_,h=>⟨k _ _ h.1,aE8.mono k h.2⟩
 |[],_::_,h=>h.elim
 |_::_, [],h=>h.elim
theorem aE8.app:∀ {a c:List α} {b d:List β},aE8 R a b->aE8 R c d->aE8 R (a++c) (b++d)
 |[],_, [],_,_,h=>h
 |_::_,_,_::_,_,h,k=>⟨h.1,aE8.app h.2 k⟩
 |[],_,_::_,_,h,_=>h.elim
 |_::_,_, [],_,h,_=>h.elim
end
def We{α:Type}(x:Str)(E:DH->Prop)(m:M α)(G:DH)(Q:α->DH->Prop):Prop:=Wp m G Q\/∃G',m G=some (.error x,G')/\E G'
section
variable{α β:Type}{x:Str}{E:DH->Prop}{m:M α}{G:DH}{Q Q':α->DH->Prop}{f:α->M β}{R:β->DH->Prop}{U:DSt}{S T g:Fs}{P:Fl->DH->Prop}{a:Fe}{t:DSt->M Bool}{fs:DSt->M (List D)}{F:List D->M D}{n i:Nat}{K:DPP}
theorem We.w(w:Wp m G Q):We x E m G Q:=.inl w
theorem We.mono(w:We x E m G Q)(k:∀a G',Q a G'->Q' a G'):We x E m G Q':=w.elim (λw=>.inl (w.mono k)) .inr
theorem We.emono{E':DH->Prop}(w:We x E m G Q)(k:∀G',E G'->E' G'):We x E' m G Q:=w.elim .inl fun⟨G',e,h⟩=>.inr ⟨G',e,k G' h⟩
theorem Q6(w:We x E m G λa G1=>We x E (f a) G1 R):We x E (m >>= f) G R:=by
 rcases w with⟨a,G1,e,w|⟨G2,e2,h⟩⟩|⟨G1,e,h⟩
 ·exact .inl (g8.mpr ⟨a,G1,e,w⟩)
 ·exact .inr ⟨G2,by rw[M.bind_eq,e];exact e2,h⟩
 ·exact .inr ⟨G1,by rw[M.bind_eq,e],h⟩
theorem K1 (w:We x E (S U) G λfl G1=>match fl with
 | .nx X1=>We x E (g X1) G1 P
 |r=>P r G1):We x E (m9 S g U) G P:=by
 delta m9
 refine Q6 (w.mono λfl G1 q=>?_)
 cases fl<;>first
  |exact q
  |exact .inl (d8.mpr q)
theorem aF5(w:Wp (t U) G λk G1=>(k=true->We x E (S U) G1 P)/\(k=false->We x E (T U) G1 P)):We x E (ifS t S T U) G P:=by
 unfold ifS
 refine Q6 (.inl (w.mono λk G1 h=>?_))
 cases k with
 |true=>exact h.1 rfl
 |false=>exact h.2 rfl
theorem aQ0(w:We x E (a U) G λd G1=>P (.rt d) G1):We x E (u6 a U) G P:=by
 unfold u6
 exact Q6 (w.mono λd G1 q=>.inl (d8.mpr q))
theorem Z3(w:We x E (a U) G λd G1=>P (.nx (U.set i (some d))) G1):We x E (J7 a (q14 i) U) G P:=by
 unfold J7
 exact Q6 (w.mono λd G1 q=>Q6 (.inl (Q4.mpr (.inl (d8.mpr q)))))
theorem aC8(w:Wp (fs U) G λ_ G1=>E G1):We x E (X6 x fs U) G P:=by
 obtain⟨ds,G1,e,h⟩:=w
 refine .inr ⟨G1,?_,h⟩
 have r:X6 x fs U= (fs U >>= λ_=>(show M Fl from λG=>some (.error x,G))):=rfl
 rw[r,M.bind_eq,e]
theorem Z7{m:Nat}{ds:List D}{f:Fs}(w:We x E (f (ds.map some++zZ (m-ds.length) none)) G (PB K)):We x E (t7 m f ds) G K:=by
 delta t7
 refine Q6 (w.mono λfl G1 q=>?_)
 cases fl with
 |nx _=>exact .inl (d8.mpr q)
 |rt _=>exact .inl (d8.mpr q)
 |bk _=>exact q.elim
 |ct _=>exact q.elim
theorem cC8{ds:List D}(h:ds.length=n)(w:We x E (F ds) G K):We x E (fnZ n F ds) G K:=by
 unfold fnZ
 rw[if_pos h];exact w
theorem V8(w:Wp (fs U) G λds G1=>ds.length=n/\We x E (F ds) G1 K):We x E (q12 (fnZ n F) fs U) G K:=by
 unfold q12
 exact Q6 (.inl (w.mono λds G1 q=>cC8 q.1 q.2))
theorem dC4{tab:Str->Option (List D->M D)}{y:Str}(h:U[i]? =some (some (.fn y)))(ht:tab y=some F)(w:Wp (fs U) G λds G1=>ds.length=n/\We x E (F ds) G1 K):We x E (aE0 i n tab fs U) G K:=by
 have e:aE0 i n tab fs U= (fs U >>= fnZ n F):=by
  delta aE0
  rw[h]
  show (match tab y with|some F=>fs U >>= fnZ n F|none=>M.stuck:M D)=_
  rw[ht]
 rw[e]
 exact Q6 (.inl (w.mono λds G1 q=>cC8 q.1 q.2))
theorem aS2{L:List D->DH->Prop}(w:We x E (a U) G λd G1=>We x E (fs U) G1 λds G2=>L (d::ds) G2):We x E (q10 a fs U) G L:=by
 unfold q10
 exact Q6 (w.mono λd G1 q=>Q6 (q.mono λds G2 q=>.inl (d8.mpr q)))
theorem eK9(w:We x E (fs U) G λds G1=>ds.length<=zd/\K (.tup ds) G1):We x E (aK1 fs U) G K:=by
 unfold aK1
 refine Q6 (w.mono λds G1 q=>?_)
 rw[if_pos q.1]
 exact .inl (d8.mpr q.2)
theorem dI8{n:Nat}(w:We x E (fs U) G λds G1=>ds.length=n/\We x E (F ds) G1 K):We x E (q12 (fnZ n F) fs U) G K:=by
 unfold q12
 exact Q6 (w.mono λds G1 q=>cC8 q.1 q.2)
theorem cO2{b:Fs} (w:Wp (t U) G λk G1=>if k=true then We x E (b U) G1 λfl G2=>(match fl with
 | .nx X1=>We x E (J6 n t b X1) G2 P
 | .ct X1=>We x E (J6 n t b X1) G2 P
 | .bk X1=>P (.nx X1) G2
 | .rt d=>P (.rt d) G2)
 else P (.nx U) G1):We x E (J6 (n+1) t b U) G P:=by
 rw[J6]
 refine Q6 (.inl (w.mono λk G1 q=>?_))
 rcases k with _|_
 ·exact .inl (d8.mpr q)
 · rw[if_pos rfl]at q ⊢
   refine Q6 (q.mono λfl G2 q=>?_)
   cases fl<;>first
    |exact q
    |exact .inl (d8.mpr q)
theorem dB9{b:Fs}(h:We x E (J6 n t b U) G P):We x E (W2 t b U) G P:=by
 rcases h with h|⟨G',e,q⟩
 ·exact .inl (aL8 h)
 · refine .inr ⟨G',?_,q⟩
   have hx:∃n,(J6 n t b U G).isSome=true:=⟨n,by rw[e];rfl⟩
   unfold W2
   rw[dif_pos hx]
   have hs:=YO hx
   obtain⟨r,hr⟩:=xS.mp hs
   rw[hr]
   have e1:=aM9 (Nat.le_max_left n (xm hx)) e
   have e2:=aM9 (Nat.le_max_right n (xm hx)) hr
   rw[e1]at e2
   exact e2.symm
theorem eA1{y:Str}{b h:Fs}(w:We y E (b U) G P)(k:∀G',E G'->Wp (h U) G' P):Wp (cC2 y b h U) G P:=by
 rcases w with⟨fl,G1,e,q⟩|⟨G1,e,q⟩
 · refine⟨fl,G1,?_,q⟩
   unfold cC2
   rw[e]
 · obtain⟨fl,G2,e2,q2⟩:=k G1 q
   refine⟨fl,G2,?_,q2⟩
   unfold cC2
   rw[e]
   dsimp only
   rw[if_pos rfl];exact e2
end
noncomputable abbrev tl(z:Str):List Nat:=z.cps.toList
noncomputable abbrev ofL(l:List Nat):Str:=⟨l.toArray⟩
theorem aM7{g:Fg}{b a:Fe}{t:DSt->M Bool}{U:DSt}{l:List D}{G G1:DH}{caps:List (Option Nat)}{Q:DPP}(e:b U G=some (.ok (.tup l),G1))(h:l.length<=zd)(w:Wp (K9 g t a (λ_=>true) l (W6 caps U)) G1 λys G2=>Q (.ref G2.length) (G2++[.lst ys])):Wp (R1 (itW b) caps g t a U) G Q:=
 wp_comp.mpr (aP2.mpr (b8 e (bF5.mpr ⟨h,w⟩)))
theorem bN3{n:Nat}{F:List D->M D}{ds:List D}{G:DH}{Q:DPP}:Wp (fnZ n F ds) G Q↔ds.length=n/\Wp (F ds) G Q:=by
 unfold fnZ
 split
 ·rename_i h;exact⟨λw=>⟨h,w⟩,λw=>w.2⟩
 ·rename_i h;exact⟨λw=>(aA5.mp w).elim,λw=>absurd w.1 h⟩
theorem aE7{n:Nat}{F:List D->M D}{fs:DSt->M (List D)}{as:List D}{U:DSt}{G G1:DH}{Q:DPP}(e:fs U G=some (.ok as,G1))(h:as.length=n)(w:Wp (F as) G1 Q):Wp (q12 (fnZ n F) fs U) G Q:=aF0.mpr (b8 e (bN3.mpr ⟨h,w⟩))
theorem J9(z:Str):(tl z).length=z.length:=rfl
theorem dY4(l:List Nat):tl (ofL l)=l:=rfl
theorem eW1(z:Str):ofL (tl z)=z:=rfl
theorem aF7{a b:Str}(h:tl a=tl b):a=b:=by
 obtain⟨⟨a⟩⟩:=a
 obtain⟨⟨b⟩⟩:=b
 have h:a=b:=h
 rw[h]
theorem eH8(a b:List Nat):ofL a++ofL b=ofL (a++b):=aF7 (show tl (ofL a++ofL b)=a++b from ji)
theorem aM5{z p:Str}{pre j9:List Nat}(h:tl z=pre++j9):aG6 z p (pre.length:Int)=decide (tl p <+:j9):=by
 have hl:z.length=pre.length+j9.length:=by rw[<-J9,h,ze]
 have fi:Js z.length (pre.length:Int)=pre.length:=by unfold Js;rw[if_neg (by lia)];lia
 have e:Zp z p pre.length=decide (tl p=j9.take p.length):=by
  rw[Yw,decide_eq_true_iff]
  unfold Zp
  rw[beq_iff_eq,<-JZ,Array.toList_extract,List.extract_eq_drop_take]
  show List.take (pre.length+p.length-pre.length) (List.drop pre.length (tl z))=tl p↔_
  rw[h,List.drop_left,Xw]
  exact eq_comm
 unfold aG6
 rw[fi,e,Yw,xC,decide_eq_true_iff,decide_eq_true_iff,decide_eq_true_iff,List.prefix_iff_eq_take]
 refine⟨λk=>k.2,λk=>⟨?_,k⟩⟩
 have:=congrArg jh k
 rw[yT]at this
 have q:(tl p).length=p.length:=rfl
 lia
theorem T6{z p:Str}{pre j9 r:List Nat}(h:tl z=pre++j9)(k:j9=tl p++r):aG6 z p (pre.length:Int)=true:=by
 rw[aM5 h,decide_eq_true_iff,k]
 exact JJ ..
def hdN(c:Nat)(j9:List Nat):Prop:=∀d r,j9=d::r->d≠c
theorem V7{z p:Str}{pre j9:List Nat}{c:Nat}{ps:List Nat}(h:tl z=pre++j9)(hp:tl p=c::ps)(k:hdN c j9):aG6 z p (pre.length:Int)=false:=by
 rw[aM5 h,decide_eq_false_iff_not,hp]
 rintro⟨t,e⟩
 exact k c (ps++t) e.symm rfl
theorem bD6{f g:Nat->Option Nat}:∀ {l:List Nat},(∀k∈l,f k=g k)->l.filterMap f=l.filterMap g
 |[],_=>rfl
 |a::r,h=>by
   rw[jd,jd,h a (zr ..),bD6 λk hk=>h k (zw _ hk)]
theorem bZ9(l:List Nat):(ja l.length).filterMap (λk=>l[k]?)=l:=by
 have e:(ja l.length).filterMap (λk=>l[k]?)= (ja l.length).map λk=>l.getD k 0:=by
  rw[<-List.filterMap_eq_map]
  refine bD6 λk hk=>?_
  have:=yr.mp hk
  simp[this]
 rw[e]
 apply List.ext_getElem
 ·simp
 · intro i hi hj
   simp[hj]
theorem dU5(a b n:Nat)(h:a+b<=n):jr (some (a:Int)) (some ((a:Int)+b)) 1 n= (ja b).map λk=>a+k:=by
 unfold jr XB
 have e1:max 0 (min (a:Int) n)=a:=by lia
 have e2:max 0 (min ((a:Int)+b) n)= (a:Int)+b:=by lia
 simp only[show (1:Int)>0 by decide,if_true,show ¬(a:Int)<0 by lia,show ¬(a:Int)+b<0 by lia,if_false,e1,e2]
 have e3:(if (a:Int)<(a:Int)+b then ((a:Int)+b-a+1-1) / 1 else 0).toNat=b:=by split<;>lia
 rw[e3]
 refine xb λk _=>?_
 lia
theorem aH4{z:Str}{a b c:List Nat}(h:tl z=a++b++c):ye z (some (a.length:Int)) (some ((a.length:Int)+b.length))=ofL b:=by
 have hl:z.length=a.length+b.length+c.length:=by rw[<-J9,h,ze,ze]
 unfold ye
 rw[dU5 _ _ _ (by lia)]
 split
 · rename_i k
   rw[xC,beq_iff_eq,beq_iff_eq,zh,jg]at k
   have ha:a= []:=jo (by lia)
   have hc:c= []:=jo (by lia)
   subst ha hc
   exact aF7 (by rw[h];simp)
 · refine aF7 ?_
   show xr (λi=>z.cps[i]?) (List.map (λk=>a.length+k) (ja b.length))=b
   rw[JK]
   refine Eq.trans (bD6 λk hk=>?_) (bZ9 b)
   have hk:=yr.mp hk
   show z.cps[a.length+k]? =b[k]?
   rw[<-jb]
   show (tl z)[a.length+k]? =b[k]?
   rw[h,zH,jH (by lia),Xw,zF hk]
theorem aW0{a c:Nat}{G:DH}{Q:DPP}:Wp (leD (.str ⟨#[a]⟩) (.str ⟨#[c]⟩)) G Q↔Q (.bl (decide (a<=c))) G:=by
 rw[dV2]
 have:(!decide ((⟨#[c]⟩:Str).cps.toList<(⟨#[a]⟩:Str).cps.toList))=decide (a<=c):=by
  show (!decide ([c] < [a]))=_
  by_cases h:a<=c
  · have:¬c<a:=by lia
    simp[h,yK,this]
  · have:c<a:=by lia
    simp[h,yK,this]
 rw[this]
noncomputable def dg(m:Nat):List Nat:=(Yd 10 m).map Char.toNat
theorem aP5(m:Nat):NumText.AllDigits (dg m):=by
 intro c hc
 obtain⟨ch,hch,e⟩:=zW.mp hc
 rw[<-e]
 exact digit_range (Nat.isDigit_of_mem_toDigits (by decide) (by decide) hch)
theorem bS6{m:Nat}(h:¬m<10):dg m=dg (m / 10)++dg (m % 10):=by
 have hm:m % 10<10:=Xg m (by decide)
 have t:Yd 10 (m / 10)++Yd 10 (m % 10)=Yd 10 (10*(m / 10)+m % 10):=Nat.toDigits_append_toDigits (by decide) (by lia) hm
 rw[Nat.div_add_mod]at t
 unfold dg
 rw[<-t,yk]
theorem aG4{m:Nat}(h:m<10):dg m= [48+m]:=by
 unfold dg
 rw[Nat.toDigits_of_lt_base h]
 have:∀d,d<10->(Nat.digitChar d).toNat=48+d:=by decide
 show [(Nat.digitChar m).toNat]=_
 rw[this m h]
theorem bE7:∀(k m:Nat),m<10 ^ (k+1)->(dg m).length<=k+1
 |0,m,h=>by rw[aG4 (by lia)];simp
 |k+1,m,h=>by
   by_cases h':m<10
   ·rw[aG4 h'];simp
   · rw[bS6 h',ze,aG4 (Xg m (by decide))]
     have:=bE7 k (m / 10) (by rw[XO]at h;lia)
     simp;lia
theorem bN5(m:Nat)(h:0<m):∃c r,dg m=c::r/\49<=c:=by
 induction m using Nat.strongRecOn with
 |_ m ih=>
   by_cases h':m<10
   ·exact⟨48+m, [],aG4 h',by lia⟩
   · obtain⟨c,r,e,k⟩:=ih (m / 10) (by lia) (by lia)
     exact⟨c,r++dg (m % 10),by rw[bS6 h',e];rfl,k⟩
theorem bG0(m:Nat):dg m≠ []:=by
 rcases yH m with rfl|h
 ·rw[aG4 (by decide)];exact jP _ _
 · obtain⟨c,r,e,_⟩:=bN5 m h
   rw[e];exact jP _ _
noncomputable def nmL(i:Int):List Nat:=tl (jI (Xz i))
theorem aP7(m:Nat):nmL (m:Int)=dg m:=PySem.W.KIN.signs_num m
theorem aQ5(m:Nat)(h:0<m):nmL (-(m:Int))=45::dg m:=by
 obtain⟨k,rfl⟩:∃k,m=k+1:=⟨m-1,by lia⟩
 unfold nmL tl
 rw[signs_ofString]
 show (("-" ++ Nat.repr (k+1):String)).toList.map Char.toNat=_
 rw[String.toList_append,yk,Nat.toList_repr]
 rfl
noncomputable def aB0:Nat:=9999999999999999999999999999999999999999
def smI(i:Int):Prop:=i.natAbs<=aB0
theorem aH3(i:Int):(∃m:Nat,i=m)\/∃m:Nat,0<m/\i= -(m:Int):=by
 rcases Int.lt_or_le i 0 with h|h
 ·exact .inr ⟨i.natAbs,by lia,by lia⟩
 ·exact .inl ⟨i.natAbs,by lia⟩
theorem aF9{i:Int}(h:smI i):(nmL i).length<=41:=by
 unfold smI aB0 at h
 rcases aH3 i with⟨m,rfl⟩|⟨m,hm,rfl⟩
 · rw[aP7]
   have:=bE7 39 m (by show m<10000000000000000000000000000000000000000;lia)
   lia
 · rw[aQ5 m hm,zp]
   have:=bE7 39 m (by show m<10000000000000000000000000000000000000000;lia)
   lia
theorem fC1{m:Nat}(h:smI (m:Int)):(dg m).length<=40:=bE7 39 m (by unfold smI aB0 at h;show m<10000000000000000000000000000000000000000;lia)
theorem eR6{m:Nat}(h:smI (-(m:Int))):(dg m).length<=40:=bE7 39 m (by unfold smI aB0 at h;show m<10000000000000000000000000000000000000000;lia)
theorem dS6{i:Int}(h:smI i):XD (ofL (nmL i))=some i:=by
 have hl:=aF9 h
 have hl':(ofL (nmL i)).length<=4300:=by rw[<-J9,dY4];lia
 rcases aH3 i with⟨m,rfl⟩|⟨m,hm,rfl⟩
 · rw[aP7]at hl' ⊢
   have e:=PySem.intText_digits (x:=ofL (dg m)) (aP5 m) (bG0 m) hl'
   rw[e]
   show some ((zD (dg m):Nat):Int)=_
   rw[show zD (dg m)=m from YC m]
 · rw[aQ5 m hm]at hl' ⊢
   have e:=PySem.intText_neg (x:=ofL (45::dg m)) (cs:=dg m) rfl (aP5 m) (bG0 m) hl'
   rw[e,show zD (dg m)=m from YC m]
noncomputable def glL(s:List Nat):List (List Nat)->List Nat
 |[]=> []
 |p::r=>s++p++glL s r
def Q9(s:List Nat):List (List Nat)->List Nat
 |[]=> []
 |a::r=>a++glL s r
theorem dQ5(sep:Str)(ss:List Str):tl (Zc sep ss)=Q9 (tl sep) (ss.map tl):=by
 have go:∀(r:List Str) (acc:Array Nat),(r.foldl (λacc p=>acc++sep.cps++p.cps) acc).toList=acc.toList++glL (tl sep) (r.map tl):=λr=>by
  induction r with
  |nil=>intro acc;simp[glL]
  |cons p r ih=>
    intro acc
    rw[List.foldl_cons,ih,ji,ji,zA,glL,zH,zH,zH]
 rcases ss with _|⟨a,r⟩
 ·rfl
 ·exact go r a.cps
theorem dI2:∀L:List (List Nat),(glL [44,32] L).length= (L.map jh).sum+2*L.length
 |[]=>rfl
 |p::r=>by
   rw[glL,ze,ze,dI2 r,zA,ZI,zp]
   simp;lia
theorem bA1:∀L:List (List Nat),(L.map jh).sum+2*L.length<=(Q9 [44,32] L).length+2
 |[]=>by simp[Q9]
 |a::r=>by
   rw[Q9,ze,dI2 r,zA,ZI,zp]
   lia
theorem cF2:∀ {L:List (List Nat)} {a:List Nat},a∈L->a.length<=(L.map jh).sum
 |b::r,a,h=>by
   rw[zA,ZI]
   rcases zi.mp h with rfl|h
   ·lia
   ·have:=cF2 h;lia
theorem cJ7{L:List (List Nat)}{a:List Nat}(h:a∈L):a.length<=(Q9 [44,32] L).length:=by
 have h1:=cF2 h
 have h2:=bA1 L
 have h3:0<L.length:=List.length_pos_of_mem h
 lia
noncomputable abbrev cT:List Nat:= [116,114,117,101]
noncomputable abbrev cF:List Nat:= [102,97,108,115,101]
noncomputable def shQ(f:D->List Nat):D->List Nat
 | .tup [.str nm,v]=>tl nm++[58,32]++f v
 |_=> []
def shN:Nat->D->List Nat
 |0,_=> []
 |_+1,.int i=>nmL i
 |_+1,.bl k=>if k then cT else cF
 |_+1,.str z=>34::(tl z++[34])
 |n+1,.tup [.str w,.tup l]=>if w=v9 then 91::(Q9 [44,32] (l.map (shN n))++[93])else 123::(Q9 [44,32] (l.map (shQ (shN n)))++[125])
 |_+1,_=> []
noncomputable def prD(p:Str×D):D:=.tup [.str p.1,p.2]
noncomputable def TxL(z:Str):Prop:=(∀c∈tl z,97<=c/\c<=122)/\z.length<=900000
noncomputable def LtS(a b:Str):Prop:=a.cps.toList<b.cps.toList
inductive GB(b:Nat):Nat->D->Prop
 |i {n:Nat} {i:Int} (h:i.natAbs<=b):GB b (n+1) (.int i)
 |b {n:Nat} {k:Bool}:GB b (n+1) (.bl k)
 |s {n:Nat} {z:Str} (h:TxL z):GB b (n+1) (.str z)
 |l {n:Nat} {l:List D} (hl:l.length<=400000) (h:∀x∈l,GB b n x):GB b (n+1) (.tup [.str v9,.tup l])
 |r {n:Nat} {ps:List (Str×D)} (hl:ps.length<=400000) (hp:(ps.map (·.1)).Pairwise LtS) (hn:∀p∈ps,TxL p.1/\tl p.1≠ []) (h:∀p∈ps,GB b n p.2):GB b (n+1) (.tup [.str M3,.tup (ps.map prD)])
abbrev GV:Nat->D->Prop:=GB aB0
theorem bM6{n:Nat}{l:List D}:shN (n+1) (.tup [.str v9,.tup l])=91::(Q9 [44,32] (l.map (shN n))++[93]):=by
 show (if v9=v9 then _ else _)=_
 rw[if_pos rfl]
theorem bU2{n:Nat}{l:List D}:shN (n+1) (.tup [.str M3,.tup l])=123::(Q9 [44,32] (l.map (shQ (shN n)))++[125]):=by
 show (if M3=v9 then _ else _)=_
 rw[if_neg (by decide)]
noncomputable def One(U:DSt):Prop:=∃u,U= [u]
theorem cL0(f:D->List Nat):∀l:List D,aA8 (l.map λd=>.str (ofL (f d)))=some (l.map λd=>ofL (f d))
 |[]=>rfl
 |d::r=>by
   show (aA8 (r.map λd=>.str (ofL (f d)))).map (ofL (f d) :: ·)=_
   rw[cL0 f r];rfl
theorem cJ9{o c:Str}{f:D->List Nat}{l:List D}{r:Nat}{G:DH}{Q:DPP}{a:Nat}{b:Nat}(ho:tl o= [a])(hc:tl c= [b])(e:G[r]? =some (.lst (l.map λd=>.str (ofL (f d)))))(hz:(Q9 [44,32] (l.map f)).length<=10000000)
 (q:Q (.str (ofL (a::(Q9 [44,32] (l.map f)++[b])))) G):Wp (bA5 (.str (", " :Str)) [.ref r]) G λx G1=>Wp (addD (.str o) x) G1 λy G2=>Wp (addD y (.str c)) G2 Q:=by
 have bg:=big
 have z1:10000100<zd:=by decide
 have sl:=bA1 (l.map f)
 have hs:((l.map λd=>ofL (f d)).map (·.length)).sum= ((l.map f).map jh).sum:=by rw[xH,xH];rfl
 refine(cW3 e (cL0 f l) (by rw[hs,zh];rw[zh]at sl;show _+_*2<=_;lia)).mpr ?_
 have ej:tl (Zc (", " :Str) (l.map λd=>ofL (f d)))=Q9 [44,32] (l.map f):=by
  rw[dQ5,xH];rfl
 have l1:(Zc (", " :Str) (l.map λd=>ofL (f d))).length= (Q9 [44,32] (l.map f)).length:=by rw[<-J9,ej]
 have lo:o.length=1:=by rw[<-J9,ho];rfl
 have lc:c.length=1:=by rw[<-J9,hc];rfl
 refine(U5 (by lia)).mpr ?_
 have e2:o++Zc (", " :Str) (l.map λd=>ofL (f d))=ofL (a::Q9 [44,32] (l.map f)):=aF7 (by
  show (o.cps++_).toList=_
  rw[ji]
  show tl o++tl _=_
  rw[ho,ej];rfl)
 rw[e2]
 have l2:(ofL (a::Q9 [44,32] (l.map f))).length= (Q9 [44,32] (l.map f)).length+1:=rfl
 refine(U5 (by lia)).mpr ?_
 have e3:ofL (a::Q9 [44,32] (l.map f))++c=ofL (a::(Q9 [44,32] (l.map f)++[b])):=aF7 (by
  show (_++c.cps).toList=_
  rw[ji]
  show (a::Q9 [44,32] (l.map f))++tl c=_
  rw[hc];rfl)
 rw[e3]
 exact q
theorem dK2{z:Str}{G:DH}{Q:DPP}(hz:z.length<=900000)(q:Q (.str (ofL (34::(tl z++[34])))) G):Wp (addD (.str ("\"" :Str)) (.str z)) G λy G1=>Wp (addD y (.str ("\"" :Str))) G1 Q:=by
 have bg:=big
 have q1:("\"" :Str).length=1:=rfl
 refine(U5 (by lia)).mpr ?_
 have l2:(("\"" :Str)++z).length=z.length+1:=by
  rw[<-J9]
  show ((("\"" :Str).cps++z.cps).toList).length=_
  rw[ji,ze]
  show 1+(tl z).length=_
  rw[J9];lia
 refine(U5 (by lia)).mpr ?_
 have e:("\"" :Str)++z++("\"" :Str)=ofL (34::(tl z++[34])):=aF7 (by
  show ((("\"" :Str).cps++z.cps)++("\"" :Str).cps).toList=_
  rw[ji,ji];rfl)
 rw[e];exact q
theorem eH6{i:Int}(h:smI i):i.natAbs.log2<1920:=by
 unfold smI aB0 at h
 rcases yH i.natAbs with z|z
 ·rw[z];decide
 ·exact zP ((Nat.log2_lt (by lia)).mpr (show i.natAbs<2 ^ 140 by lia)) (by decide)
theorem dU6{i:Int}{G:DH}{Q:DPP}(h:smI i)(q:Q (.str (ofL (nmL i))) G):Wp (dD0 [.int i]) G Q:=by
 have e:dD0 [.int i]= (if i.natAbs.log2<1920 then pure (.str (jI (Xz i)))else M.stuck:M D):=rfl
 rw[e,if_pos (eH6 h)]
 exact d8.mpr q
def cJ5(R:List D->M D)(t:List Nat)(d:D):Prop:=∀ {G:DH} {Q:DPP},(∀G',Ap G G'->Q (.str (ofL t)) G')->Wp (R [d]) G Q
theorem eS7:("true" :Str)=ofL cT:=by rfl
theorem eI5:("false" :Str)=ofL cF:=by rfl
theorem dO3{R:List D->M D}{nm:Str}{v:D}{t:List Nat}{G:DH}{Q:DPP}(h:cJ5 R t v)(hn:nm.length<=900000)(ht:t.length<=10000000)(q:∀G',Ap G G'->Q (.str (ofL (tl nm++[58,32]++t))) G'):
 Wp (addD (.str nm) (.str (": " :Str))) G λy G1=>Wp (R [v]) G1 λw G2=>Wp (addD y w) G2 Q:=by
 have z1:16000000<zd:=by decide
 have q1:(": " :Str).length=2:=rfl
 refine(U5 (by lia)).mpr<| h λG' j=>?_
 have e:nm++(": " :Str)=ofL (tl nm++[58,32]):=aF7 (by
  show (nm.cps++(": " :Str).cps).toList=_
  rw[ji];rfl)
 rw[e]
 have l1:(ofL (tl nm++[58,32])).length=nm.length+2:=by rw[<-J9,dY4,ze,J9];rfl
 have l2:(ofL t).length=t.length:=rfl
 refine(U5 (by lia)).mpr ?_
 rw[eH8]
 exact q G' j
theorem dZ4{R:List D->M D}{f:D->List Nat}{p:Str×D}(h:cJ5 R (f p.2) p.2)(hn:p.1.length<=900000)(ht:(f p.2).length<=10000000):cJ5 (aA1 R) (shQ f (prD p)) (prD p):=λ{G Q} q=>
 t8<| o8<| bin_w<| bin_w<| b8 (a:=.str p.1) (G':=G) rfl<| b8 (a:=.str (": " :Str)) (G':=G) rfl<| (dO3 h hn ht λG' j=>q G' j).mono λy G1 k=>j7 (as:= [p.2]) rfl rfl k
theorem dN4{f:D->List Nat}{p:Str×D}:(f p.2).length<=(shQ f (prD p)).length:=by
 show _<=(tl p.1++[58,32]++f p.2).length
 rw[ze];lia
theorem dI1:∀ {n N:Nat} {d:D},GV n d->n<=N->(shN n d).length<=10000000->cJ5 (aC4 N) (shN n d) d:=by
 intro n
 induction n with
 |zero=>intro N d h;cases h
 |succ n ih=>
   intro N d h hN hz G Q q
   obtain⟨M,rfl⟩:∃M,N=M+1:=⟨N-1,by lia⟩
   have bg:=big
   cases h with
   |@i _ i hi=>exact t8<| v6 (X1:= [some (.int i)]) (G':=G) rfl<| f9.mpr<| M7<| b8 (a:=true) (G':=G) rfl ⟨λ_=>o8<| aB2 (as:= [.int i]) rfl<| dU6 hi<| q G Ap.refl,λz=>nomatch z⟩
   |@b _ k=>
     rcases k with _|_
     ·exact aS6 (d:=.str ("false" :Str)) rfl (by rw[eI5];exact q G Ap.refl)
     ·exact aS6 (d:=.str ("true" :Str)) rfl (by rw[eS7];exact q G Ap.refl)
   |@s _ z hs=>
     exact t8<| v6 (X1:= [some (.str z)]) (G':=G) rfl<| v6 (X1:= [some (.str z)]) (G':=G) rfl<| f9.mpr<| M7<| b8 (a:=true) (G':=G) rfl ⟨λ_=>o8<| bin_w<| bin_w<| b8 (a:=.str ("\"" :Str)) (G':=G) rfl<| b8 (a:=.str z) (G':=G) rfl<| (dK2 hs.2 (q G Ap.refl)).mono λy G1 k=>b8 rfl k,λz=>nomatch z⟩
   |@l _ l hl hx=>
     rw[bM6]at hz q
     simp only[zp,ze,jw]at hz
     refine t8<| v6 (X1:= [some (.tup [.str v9,.tup l])]) (G':=G) rfl<| v6 (X1:= [some (.tup [.str v9,.tup l])]) (G':=G) rfl<| v6 (X1:= [some (.tup [.str v9,.tup l])]) (G':=G) rfl<| f9.mpr<| M7<| b8 (a:=true) (G':=G) rfl ⟨λ_=>?_,λz=>nomatch z⟩
     refine o8<| bin_w<| bin_w<| b8 (a:=.str ("[" :Str)) (G':=G) rfl<| aX6.mpr<| b8 (a:=.str (", " :Str)) (G':=G) rfl<| bF6.mpr<| j6<| aM7 (l:=l) (G1:=G) rfl (by lia)<| (X7 (Ap G) One (λd=>.str (ofL (shN n d))) (λ_ _=>rfl) _ _ G ⟨_,rfl⟩ Ap.refl ?_).mono ?_
     · rintro x hxl _ G1 ⟨u,rfl⟩ j
       have:=cJ7 (xa (f:=shN n) hxl)
       exact aS7 ⟨_,rfl⟩ (j7 (as:= [x]) rfl rfl<| ih (hx x hxl) (by lia) (by lia) λG2 j2=>⟨j.trans j2,rfl⟩)
     · rintro _ G1 ⟨j,rfl⟩
       exact j8.mpr<| (cJ9 (o:=("[" :Str)) (c:=("]" :Str)) (a:=91) (b:=93) rfl rfl m8 (by lia) (q _ (j.trans Ap.one))).mono λx G2 k=>k.mono λy G3 k=>b8 rfl k
   |@r _ ps hl hp hn hx=>
     rw[bU2]at hz q
     simp only[zp,ze,jw]at hz
     refine t8<| v6 (X1:= [some (.tup [.str M3,.tup (ps.map prD)])]) (G':=G) rfl<| v6 (X1:= [some (.tup [.str M3,.tup (ps.map prD)])]) (G':=G) rfl<| v6 (X1:= [some (.tup [.str M3,.tup (ps.map prD)])]) (G':=G) rfl<| v6 (X1:= [some (.tup [.str M3,.tup (ps.map prD)])]) (G':=G) rfl ?_
     refine o8<| bin_w<| bin_w<| b8 (a:=.str ("{" :Str)) (G':=G) rfl<| aX6.mpr<| b8 (a:=.str (", " :Str)) (G':=G) rfl<| bF6.mpr<| j6<| aM7 (l:=ps.map prD) (G1:=G) rfl (by rw[zh];lia)<| (X7 (Ap G) One (λd=>.str (ofL (shQ (shN n) d))) (λ_ _=>rfl) _ _ G ⟨_,rfl⟩ Ap.refl ?_).mono ?_
     · rintro x hxl _ G1 ⟨u,rfl⟩ j
       have h1:=cJ7 (xa (f:=shQ (shN n)) hxl)
       obtain⟨p,hp,rfl⟩:=zW.mp hxl
       have h2:=dN4 (f:=shN n) (p:=p)
       exact aS7 ⟨_,rfl⟩ (j7 (as:= [prD p]) rfl rfl<| dZ4 (ih (hx p hp) (by lia) (by lia)) (hn p hp).1.2 (by lia) λG2 j2=>⟨j.trans j2,rfl⟩)
     · rintro _ G1 ⟨j,rfl⟩
       exact j8.mpr<| (cJ9 (o:=("{" :Str)) (c:=("}" :Str)) (a:=123) (b:=125) rfl rfl m8 (by lia) (q _ (j.trans Ap.one))).mono λx G2 k=>k.mono λy G3 k=>b8 rfl k
section
variable{a b:Fe}{t:DSt->M Bool}{f g:Fs}{U:DSt}{G G1:DH}{Q:DPP}{P:Fl->DH->Prop}{B:Bool->DH->Prop}
theorem cC4(e:a U G=some (.ok (.bl true),G1))(w:Wp (b U) G1 Q):Wp (aG9 a b U) G Q:=cJ4.mpr (b8 e (S5.mpr (by rw[if_pos rfl];exact w)))
theorem cD7(w:Wp (a U) G λx G1=>x= .bl true/\Wp (b U) G1 Q):Wp (aG9 a b U) G Q:=cJ4.mpr (w.mono λx G1 q=>by
 obtain⟨rfl,q⟩:=q
 exact S5.mpr (by rw[if_pos rfl];exact q))
theorem cK8(w:Wp (t U) G λk G1=>k=true/\Wp (g U) G1 P):Wp (ifS (bM7 t) f g U) G P:=M7 (bR3.mpr (w.mono λk G1 q=>by
 obtain⟨rfl,q⟩:=q
 exact⟨λz=>(by exact bL8 z),λ_=>q⟩))
theorem V4(w:Wp (a U) G λx G1=>x= .bl true/\B true G1):Wp (truthE a U) G B:=R4.mpr (w.mono λx G1 q=>by
 obtain⟨rfl,q⟩:=q
 exact S5.mpr q)
theorem aI4(w:Wp (a U) G λx G1=>x= .bl false/\B false G1):Wp (truthE a U) G B:=R4.mpr (w.mono λx G1 q=>by
 obtain⟨rfl,q⟩:=q
 exact S5.mpr q)
end
theorem eX8:aN9=m9 (J7 vE1 nG4) (m9 (W2 RT RB) (u6 vE4)):=rfl
section
variable{T:Str}{G:DH}{Q:DPP}
theorem dX9{pre j9:List Nat}{c:Nat}(h:tl T=pre++c::j9)(hz:T.length<=zd)(q:Q (.str ⟨#[c]⟩) G):Wp (ixD (.str T) (.int (pre.length:Int))) G Q:=by
 have e:ixD (.str T) (.int (pre.length:Int))=if T.length<=zd then (do
  let c <-aJ5 (atI T.cps.toList (pre.length:Int))
  pure (.str ⟨#[c]⟩):M D)else M.stuck:=rfl
 rw[e,if_pos hz]
 refine g8.mpr<| aI8.mpr ⟨c,?_,d8.mpr q⟩
 have hl:(tl T).length=pre.length+(c::j9).length:=by rw[h,ze]
 show atI (tl T) (pre.length:Int)=some c
 unfold atI ixN
 simp only[zp]at hl
 rw[if_pos (by lia),if_pos (by lia)]
 simp only[jA,xY,h]
 rw[jH (zj _),Nat.sub_self];rfl
def cT5(lo hi:Nat)(j9:List Nat):Prop:=∀c r,j9=c::r->¬(lo<=c/\c<=hi)
theorem bX2{lo hi:Nat}{a1:Option D}(hz:T.length<=zd):∀(rn pre j9:List Nat) (n:Nat),rn.length<=n->tl T=pre++rn++j9->(∀c∈rn,lo<=c/\c<=hi)->cT5 lo hi j9->
 Wp (J6 (n+1) RT RB [some (.str T),a1,some (.str ⟨#[lo]⟩),some (.str ⟨#[hi]⟩),some (.int (pre.length:Int))]) G λfl G'=>G'=G/\fl= .nx [some (.str T),a1,some (.str ⟨#[lo]⟩),some (.str ⟨#[hi]⟩),some (.int ((pre.length:Int)+rn.length))]
 |[],pre,j9,n,hn,h,hr,ho=>by
   rw[jC]at h
   have hl:T.length=pre.length+j9.length:=by rw[<-J9,h,ze]
   refine aI1.mpr ?_
   refine(show Wp (RT _) G λk G1=>k=false/\G1=G from ?_).mono ?_
   · refine aO4<| u0<| bin_w<| b8 (a:=.int (pre.length:Int)) (G':=G) rfl<| aB2 (as:= [.str T]) rfl<| (aA3 hz).mpr<| bD9.mpr ⟨_,rfl,λk=>?_,λk=>⟨rfl,rfl⟩⟩
     have k:=of_decide_eq_true k
     rcases j9 with _|⟨c,r⟩
     ·simp at hl;lia
     · have nc:=ho c r rfl
       refine u0<| bV5.mpr<| b8 (a:=.str ⟨#[lo]⟩) (G':=G) rfl<| bin_w<| b8 (a:=.str T) (G':=G) rfl<| b8 (a:=.int (pre.length:Int)) (G':=G) rfl<| dX9 h hz<| aW0.mpr ⟨_,rfl,?_⟩
       by_cases h1:lo<=c
       · rw[decide_eq_true h1,if_pos rfl]
         refine b8 (a:=.str ⟨#[hi]⟩) (G':=G) rfl<| aW0.mpr ⟨_,rfl,?_,rfl⟩
         exact decide_eq_false λh2=>nc ⟨h1,h2⟩
       · rw[decide_eq_false h1,if_neg zJ]
         exact⟨_,rfl,rfl,rfl⟩
   · rintro _ _ ⟨rfl,rfl⟩
     rw[if_neg zJ]
     exact⟨rfl,by simp⟩
 |c::r,pre,j9,n,hn,h,hr,ho=>by
   obtain⟨m,rfl⟩:∃m,n=m+1:=⟨n-1,by simp at hn;lia⟩
   have hc:=hr c (zr ..)
   have h':tl T=pre++c::(r++j9):=by rw[h,zH];rfl
   have hl:T.length=pre.length+(c::(r++j9)).length:=by rw[<-J9,h',ze]
   refine aI1.mpr ?_
   refine(show Wp (RT _) G λk G1=>k=true/\G1=G from ?_).mono ?_
   · refine aO4<| u0<| bin_w<| b8 (a:=.int (pre.length:Int)) (G':=G) rfl<| aB2 (as:= [.str T]) rfl<| (aA3 hz).mpr<| bD9.mpr ⟨_,rfl,λ_=>?_,λk=>?_⟩
     · refine u0<| bV5.mpr<| b8 (a:=.str ⟨#[lo]⟩) (G':=G) rfl<| bin_w<| b8 (a:=.str T) (G':=G) rfl<| b8 (a:=.int (pre.length:Int)) (G':=G) rfl<| dX9 h' hz<| aW0.mpr ⟨_,rfl,?_⟩
       rw[decide_eq_true hc.1,if_pos rfl]
       exact b8 (a:=.str ⟨#[hi]⟩) (G':=G) rfl<| aW0.mpr ⟨_,rfl,decide_eq_true hc.2,rfl⟩
     · have k:=of_decide_eq_false k
       simp at hl;lia
   · rintro _ G1 ⟨rfl,eG⟩
     rw[if_pos rfl,eG]
     clear eG
     refine b8 (a:=.nx [some (.str T),a1,some (.str ⟨#[lo]⟩),some (.str ⟨#[hi]⟩),some (.int ((pre.length:Int)+1))]) rfl ?_
     have ih:=bX2 (a1:=a1) hz r (pre++[c]) j9 m (by simp at hn;lia) (by rw[h];simp) (λc hc=>hr c (zw _ hc)) ho
     rw[ze]at ih
     refine(show Wp (J6 (m+1) RT RB [some (.str T),a1,some (.str ⟨#[lo]⟩),some (.str ⟨#[hi]⟩),some (.int ((pre.length:Int)+1))]) G _ from ih).mono ?_
     rintro _ _ ⟨rfl,rfl⟩
     refine⟨rfl,?_⟩
     rw[zp]
     congr 6
     simp;lia
theorem aL0{lo hi:Nat}{pre rn j9:List Nat}{at':Int}(hz:T.length<=zd)(ha:at'=pre.length)(h:tl T=pre++rn++j9)(hr:∀c∈rn,lo<=c/\c<=hi)(ho:cT5 lo hi j9)(q:Q (.int ((pre.length:Int)+rn.length)) G):
 Wp (X5 [.str T,.int at',.str ⟨#[lo]⟩,.str ⟨#[hi]⟩]) G Q:=by
 subst ha
 refine t8 (show Wp (aN9 [some (.str T),some (.int pre.length),some (.str ⟨#[lo]⟩),some (.str ⟨#[hi]⟩),none]) G _ from ?_)
 rw[eX8]
 refine v6 (G':=G) rfl<| f9.mpr<| aL8 (n:=rn.length+1)<| (bX2 hz rn pre j9 _ (zj _) h hr ho).mono ?_
 rintro _ _ ⟨rfl,rfl⟩
 exact o8<| b8 rfl<| o7 q
theorem J5{p:Str}{i:Int}{a b c:Fe}{U:DSt}(ha:a U G=some (.ok (.str T),G))(hb:b U G=some (.ok (.str p),G))(hc:c U G=some (.ok (.int i),G))(q:Q (.bl (aG6 T p i)) G):Wp (mtE isStrM startsD a (aX2 b c) U) G Q:=
 aX6.mpr<| b8 ha<| bF6.mpr<| m7 hb<| m7 hc<| j8.mpr<| b8 (a:=.bl (aG6 T p i)) rfl q
theorem aM8{p:Str}{pre j9:List Nat}{at':Int}(ha:at'=pre.length)(hp:p.length<=zd)(h:tl T=pre++(tl p++j9))(q:Q (.int ((pre.length:Int)+p.length)) G):Wp (aE4 [.str T,.int at',.str p]) G Q:=by
 subst ha
 refine t8<| f9.mpr<| cK8<| V4<| J5 (G:=G) rfl rfl rfl ?_
 rw[T6 h rfl]
 exact⟨rfl,rfl,m5.mpr<| o8<| bin_w<| b8 (a:=.int pre.length) (G':=G) rfl<| aB2 (as:= [.str p]) rfl<| (aA3 hp).mpr<| Z6.mpr<| o7 q⟩
end
section
variable{T:Str}{G:DH}{Q:DPP}
theorem cE9{n:Nat}{z:Str}:shN (n+1) (.str z)=34::(tl z++[34]):=rfl
theorem bF2{n:Nat}{i:Int}:shN (n+1) (.int i)=nmL i:=rfl
theorem eE5{z:Str}{pre post:List Nat}(hz:T.length<=zd)(ht:TxL z)(h:tl T=pre++(34::(tl z++[34]))++post)(q:Q (.tup [.str z,.int ((pre.length:Int)+(z.length+2:Nat))]) G):Wp (F_text_at [.str T,.int pre.length]) G Q:=by
 have h1:tl T= (pre++[34])++tl z++([34]++post):=by rw[h];simp
 have e1:((pre++[34]).length:Int)= (pre.length:Int)+1:=by simp
 refine t8<| f9.mpr<| w6<| j7 (as:= [.str T,.int ((pre.length:Int)+1),.str ⟨#[97]⟩,.str ⟨#[122]⟩]) rfl rfl<| aL0 hz e1.symm h1 ht.1 (λc r e=>by cases e;decide) ?_
 rw[e1]
 have h2:=aH4 h1
 rw[e1]at h2
 refine o8<| P0.mpr<| j6<| J0.mpr<| b8 (a:=.str T) (G':=G) rfl<| b8 (a:=some ((pre.length:Int)+1)) (G':=G) rfl<| b8 (a:=some ((pre.length:Int)+1+(tl z).length)) (G':=G) rfl<| (R0 hz).mpr ?_
 rw[h2]
 have h3:tl T= (pre++[34]++tl z)++(tl ("\"" :Str)++post):=by rw[h1];simp;rfl
 refine j6<| aE7 (as:= [.str T,.int ((pre.length:Int)+1+(tl z).length),.str ("\"" :Str)]) rfl rfl<| aM8 (by simp;lia) (by decide) h3<| j8.mpr ⟨sz,o7 ?_⟩
 have e4:(((pre++[34]++tl z).length:Int)+(("\"" :Str).length:Nat))= (pre.length:Int)+(z.length+2:Nat):=by
  rw[ze,ze,J9]
  show (((pre.length+1+z.length:Nat):Int)+(1:Nat))=_
  lia
 rw[e4]
 exact q
theorem dQ3{i:Int}(h:smI i)(q:Q (.int i) G):Wp (bV1 [.str (ofL (nmL i))]) G Q:=by
 have e:bV1 [.str (ofL (nmL i))]= (match XD (ofL (nmL i)) with|some n=>if (ofL (nmL i)).length<=640 then pure (.int n)else M.stuck|none=>M.stuck:M D):=rfl
 have hl:=aF9 h
 rw[e,dS6 h]
 show Wp (if (ofL (nmL i)).length<=640 then pure (.int i)else M.stuck:M D) G Q
 rw[if_pos (show (ofL (nmL i)).length<=640 from zu hl (by decide))]
 exact d8.mpr q
theorem aZ9{i:Int}{pre post ds:List Nat}{st:Int}(hz:T.length<=zd)(hi:smI i)(h:tl T=pre++nmL i++post)(en:(pre.length:Int)+(nmL i).length=st+ds.length)(hd:ds≠ [])(h40:ds.length<=40)(h0:(aG6 T ("0" :Str) st=false)\/(nmL i).length=1)
 (q:Q (.tup [.int i,.int ((pre.length:Int)+(nmL i).length)]) G):
 Wp (m9 (ifS (orT (tBn eqD vE3 vE2) (tBn gtD (binE aO1 vE3 vE2) (cIn 40))) (X6 "NoValue" (aX1 (cSt "no number of one to forty figures where one is due"))) J2) (m9 (ifS (aQ2 (truthE (mtE isStrM startsD vE0 (aX2 (cSt "0") vE2))) (tBn gtD (binE aO1 vE3 vE1) cI1)) (X6 "NoValue" (aX1 (cSt "a nought ahead, or below nought"))) J2) (u6 (tX2 (cY1 bV1 (w5 vE0 (J3 vE1) (J3 vE3))) vE3))) [some (.str T),some (.int pre.length),some (.int st),some (.int (st+ds.length))]) G (PB Q):=by
 have hp:0<ds.length:=jy.mpr hd
 refine f9.mpr<| M7<| eQ4<| u0<| bin_w<| b8 (a:=.int (st+ds.length)) (G':=G) rfl<| b8 (a:=.int st) (G':=G) rfl<| T4.mpr ⟨_,rfl,λk=>?_,λ_=>u0<| bin_w<| bin_w<| b8 (a:=.int (st+ds.length)) (G':=G) rfl<| b8 (a:=.int st) (G':=G) rfl<| aN4.mpr<| b8 (a:=.int 40) (G':=G) rfl<| aO8.mpr ⟨_,rfl,λk=>?_,λ_=>m5.mpr ?_⟩⟩
 ·have:=of_decide_eq_true k;lia
 ·have:=of_decide_eq_true k;lia
 · have fin:Wp (u6 (tX2 (cY1 bV1 (w5 vE0 (J3 vE1) (J3 vE3))) vE3) [some (.str T),some (.int pre.length),some (.int st),some (.int (st+ds.length))]) G (PB Q):=by
    refine o8<| P0.mpr<| j6<| K5<| j6<| J0.mpr<| b8 (a:=.str T) (G':=G) rfl<| b8 (a:=some (pre.length:Int)) (G':=G) rfl<| b8 (a:=some (st+ds.length)) (G':=G) rfl<| (R0 hz).mpr<| j8.mpr ?_
    rw[<-en,aH4 h]
    refine dQ3 hi<| b8 (a:= [.int ((pre.length:Int)+(nmL i).length)]) (G':=G) (by rw[en];rfl) ⟨sz,o7 q⟩
   refine f9.mpr<| M7<| aO4<| R4.mpr<| J5 (G:=G) (i:=st) (p:=("0" :Str)) rfl rfl rfl<| S5.mpr ⟨λk=>?_,λ_=>⟨λz=>(nomatch z),λ_=>m5.mpr fin⟩⟩
   rcases h0 with h0|h0
   ·rw[h0]at k;cases k
   ·exact u0<| bin_w<| bin_w<| b8 (a:=.int (st+ds.length)) (G':=G) rfl<| b8 (a:=.int pre.length) (G':=G) rfl<| aN4.mpr<| b8 (a:=.int 1) (G':=G) rfl<| aO8.mpr ⟨_,rfl,λk=>(by have:=of_decide_eq_true k;lia),λ_=>m5.mpr fin⟩
theorem dK3{i:Int}{pre post:List Nat}(hz:T.length<=zd)(hi:smI i)(h:tl T=pre++nmL i++post)(ho:cT5 48 57 post)(q:Q (.tup [.int i,.int ((pre.length:Int)+(nmL i).length)]) G):Wp (aA0 [.str T,.int pre.length]) G Q:=by
 have hl:=aF9 hi
 have hs:tl T=pre++(nmL i++post):=by rw[h,zH]
 refine t8 (show Wp (Z9 [some (.str T),some (.int pre.length),none,none]) G _ from ?_)
 rcases aH3 i with⟨m,rfl⟩|⟨m,hm,rfl⟩
 · have en:=aP7 m
   have hb:aG6 T ("-" :Str) (pre.length:Int)=false:=V7 hs (c:=45) (ps:= []) rfl λc r e=>by
    rw[en]at e
    rcases k:dg m with _|⟨x,y⟩
    ·exact absurd k (bG0 m)
    · rw[k]at e
      have e:=(yz e).1
      have:=aP5 m x (by rw[k];exact zr ..)
      lia
   refine f9.mpr<| w6<| bO3.mpr<| aI4<| J5 (G:=G) rfl rfl rfl ?_
   rw[hb]
   refine⟨rfl,?_⟩
   rw[if_neg zJ]
   refine b8 (a:=.int pre.length) (G':=G) rfl<| f9.mpr<| w6<| j7 (as:= [.str T,.int pre.length,.str ⟨#[48]⟩,.str ⟨#[57]⟩]) rfl rfl<| aL0 hz rfl (by rw[h,en]) (aP5 m) ho ?_
   refine aZ9 (ds:=dg m) hz hi h (by rw[en]) (bG0 m) (fC1 hi) ?_ q
   rcases yH m with rfl|hp
   ·exact .inr (by rw[en,aG4 (by decide)];rfl)
   · refine .inl<| V7 hs (c:=48) (ps:= []) rfl λc r e=>?_
     obtain⟨x,y,k,h49⟩:=bN5 m hp
     rw[en,k]at e
     cases e;lia
 · have en:=aQ5 m hm
   have hb:aG6 T ("-" :Str) (pre.length:Int)=true:=T6 hs (r:=dg m++post) (by rw[en];rfl)
   refine f9.mpr<| w6<| bO3.mpr<| V4<| J5 (G:=G) rfl rfl rfl ?_
   rw[hb]
   refine⟨rfl,?_⟩
   rw[if_pos rfl]
   have h1:tl T= (pre++[45])++dg m++post:=by rw[h,en];simp
   have e1:((pre++[45]).length:Int)= (pre.length:Int)+1:=by simp
   refine b8 (a:=.int ((pre.length:Int)+1)) (G':=G) rfl<| f9.mpr<| w6<| j7 (as:= [.str T,.int ((pre.length:Int)+1),.str ⟨#[48]⟩,.str ⟨#[57]⟩]) rfl rfl<| aL0 hz e1.symm h1 (aP5 m) ho ?_
   rw[e1]
   refine aZ9 (ds:=dg m) hz hi h (by rw[en,zp];lia) (bG0 m) (eR6 hi) (.inl ?_) q
   rw[<-e1]
   refine V7 (j9:=dg m++post) (by rw[h1,zH]) (c:=48) (ps:= []) rfl λc r e=>?_
   obtain⟨x,y,k,h49⟩:=bN5 m hm
   rw[k]at e
   cases e;lia
end
theorem Gr.ap{G G':DH}(h:Gr G G'):Ap G G':=by
 refine⟨G'.drop G.length,?_⟩
 refine JX λi=>?_
 rcases Zi i G.length with c|c
 ·rw[zF c];exact h.2 i c
 · rw[jH c,List.getElem?_drop]
   congr 1;lia
theorem dN3{G:DH}{U:DSt}{fs:DSt->M (List D)}{R:Src->DH->Prop}:Wp (bL9 fs U) G R↔Wp (fs U) G λxs G1=>Wp (match xs with
 |[a,b]=>do
   let s1 <-aE9 a
   let s2 <-aE9 b
   pure ⟨(s1.items.zip s2.items).map λp=>.tup [p.1,p.2],λG=>s1.ck G&&s2.ck G⟩
 |_=>M.stuck:M Src) G1 R:=by
 unfold bL9;simp only[g8]<;>rfl
theorem dU0{G:DH}{p q:Nat}{k l:List D}{R:Src->DH->Prop}(ep:G[p]? =some (.lst k))(eq:G[q]? =some (.lst l)):Wp (match [D.ref p,D.ref q] with
 |[a,b]=>do
   let s1 <-aE9 a
   let s2 <-aE9 b
   pure ⟨(s1.items.zip s2.items).map λp=>.tup [p.1,p.2],λG=>s1.ck G&&s2.ck G⟩
 |_=>M.stuck:M Src) G R↔R ⟨(k.zip l).map λp=>.tup [p.1,p.2],λG=>ckO p (.lst k) G&&ckO q (.lst l) G⟩ G:=by
 show Wp (do
  let s1 <-aE9 (.ref p)
  let s2 <-aE9 (.ref q)
  pure ⟨(s1.items.zip s2.items).map λp=>.tup [p.1,p.2],λG=>s1.ck G&&s2.ck G⟩:M Src) G R↔_
 simp only[g8]
 rw[bA3 (U:= []) ep,bA3 (U:= []) eq]
 exact d8
theorem dG1{α:Type}{R:α->α->Prop}:∀ {l:List α},l.Pairwise R->∀p∈l.zip (l.drop 1),R p.1 p.2
 |[],_,p,hp=>by cases hp
 |[x],_,p,hp=>by cases hp
 |x::y::r,h,p,hp=>by
   have h':=yg.mp h
   rcases zi.mp (show p∈(x,y)::(y::r).zip r from hp)with rfl|hp
   ·exact h'.1 _ (by simp)
   ·exact dG1 (l:=y::r) h'.2 p hp
theorem dL5{G:DH}{p:Nat}{l:List D}{lo hi:Option Int}{Q:DPP}(e:G[p]? =some (.lst l)):Wp (slT (.ref p) lo hi) G Q↔Q (.ref G.length) (G++[.lst (DL.cutD l lo hi)]):=eD0 e
noncomputable def SqD(G:DH)(d:D)(l:List D):Prop:=d= .tup l\/∃p,d= .ref p/\G[p]? =some (.lst l)
noncomputable def eT7(f:D->D->Bool):D->Bool
 | .tup [a,b]=>f a b
 |_=>false
theorem cY5{f:D->D->Bool}{d:D}{l:List D}{e:Fe}{G:DH}{Q:DPP}(hd:SqD G d l)(hl:l.length<=900000)
 (h:∀p∈l.zip (l.drop 1),∀G1,Ap G G1->Wp (e [some p.1,some p.2]) G1 λy G2=>y= .bl (f p.1 p.2)/\Ap G1 G2) (q:∀G',Ap G G'->Q (.bl ((l.zip (l.drop 1)).all λp=>f p.1 p.2)) G'):
 Wp (q12 bO1 (aX1 (R1 (bL9 (aX2 vE0 (w5 vE0 (J3 cI1) (J4)))) [none,none] (bZ8 2 (aH0 nG0 (aH0 nG1 (cE5)))) (U6) e)) [some d]) G Q:=by
 have bg:=big
 have hz:(l.zip (l.drop 1)).length<=zd:=by rw[List.length_zip];lia
 have main:∀(ck:DH->Bool) (G0:DH),Ap G G0->(∀G',Ap G0 G'->ck G'=true)->Wp (K9 (bZ8 2 (aH0 nG0 (aH0 nG1 (cE5)))) U6 e ck ((l.zip (l.drop 1)).map λp=>.tup [p.1,p.2]) [none,none]) G0 λys G2=>Wp (q11 [some d]) (G2++[.lst ys]) λxs G3=>Wp (bO1 (.ref G2.length::xs)) G3 Q:=by
  intro ck G0 j0 hck
  refine(X7 (Ap G0) (λU=>∃u v,U= [u,v]) (λx=>.bl (eT7 f x)) hck _ _ G0 ⟨_,_,rfl⟩ Ap.refl ?_).mono ?_
  · rintro d hd _ G1 ⟨u,v,rfl⟩ j
    obtain⟨p,hp,rfl⟩:=zW.mp hd
    exact b8 (a:= [some p.1,some p.2]) rfl ⟨rfl,⟨_,_,rfl⟩,b8 (a:=true) rfl ⟨rfl,rfl,(h p hp G1 (j0.trans j)).mono λy G2 q=>⟨j.trans q.2,q.1⟩⟩⟩
  · rintro _ G2 ⟨j,rfl⟩
    refine j8.mpr ((cB1 (l:=(l.zip (l.drop 1)).map λp=>.tup [p.1,p.2]) (f:=eT7 f) m8).mpr ?_)
    rw[Yb]
    exact q _ ((j0.trans j).trans Ap.one)
 refine K5<| j6<| wp_comp.mpr ?_
 rcases hd with rfl|⟨p,rfl,ep⟩
 · refine b8 (a:=⟨(l.zip (DL.cutD l (some 1) none)).map λp=>.tup [p.1,p.2],λ_=>true&&true⟩) (G':=G) rfl ?_
   rw[dX3]
   exact⟨by rw[zh];exact hz,main _ G Ap.refl λ_ _=>rfl⟩
 · refine dN3.mpr<| m7 (x:=.ref p) rfl<| j6<| J0.mpr<| b8 (a:=.ref p) rfl<| dV5.mpr<| b8 (a:=.int 1) rfl ⟨1,rfl,cS2.mpr<| (dL5 ep).mpr<| j8.mpr<| (dU0 (O9 ep) m8).mpr ?_⟩
   rw[dX3]
   refine⟨by rw[zh];exact hz,main _ _ Ap.one λG' j=>?_⟩
   have h1:=j.at (O9 ep)
   have h2:=j.at (m8 (G:=G) (o:=DO.lst (l.drop 1)))
   simp only[ckO,h1,h2]
   simp
theorem bX3{d:D}{l:List D}{G:DH}{Q:DPP}(hd:SqD G d l)(hl:l.length<=900000)(h:l.Pairwise λa b=>∀G,ltN 40 G a b=some true)(q:∀G',Ap G G'->Q (.bl true) G'):Wp (aH1 [d]) G Q:=
 t8<| o8<| cY5 (f:=λ_ _=>true) hd hl (λp hp G1 j=>bin_w<| b8 rfl<| b8 rfl<| dH0.mpr ⟨true,dG1 h p hp G1,rfl,Ap.refl⟩) λG' a=>by
  rw[yU.mpr λ_ _=>rfl]
  exact o7 (q G' a)
theorem cN0{ss:List Str}(h:ss.Pairwise LtS):(ss.map D.str).Pairwise λa b=>∀G,ltN 40 G a b=some true:=
 JW.mpr (h.imp λ{a b} q G=>(show ltN 40 G (.str a) (.str b)=some (decide (a.cps.toList<b.cps.toList))from rfl).trans (by rw[decide_eq_true (show a.cps.toList<b.cps.toList from q)]))
noncomputable def hd0:D->D
 | .tup (x::_)=>x
 |_=>.non
def PT:DSt->M Bool:=(truthE cBt)
theorem dW8(R:List D->M D):aD2 R=m9 (ifS (truthE (mtE isStrM startsD vE0 (aX2 vE2 vE1))) (u6 (tX2 (aK1 q11) (binE addD vE1 (cY1 lenF vE2)))) J2) (asQ (O3 q11) nG5 (W2 PT (PW R))):=rfl
theorem cU5{i n:Nat}{tab:Str->Option (List D->M D)}{fs:DSt->M (List D)}{U:DSt}{x:Str}{F:List D->M D}{G:DH}{Q:DPP}(h:U[i]? =some (some (.fn x)))(ht:tab x=some F)(w:Wp (fs U) G λds G1=>ds.length=n/\Wp (F ds) G1 Q):Wp (aE0 i n tab fs U) G Q:=by
 have e:aE0 i n tab fs U= (fs U >>= fnZ n F):=by
  delta aE0
  rw[h]
  show (match tab x with|some F=>fs U >>= fnZ n F|none=>M.stuck:M D)=_
  rw[ht]
 rw[e]
 exact g8.mpr (w.mono λds G1 q=>bN3.mpr q)
def bJ8(T:Str)(F:List D->M D)(dp:Int)(t:List Nat)(d:D):Prop:=∀ {pre post:List Nat} {G:DH} {Q:DPP},tl T=pre++t++post->cT5 48 57 post->(∀G',Ap G G'->Q (.tup [d,.int ((pre.length:Int)+t.length)]) G')->Wp (F [.str T,.int pre.length,.int dp]) G Q
section
variable{T:Str}{R F:List D->M D}{x:Str}{dp:Int}{f:D->List Nat}{cl:Nat}{G0:DH}{c:Nat}
noncomputable abbrev pS(T:Str)(at':Int)(cl:Nat)(x:Str)(dp:Int)(c:Nat)(u:Option D):DSt:= [some (.str T),some (.int at'),some (.str ⟨#[cl]⟩),some (.fn x),some (.int dp),sRf c,u]
theorem bB8(hz:T.length<=zd)(ht:aV7 "value_at" "pair_at" R (K8 R) x=some F)(h44:cl≠44)(hcl:¬(48<=cl/\cl<=57))(hle:G0.length<=c):∀(xs dn:List D) (y:D) (pre post:List Nat) (u:Option D) (n:Nat) (G:DH),xs.length<n->(∀x∈y::xs,bJ8 T F dp (f x) x)->tl T=pre++(f y++(glL [44,32] (xs.map f)++(cl::post)))->Gr G0 G->G[c]? =some (.lst dn)->dn.length+xs.length<900000->
 Wp (J6 n PT (PW R) (pS T pre.length cl x dp c u)) G λfl G'=>Gr G0 G'/\fl= .rt (.tup [.tup (dn++y::xs),.int ((pre.length:Int)+(f y++glL [44,32] (xs.map f)).length+1)])
 |xs,dn,y,pre,post,u,0,G,hn,hr,h,g,e,hl=>by lia
 |xs,dn,y,pre,post,u,n+1,G,hn,hr,h,g,e,hl=>by
   have bg:=big
   refine aI1.mpr<| b8 (a:=true) (G':=G) rfl ?_
   rw[if_pos rfl]
   have h1:tl T=pre++f y++(glL [44,32] (xs.map f)++(cl::post)):=by rw[h,zH]
   have ho:cT5 48 57 (glL [44,32] (xs.map f)++(cl::post)):=by
    intro a r ea
    rcases xs with _|⟨z,t⟩
    · have ea:cl=a:=(yz ea).1
      rw[<-ea];exact hcl
    · have ea:44=a:=(yz ea).1
      rw[<-ea];decide
   refine f9.mpr<| w6<| cU5 rfl ht<| b8 (a:= [.str T,.int pre.length,.int dp]) (G':=G) rfl ⟨rfl,hr y (zr ..) h1 ho λG1 j1=>?_⟩
   have e1:=j1.at e
   refine f9.mpr<| aZ7.mpr<| aX6.mpr<| b8 (a:=.ref c) (G':=G1) rfl<| (V2 e1).mpr<| b8 (a:= [y]) (G':=G1) rfl<| (aP6 e1 (by lia)).mpr ?_
   have e2:(G1.set c (.lst (dn++[y])))[c]? =some (.lst (dn++[y])):=zY (lt_of_get e1)
   have g2:Gr G0 (G1.set c (.lst (dn++[y]))):=(g.trans j1.gr).set hle
   generalize G1.set c (.lst (dn++[y]))=G2 at e2 g2
   have el:((pre++f y).length:Int)= (pre.length:Int)+(f y).length:=by simp
   rcases xs with _|⟨z,t⟩
   · have hb:aG6 T ⟨#[cl]⟩ ((pre.length:Int)+(f y).length)=true:=by
      rw[<-el]
      exact T6 (j9:=cl::post) (r:=post) (by rw[h1];rfl) rfl
     refine f9.mpr<| M7<| V4<| J5 (G:=G2) rfl rfl rfl ?_
     rw[hb]
     refine⟨rfl,λ_=>o8<| P0.mpr<| j6<| aB2 (as:= [.ref c]) rfl<| (aC7 e2).mpr<| b8 (a:= [.int ((pre.length:Int)+(f y).length+1)]) (G':=G2) rfl ⟨sz,g2,?_⟩,λz=>nomatch z⟩
     simp[glL]
   · have hb:aG6 T ⟨#[cl]⟩ ((pre.length:Int)+(f y).length)=false:=by
      rw[<-el]
      exact V7 h1 (c:=cl) (ps:= []) rfl λa r ea=>by
       have ea:44=a:=(yz ea).1
       rw[<-ea];exact Ne.symm h44
     refine f9.mpr<| M7<| aI4<| J5 (G:=G2) rfl rfl rfl ?_
     rw[hb]
     refine⟨rfl,λz=>(nomatch z),λ_=>m5.mpr ?_⟩
     have h2:tl T= (pre++f y)++(tl (", " :Str)++(f z++(glL [44,32] (t.map f)++(cl::post)))):=by rw[h1];simp[glL];rfl
     refine w6<| aE7 (as:= [.str T,.int ((pre.length:Int)+(f y).length),.str (", " :Str)]) rfl rfl<| aM8 el.symm (by decide) h2 ?_
     have el2:(((pre++f y).length:Int)+((", " :Str).length:Nat))= ((pre++f y++[44,32]).length:Int):=by
      rw[ze (as:=pre++f y)]
      show _+((2:Nat):Int)=_
      simp
     rw[el2]
     have h3:tl T= (pre++f y++[44,32])++(f z++(glL [44,32] (t.map f)++(cl::post))):=by rw[h2,zH (as:=pre++f y)];rfl
     refine(bB8 hz ht h44 hcl hle t (dn++[y]) z _ post _ n G2 (by simp at hn;lia) (λx hx=>hr x (zw _ hx)) h3 g2 e2 (by simp at hl ⊢;lia)).mono ?_
     rintro _ G3 ⟨g3,rfl⟩
     refine⟨g3,?_⟩
     rw[zH]
     have:((pre++f y++[44,32]).length:Int)+(f z++glL [44,32] (t.map f)).length+1= (pre.length:Int)+(f y++glL [44,32] ((z::t).map f)).length+1:=by
      simp[glL];lia
     rw[this];rfl
theorem cF4(hz:T.length<=zd)(ht:aV7 "value_at" "pair_at" R (K8 R) x=some F)(h44:cl≠44)(hcl:¬(48<=cl/\cl<=57)){xs:List D}{pre post:List Nat}{at':Int}{G:DH}{Q:DPP}(ha:at'=pre.length)(hr:∀x∈xs,bJ8 T F dp (f x) x)(hh:∀x∈xs,f x≠ []/\hdN cl (f x))(hl:xs.length<=400000)(h:tl T=pre++(Q9 [44,32] (xs.map f)++(cl::post)))
 (q:∀G',Ap G G'->Q (.tup [.tup xs,.int ((pre.length:Int)+(Q9 [44,32] (xs.map f)).length+1)]) G'):Wp (T3 R [.str T,.int at',.str ⟨#[cl]⟩,.fn x,.int dp]) G Q:=by
 subst ha
 refine t8 (show Wp (aD2 R [some (.str T),some (.int pre.length),some (.str ⟨#[cl]⟩),some (.fn x),some (.int dp),none,none]) G _ from ?_)
 rw[dW8]
 rcases xs with _|⟨y,t⟩
 · have hb:aG6 T ⟨#[cl]⟩ (pre.length:Int)=true:=T6 (j9:=cl::post) (r:=post) h rfl
   refine f9.mpr<| M7<| V4<| J5 (G:=G) rfl rfl rfl ?_
   rw[hb]
   exact⟨rfl,λ_=>o8<| b8 (a:=.tup [.tup [],.int ((pre.length:Int)+1)]) (G':=G) rfl<| o7 (by have:=q G Ap.refl;simpa [Q9]using this),λz=>nomatch z⟩
 · have hy:=hh y (zr ..)
   have hb:aG6 T ⟨#[cl]⟩ (pre.length:Int)=false:=V7 h (c:=cl) (ps:= []) rfl λa r ea=>by
    rcases k:f y with _|⟨b,s⟩
    ·exact absurd k hy.1
    · have ea:b=a:=by
       have ea:(f y++glL [44,32] (t.map f))++(cl::post)=a::r:=ea
       rw[k]at ea
       exact(yz ea).1
      rw[<-ea];exact hy.2 b s k
   refine f9.mpr<| M7<| aI4<| J5 (G:=G) rfl rfl rfl ?_
   rw[hb]
   refine⟨rfl,λz=>(nomatch z),λ_=>m5.mpr ?_⟩
   refine v6 (X1:=pS T pre.length cl x dp G.length none) (G':=G++[.lst []]) rfl<| aL8 (n:=t.length+1)<| (bB8 (G0:=G) (f:=f) hz ht h44 hcl (zj _) t [] y pre post none (t.length+1) _ (by lia) hr (by rw[h];show _=pre++(f y++(_++_));rw[<-zH (f y)];rfl) Gr.app m8 (by simp at hl ⊢;lia)).mono ?_
   rintro _ G1 ⟨g1,rfl⟩
   exact o7 (q G1 g1.ap)
end
section
variable{T:Str}{R:List D->M D}{dp:Int}
theorem dY3:aV7 "value_at" "pair_at" R (K8 R) "value_at" =some R:=by unfold aV7;rw[if_pos rfl]
theorem dW5:aV7 "value_at" "pair_at" R (K8 R) "pair_at" =some (K8 R):=by unfold aV7;rw[if_neg (by decide),if_pos rfl]
theorem cD9{f:D->List Nat}{p:Str×D}(hz:T.length<=zd)(hn:TxL p.1/\tl p.1≠ [])(h:bJ8 T R dp (f p.2) p.2):bJ8 T (K8 R) dp (shQ f (prD p)) (prD p):=by
 intro pre post G Q ht ho q
 have e0:shQ f (prD p)=tl p.1++[58,32]++f p.2:=rfl
 rw[e0]at ht q
 have h1:tl T=pre++tl p.1++([58,32]++f p.2++post):=by rw[ht];simp
 have np:0<(tl p.1).length:=jy.mpr hn.2
 refine t8<| f9.mpr<| w6<| j7 (as:= [.str T,.int pre.length,.str ⟨#[97]⟩,.str ⟨#[122]⟩]) rfl rfl<| aL0 hz rfl h1 hn.1.1 (λc r e=>by cases e;decide) ?_
 refine f9.mpr<| M7<| u0<| bin_w<| b8 (a:=.int ((pre.length:Int)+(tl p.1).length)) (G':=G) rfl<| b8 (a:=.int pre.length) (G':=G) rfl<| T4.mpr ⟨_,rfl,λk=>(by have:=of_decide_eq_true k;lia),λ_=>m5.mpr ?_⟩
 have el:((pre++tl p.1).length:Int)= (pre.length:Int)+(tl p.1).length:=by simp
 have h2:tl T= (pre++tl p.1)++(tl (": " :Str)++(f p.2++post)):=by rw[h1];simp;rfl
 have el2:(((pre++tl p.1).length:Int)+((": " :Str).length:Nat))= ((pre++tl p.1++[58,32]).length:Int):=by
  rw[ze (as:=pre++tl p.1)]
  show _+((2:Nat):Int)=_
  simp
 refine f9.mpr<| w6<| K5<| m7 (x:=.str T) rfl<| j6<| aE7 (as:= [.str T,.int ((pre.length:Int)+(tl p.1).length),.str (": " :Str)]) rfl rfl<| aM8 el.symm (by decide) h2<| b8 (a:= [.int dp]) (G':=G) rfl<| bN3.mpr ⟨rfl,?_⟩
 rw[el2]
 have h3:tl T= (pre++tl p.1++[58,32])++f p.2++post:=by rw[h2];simp;rfl
 refine h h3 ho λG1 j1=>?_
 refine o8<| P0.mpr<| j6<| P0.mpr<| j6<| J0.mpr<| b8 (a:=.str T) (G':=G1) rfl<| b8 (a:=some (pre.length:Int)) (G':=G1) rfl<| b8 (a:=some ((pre.length:Int)+(tl p.1).length)) (G':=G1) rfl<| (R0 hz).mpr ?_
 rw[aH4 h1]
 refine b8 (a:= [p.2]) (G':=G1) rfl ⟨sz,b8 (a:= [.int (((pre++tl p.1++[58,32]).length:Int)+(f p.2).length)]) (G':=G1) rfl ⟨sz,o7 ?_⟩⟩
 have e4:((pre++tl p.1++[58,32]).length:Int)+(f p.2).length= (pre.length:Int)+(tl p.1++[58,32]++f p.2).length:=by simp;lia
 rw[e4]
 exact q G1 j1
theorem bP2{ps:List (Str×D)}{G:DH}{Q:DPP}(hl:ps.length<=400000)(q:Q (.ref G.length) (G++[.lst ((ps.map (·.1)).map D.str)])):Wp (S6 [.tup (ps.map prD)]) G Q:=by
 refine t8<| o8<| aM7 (l:=ps.map prD) (G1:=G) rfl (by rw[zh];have:=big;lia)<| (X7 (λG2=>G2=G) One hd0 (λ_ _=>rfl) _ _ G ⟨_,rfl⟩ rfl ?_).mono ?_
 · rintro d hd _ _ ⟨u,rfl⟩ rfl
   obtain⟨f,hf,rfl⟩:=zW.mp hd
   exact aS7 ⟨_,rfl⟩ (b8 (a:=.str f.1) rfl ⟨rfl,rfl⟩)
 · rintro _ _ ⟨rfl,rfl⟩
   rw[xH]at q ⊢
   exact o7 q
theorem V1{p:Str}{pre j9:List Nat}{G:DH}{P:Fl->DH->Prop}{X Y:Fs}{c:Nat}{ps:List Nat}(h:tl T=pre++j9)(hp:tl p=c::ps)(k:hdN c j9)(w:Wp (Y [some (.str T),some (.int pre.length),some (.int dp)]) G P):
 Wp (m9 (ifS (truthE (mtE isStrM startsD vE0 (aX2 (cE (.str p)) vE1))) X J2) Y [some (.str T),some (.int pre.length),some (.int dp)]) G P:=by
 refine f9.mpr<| M7<| aI4<| J5 (G:=G) (T:=T) (p:=p) (i:=pre.length) rfl rfl rfl ?_
 rw[V7 h hp k]
 exact⟨rfl,λz=>(nomatch z),λ_=>m5.mpr w⟩
theorem aT2{p:Str}{pre j9 r:List Nat}{G:DH}{P:Fl->DH->Prop}{e:Fe}{Y:Fs}(h:tl T=pre++j9)(k:j9=tl p++r)(w:Wp (e [some (.str T),some (.int pre.length),some (.int dp)]) G λd G1=>P (.rt d) G1):
 Wp (m9 (ifS (truthE (mtE isStrM startsD vE0 (aX2 (cE (.str p)) vE1))) (u6 e) J2) Y [some (.str T),some (.int pre.length),some (.int dp)]) G P:=by
 refine f9.mpr<| M7<| V4<| J5 (G:=G) (T:=T) (p:=p) (i:=pre.length) rfl rfl rfl ?_
 rw[T6 h k]
 exact⟨rfl,λ_=>o8 w,λz=>nomatch z⟩
theorem R3{c d:Nat}{r:List Nat}(h:d≠c):hdN c (d::r):=λa s e=>by
 have:=(yz e).1
 rw[<-this];exact h
theorem dB1{n:Nat}{d:D}(h:GV n d):∃c r,shN n d=c::r/\(c=91\/c=123\/c=34\/c=116\/c=102\/c=45\/(48<=c/\c<=57)):=by
 cases h with
 |@i n i hi=>
   rw[bF2]
   rcases aH3 i with⟨m,rfl⟩|⟨m,hm,rfl⟩
   · rw[aP7]
     rcases k:dg m with _|⟨x,y⟩
     ·exact absurd k (bG0 m)
     ·exact⟨x,y,rfl,by have:=aP5 m x (by rw[k];exact zr ..);lia⟩
   ·rw[aQ5 m hm];exact⟨45,_,rfl,by lia⟩
 |@b n k=>rcases k with _|_<;>exact⟨_,_,rfl,by decide⟩
 |@s n z hs=>exact⟨34,_,rfl,by lia⟩
 |@l n l hl hx=>rw[bM6];exact⟨91,_,rfl,by lia⟩
 |@r n ps hl hp hn hx=>rw[bU2];exact⟨123,_,rfl,by lia⟩
end
theorem eV1{T:Str}(hz:T.length<=zd):∀ {n N:Nat} {d:D} {dp:Int},GV n d->n<=N->dp+n<=21->bJ8 T (Q7 N) dp (shN n d) d:=by
 intro n
 induction n with
 |zero=>intro N d dp h;cases h
 |succ n ih=>
   intro N d dp h hN hd pre post G Q ht ho q
   obtain⟨M,rfl⟩:∃M,N=M+1:=⟨N-1,by lia⟩
   have bg:=big
   have ht':tl T=pre++(shN (n+1) d++post):=by rw[ht,zH]
   refine t8 (show Wp (X4 (Q7 M) [some (.str T),some (.int pre.length),some (.int dp)]) G _ from ?_)
   refine f9.mpr<| M7<| u0<| bin_w<| b8 (a:=.int dp) (G':=G) rfl<| b8 (a:=.int 20) (G':=G) rfl<| aO8.mpr ⟨_,rfl,λk=>(by have:=of_decide_eq_true k;lia),λ_=>m5.mpr ?_⟩
   cases h with
   |@i _ i hi=>
     obtain⟨c,r,e,hc⟩:=dB1 (GB.i (n:=n) hi)
     have hs:tl T=pre++(c::(r++post)):=by rw[ht',e];rfl
     have hc:c=45\/(48<=c/\c<=57):=by
      rcases aH3 i with⟨m,rfl⟩|⟨m,hm,rfl⟩
      · rw[bF2,aP7]at e
        have:=aP5 m c (by rw[e];exact zr ..)
        exact .inr this
      · rw[bF2,aQ5 m hm]at e
        exact .inl (yz e).1.symm
     refine V1 hs (c:=91) (ps:= []) rfl (R3 (by lia))<| V1 hs (c:=123) (ps:= []) rfl (R3 (by lia))<| V1 hs (c:=34) (ps:= []) rfl (R3 (by lia))<| V1 hs (c:=116) (ps:= [114,117,101]) rfl (R3 (by lia))<| V1 hs (c:=102) (ps:= [97,108,115,101]) rfl (R3 (by lia)) ?_
     exact o8<| aE7 (as:= [.str T,.int pre.length]) rfl rfl<| dK3 hz hi ht ho<| o7 (q G Ap.refl)
   |@b _ k=>
     rcases k with _|_
     · have hs:tl T=pre++(102::([97,108,115,101]++post)):=ht'
       refine V1 hs (c:=91) (ps:= []) rfl (R3 (by decide))<| V1 hs (c:=123) (ps:= []) rfl (R3 (by decide))<| V1 hs (c:=34) (ps:= []) rfl (R3 (by decide))<| V1 hs (c:=116) (ps:= [114,117,101]) rfl (R3 (by decide))<| aT2 (r:=post) hs rfl ?_
       exact b8 (a:=.tup [.bl false,.int ((pre.length:Int)+5)]) (G':=G) rfl<| o7 (q G Ap.refl)
     · have hs:tl T=pre++(116::([114,117,101]++post)):=ht'
       refine V1 hs (c:=91) (ps:= []) rfl (R3 (by decide))<| V1 hs (c:=123) (ps:= []) rfl (R3 (by decide))<| V1 hs (c:=34) (ps:= []) rfl (R3 (by decide))<| aT2 (r:=post) hs rfl ?_
       exact b8 (a:=.tup [.bl true,.int ((pre.length:Int)+4)]) (G':=G) rfl<| o7 (q G Ap.refl)
   |@s _ z hs=>
     rw[cE9]at ht ht' q
     refine V1 ht' (c:=91) (ps:= []) rfl (R3 (by decide))<| V1 ht' (c:=123) (ps:= []) rfl (R3 (by decide))<| aT2 (r:=tl z++[34]++post) ht' rfl ?_
     refine aE7 (as:= [.str T,.int pre.length]) rfl rfl<| eE5 hz hs ht<| o7 ?_
     have e:(34::(tl z++[34])).length=z.length+2:=by rw[zp,ze,J9];rfl
     rw[<-e]
     exact q G Ap.refl
   |@l _ l hl hx=>
     rw[bM6]at ht ht' q
     refine aT2 (r:=Q9 [44,32] (l.map (shN n))++[93]++post) ht' rfl ?_
     have h1:tl T= (pre++[91])++(Q9 [44,32] (l.map (shN n))++(93::post)):=by rw[ht'];simp
     have e1:(pre.length:Int)+1= ((pre++[91]).length:Int):=by simp
     refine aE7 (as:= [.str T,.int pre.length,.int dp]) rfl rfl<| t8<| f9.mpr<| w6<| aE7 (as:= [.str T,.int ((pre.length:Int)+1),.str ⟨#[93]⟩,.fn "value_at",.int (dp+1)]) rfl rfl<| cF4 hz dY3 (by decide) (by decide) e1 (λx hxl=>ih (hx x hxl) (by lia) (by lia)) (λx hxl=>?_) hl h1 λG1 j1=>?_
     · obtain⟨c,r,e,hc⟩:=dB1 (hx x hxl)
       rw[e]
       exact⟨jP _ _,R3 (by lia)⟩
     · refine o8<| b8 (a:=.tup [.tup [.str v9,.tup l],.int (((pre++[91]).length:Int)+(Q9 [44,32] (l.map (shN n))).length+1)]) (G':=G1) rfl<| o7<| o7 ?_
       have e4:((pre++[91]).length:Int)+(Q9 [44,32] (l.map (shN n))).length+1= (pre.length:Int)+(91::(Q9 [44,32] (l.map (shN n))++[93])).length:=by simp;lia
       rw[e4]
       exact q G1 j1
   |@r _ ps hl hp hn hx=>
     rw[bU2]at ht ht' q
     refine V1 ht' (c:=91) (ps:= []) rfl (R3 (by decide))<| aT2 (r:=Q9 [44,32] ((ps.map prD).map (shQ (shN n)))++[125]++post) ht' rfl ?_
     have h1:tl T= (pre++[123])++(Q9 [44,32] ((ps.map prD).map (shQ (shN n)))++(125::post)):=by rw[ht'];simp
     have e1:(pre.length:Int)+1= ((pre++[123]).length:Int):=by simp
     refine aE7 (as:= [.str T,.int pre.length,.int dp]) rfl rfl<| t8<| f9.mpr<| w6<| aE7 (as:= [.str T,.int ((pre.length:Int)+1),.str ⟨#[125]⟩,.fn "pair_at",.int (dp+1)]) rfl rfl<| cF4 hz dW5 (by decide) (by decide) e1 (λx hxl=>?_) (λx hxl=>?_) (by rw[zh];exact hl) h1 λG1 j1=>?_
     · obtain⟨p,hpl,rfl⟩:=zW.mp hxl
       exact cD9 hz (hn p hpl) (ih (hx p hpl) (by lia) (by lia))
     · obtain⟨p,hpl,rfl⟩:=zW.mp hxl
       have hnp:=hn p hpl
       show (tl p.1++[58,32]++shN n p.2)≠ []/\hdN 125 (tl p.1++[58,32]++shN n p.2)
       rcases k:tl p.1 with _|⟨a,s⟩
       ·exact absurd k hnp.2
       · have:=hnp.1.1 a (by rw[k];exact zr ..)
         exact⟨jP _ _,R3 (by lia)⟩
     · refine f9.mpr<| cK8<| V4<| K5<| j6<| j7 (as:= [.tup (ps.map prD)]) rfl rfl<| bP2 hl<| j8.mpr<| N7.mpr ⟨rfl,?_⟩
       refine bX3 (.inr ⟨_,rfl,m8⟩) (by rw[zh,zh];lia) (cN0 hp) λG2 j2=>⟨rfl,rfl,m5.mpr ?_⟩
       refine o8<| b8 (a:=.tup [.tup [.str M3,.tup (ps.map prD)],.int (((pre++[123]).length:Int)+(Q9 [44,32] ((ps.map prD).map (shQ (shN n)))).length+1)]) (G':=G2) rfl<| o7<| o7 ?_
       have e4:((pre++[123]).length:Int)+(Q9 [44,32] ((ps.map prD).map (shQ (shN n)))).length+1= (pre.length:Int)+(123::(Q9 [44,32] ((ps.map prD).map (shQ (shN n)))++[125])).length:=by simp;lia
       rw[e4]
       exact q G2 ((j1.trans Ap.one).trans j2)
theorem eI6{G:DH}{U:DSt}{i:Nat}{p a b:Str}(h:U[i]? =some (some (.str p)))(s0:(xk++a).length<=zd)(s1:(xf p).length<=zd)(s2:(xk++a++xf p).length<=zd)(s3:(xk++a++xf p++b).length<=zd):
 aY6 [cE (.str a),bY8 (aD8 i),cE (.str b)] xk U G=some (.ok (.str (xk++a++xf p++b)),G):=by
 have v:aD8 i U G=some (.ok (.str p),G):=by
  unfold aD8
  rw[h]
 have r:bY8 (aD8 i) U G=some (.ok (.str (xf p)),G):=by
  unfold bY8
  rw[M.bind_eq,v]
  dsimp only
  rw[if_pos s1];rfl
 have e1:∀(f:Fe) (l:List Fe) (acc y:Str),f U G=some (.ok (.str y),G)->(acc++y).length<=zd->aY6 (f::l) acc U G=aY6 l (acc++y) U G:=λf l acc y hf hs=>by
  have q:aY6 (f::l) acc U= (f U >>= λd=>(match d with| .str y=>if (acc++y).length<=zd then aY6 l (acc++y) U else M.stuck|_=>M.stuck:M D)):=rfl
  rw[q,M.bind_eq,hf]
  dsimp only
  rw[if_pos hs]
 rw[e1 _ _ _ a rfl s0,e1 _ _ _ _ r s2,e1 _ _ _ b rfl s3]
 unfold aY6
 rw[if_pos s3];rfl
section
variable{T:Str}{G:DH}
theorem bC9{p:Str}{pre j9:List Nat}{at':Int}(ha:at'=pre.length)(hp:p.length<=zd)(h:tl T=pre++j9)
 (s1:(xf p).length<=zd) (s2:(xk++("no " :Str)++xf p).length<=zd) (s3:(xk++("no " :Str)++xf p++(" where one is due" :Str)).length<=zd):
 We "NoValue" (λG'=>G'=G) (aE4 [.str T,.int at',.str p]) G λd G'=>G'=G/\d= .int ((pre.length:Int)+p.length)/\∃r,j9=tl p++r:=by
 subst ha
 by_cases hb:tl p <+:j9
 · obtain⟨r,rfl⟩:=hb
   exact .inl (aM8 rfl hp h ⟨rfl,rfl,r,rfl⟩)
 · refine Z7<| K1<| aF5<| bR3.mpr<| R4.mpr<| J5 (G:=G) rfl rfl rfl ?_
   rw[aM5 h,decide_eq_false hb]
   refine S5.mpr ⟨λ_=>aC8<| m7 (eI6 rfl (by decide +kernel) s1 s2 s3)<| j8.mpr rfl,λk=>nomatch k⟩
end
section
variable{T:Str}{G:DH}
theorem aT5(lo hi:Nat):∀l:List Nat,∃rn post,l=rn++post/\(∀c∈rn,lo<=c/\c<=hi)/\cT5 lo hi post
 |[]=>⟨[], [],rfl,λc h=>(nomatch h),λc r h=>(nomatch h)⟩
 |a::l=>by
   by_cases h:lo<=a/\a<=hi
   · obtain⟨rn,post,e,k,o⟩:=aT5 lo hi l
     refine⟨a::rn,post,by rw[e];rfl,λc hc=>?_,o⟩
     rcases zi.mp hc with rfl|hc
     ·exact h
     ·exact k c hc
   ·exact⟨[],a::l,rfl,λc h=>(nomatch h),λc r e=>by cases e;exact h⟩
theorem eE3{pre j9:List Nat}(hz:T.length<=900000)(h:tl T=pre++34::j9):
 We "NoValue" (λG'=>G'=G) (F_text_at [.str T,.int pre.length]) G λd G'=>G'=G/\∃z r,TxL z/\d= .tup [.str z,.int ((pre.length:Int)+(z.length+2:Nat))]/\j9=tl z++34::r:=by
 obtain⟨rn,post,e,k,o⟩:=aT5 97 122 j9
 have hz':T.length<=zd:=zu hz (by decide)
 have h1:tl T= (pre++[34])++rn++post:=by rw[h,e];simp
 have e1:((pre++[34]).length:Int)= (pre.length:Int)+1:=by simp
 refine Z7<| K1<| Z3<|.inl<| j7 (as:= [.str T,.int ((pre.length:Int)+1),.str ⟨#[97]⟩,.str ⟨#[122]⟩]) rfl rfl<| aL0 hz' e1.symm h1 k o ?_
 rw[e1]
 have h2:=aH4 h1
 rw[e1]at h2
 refine aQ0<| eK9<| aS2<|.inl<| J0.mpr<| b8 (a:=.str T) (G':=G) rfl<| b8 (a:=some ((pre.length:Int)+1)) (G':=G) rfl<| b8 (a:=some ((pre.length:Int)+1+rn.length)) (G':=G) rfl<| (R0 hz').mpr ?_
 rw[h2]
 have h3:tl T= (pre++[34]++rn)++post:=h1
 refine aS2<| V8<| b8 (a:= [.str T,.int ((pre.length:Int)+1+rn.length),.str ("\"" :Str)]) (G':=G) rfl ⟨rfl,(bC9 (by simp;lia) (by decide) h3 (by decide +kernel) (by decide +kernel) (by decide +kernel)).mono λd G' q=>?_⟩
 · obtain⟨rfl,rfl,r,rfl⟩:=q
   refine .inl<| j8.mpr ⟨sz,o7 ⟨rfl,ofL rn,r,⟨λc hc=>k c hc,?_⟩,?_,e⟩⟩
   · have:=congrArg jh h1
     rw[J9]at this
     simp at this
     show rn.length<=900000
     lia
   · have e4:(((pre++[34]++rn).length:Int)+(("\"" :Str).length:Nat))= (pre.length:Int)+((ofL rn).length+2:Nat):=by
      rw[ze,ze]
      show (((pre.length+1+rn.length:Nat):Int)+(1:Nat))= (pre.length:Int)+((rn.length+2:Nat):Int)
      lia
     rw[e4]
end
theorem bS3(l:List Nat)(c:Nat):zD (l++[c])=zD l*10+(c-48):=by
 unfold zD
 rw[List.foldl_append];rfl
theorem dY6:∀(n:Nat) (ds:List Nat),ds.length=n+1->(∀c∈ds,48<=c/\c<=57)->(∀r,ds=48::r->r= [])->dg (zD ds)=ds
 |0,ds,hl,hd,h0=>by
   obtain⟨c,rfl⟩:=List.length_eq_one_iff.mp hl
   have:=hd c (zr ..)
   have e:zD [c]=c-48:=by
    have:=bS3 [] c
    rw[List.nil_append]at this
    rw[this];show 0*10+_=_;lia
   rw[e,aG4 (by lia)]
   congr 1;lia
 |n+1,ds,hl,hd,h0=>by
   obtain⟨l,c,rfl⟩:∃l c,ds=l++[c]:=⟨ds.dropLast,ds.getLast (λz=>by rw[z]at hl;cases hl),(Yv _).symm⟩
   have hll:l.length=n+1:=by rw[ze]at hl;exact YN hl
   have hc:=hd c (zR _ (zr ..))
   have hn:∀r,l=48::r->False:=λr e=>by
    have:=h0 (r++[c]) (by rw[e];rfl)
    exact absurd this (by simp)
   have ih:=dY6 n l hll (λx hx=>hd x (yR _ hx)) λr e=>(hn r e).elim
   have hv:0<zD l:=by
    rcases yH (zD l)with z|z
    · rw[z,aG4 (by decide)]at ih
      exact(hn [] ih.symm).elim
    ·exact z
   rw[bS3,bS6 (by lia)]
   have e1:(zD l*10+(c-48)) / 10=zD l:=by lia
   have e2:(zD l*10+(c-48)) % 10=c-48:=by lia
   rw[e1,e2,ih,aG4 (by lia)]
   congr 2;lia
theorem dZ0:∀(n:Nat) (ds:List Nat),ds.length<=n->(∀c∈ds,48<=c/\c<=57)->zD ds<10 ^ n
 |0,ds,hl,_=>by
   cases jo (Nat.le_zero.mp hl)
   decide
 |n+1,ds,hl,hd=>by
   rcases yH ds.length with z|z
   · cases jo z
     exact Nat.pow_pos (by decide)
   · obtain⟨l,c,rfl⟩:∃l c,ds=l++[c]:=⟨ds.dropLast,ds.getLast (λk=>by rw[k]at z;cases z),(Yv _).symm⟩
     have hc:=hd c (zR _ (zr ..))
     have:=dZ0 n l (by rw[ze]at hl;exact Nat.le_of_succ_le_succ hl) λx hx=>hd x (yR _ hx)
     rw[bS3,XO]
     lia
section
variable{T:Str}{G:DH}
theorem dV8{st:Int}{n:Nat}{a b:Option D}:Wp (orT (tBn eqD vE3 vE2) (tBn gtD (binE aO1 vE3 vE2) (cIn 40)) [a,b,some (.int st),some (.int (st+n))]) G λk G1=>G1=G/\k=decide (n=0\/40<n):=by
 refine eQ4<| u0<| bin_w<| b8 (a:=.int (st+n)) (G':=G) rfl<| b8 (a:=.int st) (G':=G) rfl<| T4.mpr ⟨_,rfl,λk=>⟨rfl,?_⟩,λk=>u0<| bin_w<| bin_w<| b8 (a:=.int (st+n)) (G':=G) rfl<| b8 (a:=.int st) (G':=G) rfl<| aN4.mpr<| b8 (a:=.int 40) (G':=G) rfl<| aO8.mpr ⟨_,rfl,rfl,?_⟩⟩
 · have:=of_decide_eq_true k
   exact(decide_eq_true (Or.inl (by lia))).symm
 · have:=of_decide_eq_false k
   by_cases h:40<n
   ·rw[decide_eq_true (show st+(n:Int)-st>40 by lia),decide_eq_true (Or.inr h)]
   ·rw[decide_eq_false (show ¬st+(n:Int)-st>40 by lia),decide_eq_false (by lia)]
theorem eC6{p st e:Int}:Wp (aQ2 (truthE (mtE isStrM startsD vE0 (aX2 (cSt "0") vE2))) (tBn gtD (binE aO1 vE3 vE1) cI1) [some (.str T),some (.int p),some (.int st),some (.int e)]) G λk G1=>G1=G/\k= (aG6 T ("0" :Str) st&&decide (e-p>1)):=by
 refine aO4<| R4.mpr<| J5 (G:=G) (i:=st) (p:=("0" :Str)) rfl rfl rfl<| S5.mpr ⟨λk=>u0<| bin_w<| bin_w<| b8 (a:=.int e) (G':=G) rfl<| b8 (a:=.int p) (G':=G) rfl<| aN4.mpr<| b8 (a:=.int 1) (G':=G) rfl<| aO8.mpr ⟨_,rfl,rfl,?_⟩,λk=>⟨rfl,?_⟩⟩
 ·rw[k];rfl
 ·rw[k];rfl
theorem dX4{pre sg rn post:List Nat}(hz:T.length<=zd)(hs:sg= []\/sg= [45])(h:tl T=pre++(sg++rn)++post)(k:∀c∈rn,48<=c/\c<=57):
 We "NoValue" (λG'=>G'=G) (NE [some (.str T),some (.int pre.length),some (.int ((pre.length:Int)+sg.length)),some (.int ((pre.length:Int)+sg.length+rn.length))]) G (PB λd G'=>G'=G/\∃i,smI i/\d= .tup [.int i,.int ((pre.length:Int)+(nmL i).length)]/\sg++rn=nmL i):=by
 by_cases A:rn.length=0\/40<rn.length
 · refine K1<| aF5<| dV8.mono λb G1 q=>?_
   obtain⟨rfl,e⟩:=q
   rw[decide_eq_true A]at e
   exact⟨λ_=>aC8 (b8 rfl rfl),λz=>by rw[e]at z;cases z⟩
 · have hst:tl T= (pre++sg)++(rn++post):=by rw[h];simp
   have hsl:((pre++sg).length:Int)= (pre.length:Int)+sg.length:=by simp
   by_cases B:(aG6 T ("0" :Str) ((pre.length:Int)+sg.length)&&decide ((pre.length:Int)+sg.length+rn.length-pre.length>1))=true
   · refine K1<| aF5<| dV8.mono λb G1 q=>?_
     obtain⟨rfl,e⟩:=q
     rw[decide_eq_false A]at e
     refine⟨λz=>(by rw[e]at z;cases z),λ_=>.inl (m5.mpr ?_)⟩
     refine K1<| aF5<| eC6.mono λb G1 q=>?_
     obtain⟨rfl,e⟩:=q
     rw[B]at e
     exact⟨λ_=>aC8 (b8 rfl rfl),λz=>by rw[e]at z;cases z⟩
   · have h48:∀r,rn=48::r->sg= []/\r= []:=λr er=>by
      have hb:aG6 T ("0" :Str) ((pre.length:Int)+sg.length)=true:=by
       rw[<-hsl]
       exact T6 hst (r:=r++post) (by rw[er];rfl)
      rw[hb,Bool.true_and]at B
      have B:=of_decide_eq_false (JY.mpr B)
      have:rn.length=r.length+1:=by rw[er];rfl
      exact⟨jo (by lia),jo (by lia)⟩
     obtain⟨n,hn⟩:∃n,rn.length=n+1:=⟨rn.length-1,by lia⟩
     have dgr:=dY6 n rn hn k λr e=>(h48 r e).2
     have lt:=dZ0 40 rn (by lia) k
     have hd:rn≠ []:=λz=>by rw[z]at hn;cases hn
     have lt':zD rn<=9999999999999999999999999999999999999999:=Nat.le_of_lt_succ lt
     have hB:aG6 T ("0" :Str) ((pre.length:Int)+sg.length)=true->sg.length+rn.length<=1:=λhb=>by
      rw[hb,Bool.true_and]at B
      have B:=of_decide_eq_false (JY.mpr B)
      lia
     rcases hs with rfl|rfl
     · have en:nmL ((zD rn:Nat):Int)=rn:=(aP7 _).trans dgr
       have sm:smI ((zD rn:Nat):Int):=by unfold smI aB0;lia
       refine .inl (aZ9 (i:=((zD rn:Nat):Int)) (ds:=rn) (post:=post) hz sm (by rw[en];exact h) (by rw[en];simp) hd (by lia) ?_ ⟨rfl,_,sm,rfl,en.symm⟩)
       rw[en]
       rcases hb:aG6 T ("0" :Str) ((pre.length:Int)+([]:List Nat).length)with _|_
       ·exact .inl rfl
       · have:=hB hb
         exact .inr (by simp at this;lia)
     · have m0:0<zD rn:=by
        rcases yH (zD rn)with z|z
        · rw[z,aG4 (by decide)]at dgr
          exact absurd (h48 [] dgr.symm).1 (by simp)
        ·exact z
       have en:nmL (-((zD rn:Nat):Int))=45::rn:=(aQ5 _ m0).trans (by rw[dgr])
       have sm:smI (-((zD rn:Nat):Int)):=by unfold smI aB0;lia
       refine .inl (aZ9 (i:= -((zD rn:Nat):Int)) (ds:=rn) (post:=post) hz sm (by rw[en];exact h) (by rw[en];simp;lia) hd (by lia) ?_ ⟨rfl,_,sm,rfl,en.symm⟩)
       rcases hb:aG6 T ("0" :Str) ((pre.length:Int)+([45]:List Nat).length)with _|_
       ·exact .inl rfl
       · have:=hB hb
         simp at this;lia
end
section
variable{T:Str}{G:DH}
theorem eR3:Z9=m9 (J7 (ifE (truthE (mtE isStrM startsD vE0 (aX2 (cSt "-") vE1))) (binE addD vE1 cI1) vE1) nG2) (asQ (cX4 X5 vE0 vE2 (cSt "0") (cSt "9")) nG3 NE):=rfl
theorem dJ9{pre j9:List Nat}(hz:T.length<=zd)(h:tl T=pre++j9):
 We "NoValue" (λG'=>G'=G) (aA0 [.str T,.int pre.length]) G λd G'=>G'=G/\∃i r,smI i/\d= .tup [.int i,.int ((pre.length:Int)+(nmL i).length)]/\j9=nmL i++r:=by
 refine Z7 (show We _ _ (Z9 [some (.str T),some (.int pre.length),none,none]) G _ from ?_)
 rw[eR3]
 by_cases hb:∃r,j9=45::r
 · obtain⟨r1,rfl⟩:=hb
   obtain⟨rn,post,e,k,o⟩:=aT5 48 57 r1
   have h1:tl T= (pre++[45])++rn++post:=by rw[h,e];simp
   have e1:((pre++[45]).length:Int)= (pre.length:Int)+1:=by simp
   refine K1<| Z3<|.inl<| bO3.mpr<| V4<| J5 (G:=G) rfl rfl rfl ?_
   rw[T6 h (r:=r1) rfl]
   refine⟨rfl,?_⟩
   rw[if_pos rfl]
   refine b8 (a:=.int ((pre.length:Int)+1)) (G':=G) rfl<| K1<| Z3<|.inl<| j7 (as:= [.str T,.int ((pre.length:Int)+1),.str ⟨#[48]⟩,.str ⟨#[57]⟩]) rfl rfl<| aL0 hz e1.symm h1 k o ?_
   rw[e1]
   refine(dX4 (sg:= [45]) (rn:=rn) (post:=post) hz (.inr rfl) (by rw[h1];simp) k).mono λfl G1 q=>?_
   rcases fl with _|d|_|_
   ·obtain⟨_,i,_,q,_⟩:=q;cases q
   · obtain⟨rfl,i,sm,rfl,en⟩:=q
     exact⟨rfl,i,post,sm,rfl,by rw[<-en,e];rfl⟩
   ·exact q
   ·exact q
 · obtain⟨rn,post,e,k,o⟩:=aT5 48 57 j9
   have h1:tl T=pre++rn++post:=by rw[h,e];simp
   refine K1<| Z3<|.inl<| bO3.mpr<| aI4<| J5 (G:=G) rfl rfl rfl ?_
   rw[V7 h (c:=45) (ps:= []) rfl λc r z=>by rintro rfl;exact hb ⟨r,z⟩]
   refine⟨rfl,?_⟩
   rw[if_neg zJ]
   refine b8 (a:=.int pre.length) (G':=G) rfl<| K1<| Z3<|.inl<| j7 (as:= [.str T,.int pre.length,.str ⟨#[48]⟩,.str ⟨#[57]⟩]) rfl rfl<| aL0 hz rfl h1 k o ?_
   have w:=dX4 (G:=G) (pre:=pre) (sg:= []) (rn:=rn) (post:=post) hz (.inl rfl) (by rw[h1];simp) k
   rw[show ((pre.length:Int)+(([]:List Nat).length:Nat))= (pre.length:Int)from by simp]at w
   refine w.mono λfl G1 q=>?_
   rcases fl with _|d|_|_
   ·obtain⟨_,i,_,q,_⟩:=q;cases q
   · obtain⟨rfl,i,sm,rfl,en⟩:=q
     exact⟨rfl,i,post,sm,rfl,by rw[<-en,e];rfl⟩
   ·exact q
   ·exact q
end
def Rd(T:Str)(F:List D->M D)(dp:Int)(ok:D->List Nat->Prop):Prop:=∀ {pre j9:List Nat} {G:DH},tl T=pre++j9->We "NoValue" (Ap G) (F [.str T,.int pre.length,.int dp]) G λd G'=>Ap G G'/\∃v t r,d= .tup [v,.int ((pre.length:Int)+t.length)]/\j9=t++r/\ok v t
def okP(ok:D->List Nat->Prop)(d:D)(t:List Nat):Prop:=∃nm v u,TxL nm/\tl nm≠ []/\d= .tup [.str nm,v]/\t=tl nm++[58,32]++u/\ok v u
section
variable{T:Str}{R:List D->M D}{dp:Int}{ok:D->List Nat->Prop}
theorem eM1(hz:T.length<=900000)(h:Rd T R dp ok):Rd T (K8 R) dp (okP ok):=by
 intro pre j9 G ht
 have hz':T.length<=zd:=zu hz (by decide)
 obtain⟨rn,post,e,k,o⟩:=aT5 97 122 j9
 have h1:tl T=pre++rn++post:=by rw[ht,e];simp
 refine Z7<| K1<| Z3<|.inl<| j7 (as:= [.str T,.int pre.length,.str ⟨#[97]⟩,.str ⟨#[122]⟩]) rfl rfl<| aL0 hz' rfl h1 k o ?_
 refine K1<| aF5<| u0<| bin_w<| b8 (a:=.int ((pre.length:Int)+rn.length)) (G':=G) rfl<| b8 (a:=.int pre.length) (G':=G) rfl<| T4.mpr ⟨_,rfl,λ_=>aC8 (b8 rfl Ap.refl),λkk=>.inl (m5.mpr ?_)⟩
 have np:rn≠ []:=λz=>by
  have:=of_decide_eq_false kk
  rw[z]at this;simp at this
 have el:((pre++rn).length:Int)= (pre.length:Int)+rn.length:=by simp
 refine K1<| Z3<| dI8<| aS2<|.inl<| b8 (a:=.str T) (G':=G) rfl<| aS2<| V8<| b8 (a:= [.str T,.int ((pre.length:Int)+rn.length),.str (": " :Str)]) (G':=G) rfl ⟨rfl,((bC9 (G:=G) (p:=(": " :Str)) el.symm (by decide) h1 (by decide +kernel) (by decide +kernel) (by decide +kernel)).emono λG' z=>by rw[z];exact Ap.refl).mono λd G' q=>?_⟩
 obtain⟨rfl,rfl,r,er⟩:=q
 have el2:(((pre++rn).length:Int)+((": " :Str).length:Nat))= ((pre++rn++[58,32]).length:Int):=by
  rw[ze (as:=pre++rn)]
  show _+((2:Nat):Int)=_
  simp
 rw[el2]
 refine .inl<| b8 (a:= [.int dp]) (G':=G') rfl ⟨rfl,?_⟩
 have er:post= [58,32]++r:=er
 have h3:tl T= (pre++rn++[58,32])++r:=by rw[h1,er];simp
 refine(h h3).mono λd G1 q=>?_
 obtain⟨j1,v,t,r2,rfl,e2,kv⟩:=q
 refine aQ0<|.inl<| P0.mpr<| j6<| P0.mpr<| j6<| J0.mpr<| b8 (a:=.str T) (G':=G1) rfl<| b8 (a:=some (pre.length:Int)) (G':=G1) rfl<| b8 (a:=some ((pre.length:Int)+rn.length)) (G':=G1) rfl<| (R0 hz').mpr ?_
 rw[aH4 h1]
 refine b8 (a:= [v]) (G':=G1) rfl ⟨sz,b8 (a:= [.int (((pre++rn++[58,32]).length:Int)+t.length)]) (G':=G1) rfl ⟨sz,o7 ⟨j1,_,rn++[58,32]++t,r2,?_,?_,ofL rn,v,t,⟨λc hc=>k c hc,?_⟩,np,rfl,rfl,kv⟩⟩⟩
 · have e4:((pre++rn++[58,32]).length:Int)+t.length= (pre.length:Int)+(rn++[58,32]++t).length:=by simp;lia
   rw[e4]
 ·rw[e,er,e2];simp
 · have:=congrArg jh h1
   rw[J9]at this
   simp at this
   show rn.length<=900000
   lia
end
inductive PO(ok:D->List Nat->Prop):List D->List Nat->Prop
 |one {v:D} {t:List Nat}:ok v t->PO ok [v] t
 |more {v:D} {vs:List D} {t u:List Nat}:ok v t->PO ok vs u->PO ok (v::vs) (t++([44,32]++u))
section
variable{T:Str}{R F:List D->M D}{x:Str}{dp:Int}{ok:D->List Nat->Prop}{cl:Nat}{G0:DH}{c:Nat}
theorem aQ8(hz:T.length<=900000)(ht:aV7 "value_at" "pair_at" R (K8 R) x=some F)(h:Rd T F dp ok)(hne:∀v t,ok v t->t≠ [])(hle:G0.length<=c):∀(n:Nat) (dn:List D) (pre j9:List Nat) (u:Option D) (G:DH),j9.length<n->tl T=pre++j9->Gr G0 G->G[c]? =some (.lst dn)->dn.length+j9.length<=900001->
 We "NoValue" (Gr G0) (J6 n PT (PW R) (pS T pre.length cl x dp c u)) G λfl G'=>Gr G0 G'/\∃vs t r,fl= .rt (.tup [.tup (dn++vs),.int ((pre.length:Int)+t.length+1)])/\j9=t++cl::r/\PO ok vs t
 |0,dn,pre,j9,u,G,hn,hT,g,e,hl=>absurd hn (Nat.not_lt_zero _)
 |n+1,dn,pre,j9,u,G,hn,hT,g,e,hl=>by
   have bg:=big
   have hz':T.length<=zd:=zu hz (by decide)
   refine cO2<| b8 (a:=true) (G':=G) rfl ?_
   rw[if_pos rfl]
   refine K1<| Z3<| dC4 rfl ht<| b8 (a:= [.str T,.int pre.length,.int dp]) (G':=G) rfl ⟨rfl,((h hT).emono λG' j=>g.trans j.gr).mono λd G1 q=>?_⟩
   obtain⟨j1,v,t,r,rfl,er,kv⟩:=q
   have e1:=j1.at e
   have tp:0<t.length:=jy.mpr (hne v t kv)
   have lr:j9.length=t.length+r.length:=by rw[er,ze]
   refine K1<|.inl<| aZ7.mpr<| aX6.mpr<| b8 (a:=.ref c) (G':=G1) rfl<| (V2 e1).mpr<| b8 (a:= [v]) (G':=G1) rfl<| (aP6 e1 (by lia)).mpr ?_
   have e2:(G1.set c (.lst (dn++[v])))[c]? =some (.lst (dn++[v])):=zY (lt_of_get e1)
   have g2:Gr G0 (G1.set c (.lst (dn++[v]))):=(g.trans j1.gr).set hle
   generalize G1.set c (.lst (dn++[v]))=G2 at e2 g2
   have el:((pre++t).length:Int)= (pre.length:Int)+t.length:=by simp
   have h1:tl T= (pre++t)++r:=by rw[hT,er];simp
   by_cases hb:∃r1,r=cl::r1
   · obtain⟨r1,rfl⟩:=hb
     refine K1<| aF5<| V4<| J5 (G:=G2) rfl rfl rfl ?_
     rw[<-el,T6 h1 (r:=r1) rfl,el]
     refine⟨rfl,λ_=>.inl<| o8<| P0.mpr<| j6<| aB2 (as:= [.ref c]) rfl<| (aC7 e2).mpr<| b8 (a:= [.int ((pre.length:Int)+t.length+1)]) (G':=G2) rfl ⟨sz,g2, [v],t,r1,rfl,er,.one kv⟩,λz=>nomatch z⟩
   · refine K1<| aF5<| aI4<| J5 (G:=G2) rfl rfl rfl ?_
     rw[<-el,V7 h1 (c:=cl) (ps:= []) rfl λa s z=>by rintro rfl;exact hb ⟨s,z⟩,el]
     refine⟨rfl,λz=>(nomatch z),λ_=>.inl<| m5.mpr ?_⟩
     refine Z3<| V8<| b8 (a:= [.str T,.int ((pre.length:Int)+t.length),.str (", " :Str)]) (G':=G2) rfl ⟨rfl,((bC9 (G:=G2) (p:=(", " :Str)) el.symm (by decide) h1 (by decide +kernel) (by decide +kernel) (by decide +kernel)).emono λG' z=>by rw[z];exact g2).mono λd G3 q=>?_⟩
     obtain⟨rfl,rfl,r2,er2⟩:=q
     have er2:r= [44,32]++r2:=er2
     have el2:(((pre++t).length:Int)+((", " :Str).length:Nat))= ((pre++t++[44,32]).length:Int):=by
      rw[ze (as:=pre++t)]
      show _+((2:Nat):Int)=_
      simp
     rw[el2]
     have lr2:r.length=2+r2.length:=by rw[er2,ze];rfl
     refine(aQ8 hz ht h hne hle n (dn++[v]) (pre++t++[44,32]) r2 _ G3 (by lia) (by rw[h1,er2];simp) g2 e2 (by rw[ze];simp;lia)).mono λfl G4 q=>?_
     obtain⟨g4,vs,u,r3,rfl,e3,po⟩:=q
     refine⟨g4,v::vs,t++([44,32]++u),r3,?_,by rw[er,er2,e3];simp,.more kv po⟩
     rw[zH]
     have:((pre++t++[44,32]).length:Int)+u.length+1= (pre.length:Int)+(t++([44,32]++u)).length+1:=by simp;lia
     rw[this];rfl
end
section
variable{T:Str}{R F:List D->M D}{x:Str}{dp:Int}{ok:D->List Nat->Prop}{cl:Nat}
theorem cH9(hz:T.length<=900000)(ht:aV7 "value_at" "pair_at" R (K8 R) x=some F)(h:Rd T F dp ok)(hne:∀v t,ok v t->t≠ []){pre j9:List Nat}{at':Int}{G:DH}(ha:at'=pre.length)(hT:tl T=pre++j9):
 We "NoValue" (Ap G) (T3 R [.str T,.int at',.str ⟨#[cl]⟩,.fn x,.int dp]) G λd G'=>Ap G G'/\∃vs t r,d= .tup [.tup vs,.int ((pre.length:Int)+t.length+1)]/\j9=t++cl::r/\((vs= []/\t= [])\/PO ok vs t):=by
 subst ha
 refine Z7 (show We _ _ (aD2 R [some (.str T),some (.int pre.length),some (.str ⟨#[cl]⟩),some (.fn x),some (.int dp),none,none]) G _ from ?_)
 rw[dW8]
 by_cases hb:∃r1,j9=cl::r1
 · obtain⟨r1,rfl⟩:=hb
   refine K1<| aF5<| V4<| J5 (G:=G) rfl rfl rfl ?_
   rw[T6 hT (r:=r1) rfl]
   exact⟨rfl,λ_=>.inl<| o8<| b8 (a:=.tup [.tup [],.int ((pre.length:Int)+1)]) (G':=G) rfl<| o7 ⟨Ap.refl, [], [],r1,by simp,rfl,.inl ⟨rfl,rfl⟩⟩,λz=>nomatch z⟩
 · refine K1<| aF5<| aI4<| J5 (G:=G) rfl rfl rfl ?_
   rw[V7 hT (c:=cl) (ps:= []) rfl λa s z=>by rintro rfl;exact hb ⟨s,z⟩]
   refine⟨rfl,λz=>(nomatch z),λ_=>.inl<| m5.mpr ?_⟩
   have lr:=congrArg jh hT
   rw[J9,ze]at lr
   refine K1<|.inl<| b8 (a:=Fl.nx (pS T pre.length cl x dp G.length none)) (G':=G++[.lst []]) rfl<| dB9 (n:=j9.length+1)<| ((aQ8 (G0:=G) hz ht h hne (zj _) (j9.length+1) [] pre j9 none _ (yW _) hT Gr.app (by simp) (by simp;lia)).emono λG' g=>g.ap).mono λfl G1 q=>?_
   obtain⟨g1,vs,t,r,rfl,er,po⟩:=q
   exact o7 ⟨g1.ap,vs,t,r,rfl,er,.inr po⟩
end
def okV(n:Nat)(v:D)(t:List Nat):Prop:=GV n v/\t=shN n v
theorem dA1{n:Nat}(v:D)(t:List Nat)(h:okV n v t):t≠ []:=by
 obtain⟨g,rfl⟩:=h
 obtain⟨c,r,e,_⟩:=dB1 g
 rw[e];exact jP _ _
theorem dH6{ok:D->List Nat->Prop}(hne:∀v t,ok v t->t≠ []){vs:List D}{t:List Nat}(h:PO ok vs t):3*vs.length<=t.length+2:=by
 induction h with
 |one k=>have:=jy.mpr (hne _ _ k);simp;lia
 |more k _ ih=>have:=jy.mpr (hne _ _ k);simp;lia
theorem dG6{ok:D->List Nat->Prop}{f:D->List Nat}(hf:∀v t,ok v t->t=f v){vs:List D}{t:List Nat}(h:PO ok vs t):t=Q9 [44,32] (vs.map f):=by
 have tail:∀ {vs:List D} {t:List Nat},PO ok vs t-> [44,32]++t=glL [44,32] (vs.map f):=λ{vs t} h=>by
  induction h with
  |one k=>rw[hf _ _ k];simp[glL]
  |more k _ ih=>rw[hf _ _ k,ih];simp[glL]
 cases h with
 |one k=>rw[hf _ _ k];simp[Q9,glL]
 |more k q=>rw[hf _ _ k,tail q];rfl
theorem dA5{ok:D->List Nat->Prop}{K:D->Prop}(hf:∀v t,ok v t->K v){vs:List D}{t:List Nat}(h:PO ok vs t):∀v∈vs,K v:=by
 induction h with
 |one k=>intro v hv;rcases zM.mp hv with rfl;exact hf _ _ k
 |more k _ ih=>
   intro v hv
   rcases zi.mp hv with rfl|hv
   ·exact hf _ _ k
   ·exact ih v hv
section
variable{T:Str}{R:List D->M D}{dp:Int}{n:Nat}
theorem eB6(hz:T.length<=900000)(h:Rd T R (dp+1) (okV n)){pre j9:List Nat}{G:DH}(hT:tl T=pre++91::j9):
 We "NoValue" (Ap G) (aH5 R [.str T,.int pre.length,.int dp]) G λd G'=>Ap G G'/\∃v t r,d= .tup [v,.int ((pre.length:Int)+t.length)]/\91::j9=t++r/\okV (n+1) v t:=by
 have h1:tl T= (pre++[91])++j9:=by rw[hT];simp
 have e1:(pre.length:Int)+1= ((pre++[91]).length:Int):=by simp
 have lr:=congrArg jh h1
 rw[J9,ze]at lr
 refine Z7<| K1<| Z3<| V8<| b8 (a:= [.str T,.int ((pre.length:Int)+1),.str ⟨#[93]⟩,.fn "value_at",.int (dp+1)]) (G':=G) rfl ⟨rfl,(cH9 (cl:=93) hz dY3 h dA1 e1 h1).mono λd G1 q=>?_⟩
 obtain⟨j1,vs,t,r,rfl,er,po⟩:=q
 refine aQ0<|.inl<| b8 (a:=.tup [.tup [.str v9,.tup vs],.int (((pre++[91]).length:Int)+t.length+1)]) (G':=G1) rfl<| o7 ⟨j1,.tup [.str v9,.tup vs],91::(t++[93]),r,?_,by rw[er];simp,?_⟩
 · have e4:((pre++[91]).length:Int)+t.length+1= (pre.length:Int)+(91::(t++[93])).length:=by simp;lia
   rw[e4]
 · rcases po with⟨rfl,rfl⟩|po
   ·exact⟨.l (by simp) (λx hx=>nomatch hx),by rw[bM6];rfl⟩
   · have l3:=dH6 dA1 po
     have lt:j9.length=t.length+1+r.length:=by rw[er];simp;lia
     exact⟨.l (by lia) (dA5 (λv t k=>k.1) po),by rw[bM6,dG6 (f:=shN n) (λv t k=>k.2) po]⟩
end
theorem dA0{α:Type}{R:α->α->Prop}(tr:∀a b c,R a b->R b c->R a c):∀ {l:List α},(∀p∈l.zip (l.drop 1),R p.1 p.2)->l.Pairwise R
 |[],_=>.nil
 |[x],_=>yg.mpr ⟨λ_ h=>(nomatch h),.nil⟩
 |x::y::r,h=>by
   have ih:=dA0 tr (l:=y::r) λp hp=>h p (zw _ hp)
   have h1:=h (x,y) (zr ..)
   refine yg.mpr ⟨λz hz=>?_,ih⟩
   rcases zi.mp hz with rfl|hz
   ·exact h1
   ·exact tr _ _ _ h1 ((yg.mp ih).1 z hz)
noncomputable def lS:D->D->Bool
 | .str a,.str b=>decide (a.cps.toList<b.cps.toList)
 |_,_=>false
theorem eN0{ss:List Str}{d:D}{G:DH}{Q:DPP}(hd:SqD G d (ss.map D.str))(hl:ss.length<=900000)(q:∀G' b,Ap G G'->(b=true->ss.Pairwise LtS)->Q (.bl b) G'):Wp (aH1 [d]) G Q:=by
 refine t8<| o8<| cY5 (f:=lS) hd (by rw[zh];exact hl) (λp hp G1 j=>?_) λG' a=>o7 (q G' _ a λh=>?_)
 · have hm:=Zj (show (p.1,p.2)∈_ from hp)
   obtain⟨a,_,ea⟩:=zW.mp hm.1
   obtain⟨b,_,eb⟩:=zW.mp (Zt hm.2)
   rw[<-ea,<-eb]
   exact bin_w<| b8 rfl<| b8 rfl<| dH0.mpr ⟨lS (.str a) (.str b),rfl,rfl,Ap.refl⟩
 · rw[yU]at h
   refine dA0 (R:=LtS) (λa b c h k=>List.lt_trans h k) λp hp=>?_
   refine of_decide_eq_true (p:=p.1.cps.toList<p.2.cps.toList) (h (.str p.1,.str p.2) ?_)
   rw[<-List.map_drop,List.zip_map]
   exact zW.mpr ⟨p,hp,rfl⟩
theorem dG5{n:Nat}:∀ {vs:List D},(∀v∈vs,∃t,okP (okV n) v t)->∃ps:List (Str×D),vs=ps.map prD/\∀p∈ps,(TxL p.1/\tl p.1≠ [])/\GV n p.2
 |[],_=>⟨[],rfl,λ_ h=>nomatch h⟩
 |d::r,h=>by
   obtain⟨t,nm,v,u,h1,h2,rfl,_,h3⟩:=h d (zr ..)
   obtain⟨ps,rfl,hp⟩:=dG5 λv hv=>h v (zw _ hv)
   refine⟨(nm,v)::ps,rfl,λp hq=>?_⟩
   rcases zi.mp hq with rfl|hq
   ·exact⟨⟨h1,h2⟩,h3.1⟩
   ·exact hp p hq
theorem cV9{n:Nat}(v:D)(t:List Nat)(h:okP (okV n) v t):t≠ []:=by
 obtain⟨nm,w,u,_,h2,_,rfl,_⟩:=h
 intro z
 rw[zH,List.append_eq_nil_iff]at z
 exact h2 z.1
theorem eL0{n:Nat}(v:D)(t:List Nat)(h:okP (okV n) v t):t=shQ (shN n) v:=by
 obtain⟨nm,w,u,_,_,rfl,rfl,h3⟩:=h
 rw[h3.2];rfl
section
variable{T:Str}{R:List D->M D}{dp:Int}{n:Nat}
theorem cY7(hz:T.length<=900000)(h:Rd T R (dp+1) (okV n)){pre j9:List Nat}{G:DH}(hT:tl T=pre++123::j9):
 We "NoValue" (Ap G) (aA2 R [.str T,.int pre.length,.int dp]) G λd G'=>Ap G G'/\∃v t r,d= .tup [v,.int ((pre.length:Int)+t.length)]/\123::j9=t++r/\okV (n+1) v t:=by
 have h1:tl T= (pre++[123])++j9:=by rw[hT];simp
 have e1:(pre.length:Int)+1= ((pre++[123]).length:Int):=by simp
 have lr:=congrArg jh h1
 rw[J9,ze]at lr
 refine Z7<| K1<| Z3<| V8<| b8 (a:= [.str T,.int ((pre.length:Int)+1),.str ⟨#[125]⟩,.fn "pair_at",.int (dp+1)]) (G':=G) rfl ⟨rfl,(cH9 (cl:=125) hz dW5 (eM1 hz h) cV9 e1 h1).mono λd G1 q=>?_⟩
 obtain⟨j1,vs,t,r,rfl,er,po⟩:=q
 have lt:j9.length=t.length+1+r.length:=by rw[er];simp;lia
 obtain⟨ps,rfl,hp⟩:∃ps:List (Str×D),vs=ps.map prD/\∀p∈ps,(TxL p.1/\tl p.1≠ [])/\GV n p.2:=by
  rcases po with⟨rfl,_⟩|po
  ·exact⟨[],rfl,λ_ h=>nomatch h⟩
  ·exact dG5 (dA5 (λv t k=>⟨t,k⟩) po)
 have hl:ps.length<=400000:=by
  rcases po with⟨z,_⟩|po
  ·rw[List.map_eq_nil_iff.mp z];simp
  · have l3:=dH6 cV9 po
    rw[zh]at l3
    lia
 have et:t=Q9 [44,32] ((ps.map prD).map (shQ (shN n))):=by
  rcases po with⟨z,rfl⟩|po
  ·rw[z];rfl
  ·exact dG6 eL0 po
 refine K1<| aF5<| bR3.mpr<| R4.mpr<| K5<| j6<| j7 (as:= [.tup (ps.map prD)]) rfl rfl<| bP2 hl<| j8.mpr<| N7.mpr ⟨rfl,?_⟩
 refine eN0 (.inr ⟨_,rfl,m8⟩) (by rw[zh];lia) λG2 b j2 hb=>S5.mpr ⟨λ_=>aC8 (b8 rfl ((j1.trans Ap.one).trans j2)),λkb=>.inl (m5.mpr ?_)⟩
 have hb:=hb (by rcases b with _|_<;>first|rfl|exact nomatch kb)
 refine aQ0<|.inl<| b8 (a:=.tup [.tup [.str M3,.tup (ps.map prD)],.int (((pre++[123]).length:Int)+t.length+1)]) (G':=G2) rfl<| o7 ⟨(j1.trans Ap.one).trans j2,.tup [.str M3,.tup (ps.map prD)],123::(t++[125]),r,?_,by rw[er];simp,.r hl hb (λp k=>(hp p k).1) (λp k=>(hp p k).2),by rw[bU2,et]⟩
 have e4:((pre++[123]).length:Int)+t.length+1= (pre.length:Int)+(123::(t++[125])).length:=by simp;lia
 rw[e4]
theorem bU8{x:Str}{E:DH->Prop}{p:Str}{pre j9:List Nat}{G:DH}{P:Fl->DH->Prop}{e:Fe}{Y:Fs}(h:tl T=pre++j9)(y:∀r,j9=tl p++r->We x E (e [some (.str T),some (.int pre.length),some (.int dp)]) G λd G1=>P (.rt d) G1)(w:We x E (Y [some (.str T),some (.int pre.length),some (.int dp)]) G P):
 We x E (m9 (ifS (truthE (mtE isStrM startsD vE0 (aX2 (cE (.str p)) vE1))) (u6 e) J2) Y [some (.str T),some (.int pre.length),some (.int dp)]) G P:=by
 refine K1<| aF5<| R4.mpr<| J5 (G:=G) (T:=T) (p:=p) (i:=pre.length) rfl rfl rfl<| S5.mpr ?_
 rw[aM5 h]
 refine⟨λk=>aQ0 ?_,λ_=>.inl (m5.mpr w)⟩
 obtain⟨r,er⟩:=of_decide_eq_true k
 exact y r er.symm
theorem dP8(hz:T.length<=900000):∀(n N:Nat) (dp:Int),dp+n=21->n<N->Rd T (Q7 N) dp (okV n):=by
 intro n
 have hz':T.length<=zd:=zu hz (by decide)
 induction n with
 |zero=>
   intro N dp hd hN pre j9 G hT
   obtain⟨M,rfl⟩:∃M,N=M+1:=⟨N-1,by lia⟩
   refine Z7 (show We _ _ (X4 (Q7 M) [some (.str T),some (.int pre.length),some (.int dp)]) G _ from ?_)
   exact K1<| aF5<| u0<| bin_w<| b8 (a:=.int dp) (G':=G) rfl<| b8 (a:=.int 20) (G':=G) rfl<| aO8.mpr ⟨_,rfl,λ_=>aC8 (b8 rfl Ap.refl),λk=>absurd (of_decide_eq_false k) (by lia)⟩
 |succ n ih=>
   intro N dp hd hN pre j9 G hT
   obtain⟨M,rfl⟩:∃M,N=M+1:=⟨N-1,by lia⟩
   have ih:Rd T (Q7 M) (dp+1) (okV n):= @ih M (dp+1) (by lia) (by lia)
   refine Z7 (show We _ _ (X4 (Q7 M) [some (.str T),some (.int pre.length),some (.int dp)]) G _ from ?_)
   refine K1<| aF5<| u0<| bin_w<| b8 (a:=.int dp) (G':=G) rfl<| b8 (a:=.int 20) (G':=G) rfl<| aO8.mpr ⟨_,rfl,λk=>absurd (of_decide_eq_true k) (by lia),λ_=>.inl (m5.mpr ?_)⟩
   refine bU8 hT (λr er=>?_)<| bU8 hT (λr er=>?_)<| bU8 hT (λr er=>?_)<| bU8 hT (λr er=>?_)<| bU8 hT (λr er=>?_) ?_
   · subst er
     exact V8<| b8 (a:= [.str T,.int pre.length,.int dp]) (G':=G) rfl ⟨rfl,(eB6 hz ih hT).mono λd G1 q=>o7 q⟩
   · subst er
     exact V8<| b8 (a:= [.str T,.int pre.length,.int dp]) (G':=G) rfl ⟨rfl,(cY7 hz ih hT).mono λd G1 q=>o7 q⟩
   · subst er
     refine V8<| b8 (a:= [.str T,.int pre.length]) (G':=G) rfl ⟨rfl,((eE3 hz hT).emono λG' z=>by rw[z];exact Ap.refl).mono λd G1 q=>o7 ?_⟩
     obtain⟨rfl,z,r2,hz2,rfl,e2⟩:=q
     have el:(34::(tl z++[34])).length=z.length+2:=by rw[zp,ze,J9];rfl
     exact⟨Ap.refl,.str z,34::(tl z++[34]),r2,by rw[el],by show 34::r=_;rw[show r=tl z++34::r2 from e2];simp,.s hz2,rfl⟩
   · subst er
     exact .inl<| b8 (a:=.tup [.bl true,.int ((pre.length:Int)+4)]) (G':=G) rfl<| o7 ⟨Ap.refl,.bl true,cT,r,rfl,rfl,.b,rfl⟩
   · subst er
     exact .inl<| b8 (a:=.tup [.bl false,.int ((pre.length:Int)+5)]) (G':=G) rfl<| o7 ⟨Ap.refl,.bl false,cF,r,rfl,rfl,.b,rfl⟩
   · refine aQ0<| V8<| b8 (a:= [.str T,.int pre.length]) (G':=G) rfl ⟨rfl,((dJ9 hz' hT).emono λG' z=>by rw[z];exact Ap.refl).mono λd G1 q=>o7 ?_⟩
     obtain⟨rfl,i,r,hi,rfl,e⟩:=q
     exact⟨Ap.refl,.int i,nmL i,r,rfl,e,.i hi,rfl⟩
theorem eN4(hz:T.length<=900000){G:DH}:We "NoValue" (Ap G) (Q3 [.str T]) G λd G'=>Ap G G'/\okV 20 d (tl T):=by
 have hz':T.length<=zd:=zu hz (by decide)
 refine Z7<| K1<| Z3<| V8<| b8 (a:= [.str T,.int 0,.int 1]) (G':=G) rfl ⟨rfl,(dP8 hz 20 21 1 (by decide) (by decide) (pre:= []) (j9:=tl T) rfl).mono λd G1 q=>?_⟩
 obtain⟨j1,v,t,r,rfl,er,ok⟩:=q
 refine K1<| aF5<| u0<| bin_w<| b8 (a:=.int ((([]:List Nat).length:Int)+t.length)) (G':=G1) rfl<| aB2 (as:= [.str T]) rfl<| (aA3 hz').mpr<| cX6.mpr ⟨_,rfl,λ_=>aC8 (b8 rfl j1),λk=>.inl (m5.mpr ?_)⟩
 have k:(([]:List Nat).length:Int)+t.length=T.length:=by
  rw[Bool.not_eq_false']at k
  exact of_decide_eq_true k
 have lt:=congrArg jh er
 rw[J9,ze]at lt
 have r0:r= []:=jo (by simp at k;lia)
 rw[r0,jC]at er
 rw[er]
 exact aQ0<|.inl<| b8 (a:=v) (G':=G1) rfl<| o7 ⟨j1,ok⟩
end
section
variable{n:Nat}{ns:List (D×D)}{w:Str}{ts:List Str}{tr:List Bool}{li re:D}
end
theorem bZ3{i j:Int}{G:DH}{Q:DPP}:Wp (gtD (.int i) (.int j)) G Q↔Q (.bl (decide (i>j))) G:=d8
section
variable{ps:List (Str×D)}{fs:List (Str×Bool×D)}{m:D}{G:DH}
end
theorem bT1(n:Nat):J1 0 n= (ja n).map λi:Nat=>D.int (i:Int):=by
 unfold J1
 refine xb λi _=>?_
 simp
section
variable{ps:List (Str×D)}{fs:List (Str×Bool×D)}{m s v:D}{G:DH}
end
theorem ixv{r:Nat}{l:List D}{j:Int}{a b:Fe}{U:DSt}{d:D}{G G1:DH}{Q:DPP}(ha:a U G=some (.ok (.ref r),G))(hb:b U G=some (.ok (.int j),G))(e:G[r]? =some (.lst l))(hd:atI l j=some d)(q:Q d G):Wp (binE ixD a b U) G Q:=aB3 ha hb ((bR0 e).mpr ⟨d,hd,q⟩)
theorem eL4{r:Nat}{l:List D}{k:Int}{j:Nat}{a b:Fe}{U:DSt}{d:D}{G:DH}{S:DSt->DH->Prop}(ha:a U G=some (.ok (.ref r),G))(hb:b U G=some (.ok (.int k),G))(e:G[r]? =some (.lst l))(hj:ixN l.length k=some j)(q:S U (G.set r (.lst (l.set j d)))):Wp (bF9 a b d U) G S:=dI6.mpr (b8 ha (b8 hb ((dK9 e hj).mpr q)))
theorem dR6{r:Nat}{n:Int}{G:DH}(h:J8 G r)(hn:0<n/\n<2 ^ 100):Wp (d9 [.ref r,.int n]) G λx G'=>∃k,x= .int k/\0<=k/\k<n/\∃o,G'=G.set r o/\J8 G' r:=by
 have hlt:=h.lt
 obtain⟨a,b,c,e,hr,hb1,hb2⟩:=h
 refine t8 (show Wp (aM0 [sRf r,some (.int n),none]) G _ from ?_)
 refine f9.mpr (M7 (u0 (bin_w (ixv (G1:=G) rfl rfl hr rfl (b8 (a:=.int 0) rfl (T4.mpr ⟨_,rfl,λ_=>?_,λ_=>?_⟩))))))
 · refine f9.mpr (w6 (bin_w (ixv (G1:=G) rfl rfl hr rfl (b8 (a:=.int n) rfl ((aF8 hn.1).mpr ?_)))))
   refine f9.mpr (aQ3.mpr (bin_w (ixv (G1:=G) rfl rfl hr rfl (b8 (a:=.int n) rfl ((bC5 hn).mpr (eL4 (k:=0) rfl rfl hr rfl ?_))))))
   refine b8 (a:=.rt (.int (a % n))) rfl (o7 ⟨_,rfl,xi _ (by lia),yI _ hn.1,_,rfl,a / n,b,c,e,?_,hb1,hb2⟩)
   exact zY hlt
 · have b1:0<=b*b % 2147483629:=xi _ (by lia)
   have b2:b*b % 2147483629<2147483629:=yI _ (by lia)
   have hr2:(G.set r (.lst [.int a,.int (b*b % 2147483629+3),.int c,.int e]))[r]? =some (.lst [.int a,.int (b*b % 2147483629+3),.int c,.int e]):=zY hlt
   refine m5.mpr (f9.mpr (aQ3.mpr (bin_w (bin_w (bin_w (ixv (G1:=G) rfl rfl hr rfl (ixv (G1:=G) rfl rfl hr rfl ((aS4 (Or.inl ⟨by lia,by lia⟩)).mpr (b8 (a:=.int 2147483629) rfl ((aF8 (by decide)).mpr (b8 (a:=.int 3) rfl (Z6.mpr (eL4 (k:=1) rfl rfl hr rfl ?_)))))))))))))
   refine o8 (bin_w (bin_w (bin_w (bin_w (ixv (G1:=G) rfl rfl hr2 rfl (b8 (a:=.int 69621) rfl ((aS4 (Or.inr ⟨by lia,by lia⟩)).mpr (b8 (a:=.int 2147483563) rfl ((aF8 (by decide)).mpr (b8 (a:=.int 8) rfl ((bC5 (by decide)).mpr (b8 (a:=.int n) rfl ((aF8 hn.1).mpr ?_)))))))))))))
   exact⟨_,rfl,xi _ (by lia),yI _ hn.1,_,rfl,a,b*b % 2147483629+3,c,e,hr2,by lia,by lia⟩
theorem cG9{r:Nat}{n:Int}{G:DH}(h:J8 G r)(hn:0<n/\n<2 ^ 100):Wp (d9 [.ref r,.int n]) G λx G'=>∃k,x= .int k/\0<=k/\k<n/\Fr r G G':=
 Wp.mono (dR6 h hn) λx G' ⟨k,e,h1,h2,o,e2,hh⟩=>⟨k,e,h1,h2,by subst e2;exact Fr.set hh⟩
theorem cJ8{r:Nat}{G:DH}{n:Int}{ds:List D}{Q:DPP}(h:J8 G r)(hn:(ds.length:Int)=n)(h0:0<n)(h1:n<2 ^ 100)(q:∀d∈ds,∀G',Fr r G G'->Fr r (G++[.lst ds]) G'->Q d G'):
 Wp (d9 [.ref r,.int n]) (G++[.lst ds]) λy G2=>Wp (ixD (.ref G.length) y) G2 Q:=by
 refine Wp.mono (cG9 h.app ⟨h0,h1⟩) λx G2 ⟨k,e,h3,h4,f2⟩=>?_
 subst e
 have hne:G.length≠r:=by have:=h.lt;lia
 have hg:=f2.at hne (o:=.lst ds) cG8
 rw[bR0 hg]
 obtain⟨d,hd,e⟩:=bB2 (l:=ds) h3 (by lia)
 exact⟨d,e,q d hd G2 ((Fr.app h).trans f2) f2⟩
theorem M6{r:Nat}{n:Int}{G:DH}{Q:DPP}(h:J8 G r)(hn:0<n/\n<2 ^ 100)(q:∀k:Int,0<=k->k<n->∀G',Fr r G G'->Q (.int k) G'):Wp (d9 [.ref r,.int n]) G Q:=
 Wp.mono (cG9 h hn) λx G' ⟨k,e,h1,h2,f⟩=>by subst e;exact q k h1 h2 G' f
theorem aW2{r:Nat}{n:Int}{fs:DSt->M (List D)}{U:DSt}{G:DH}{Q:DPP}(WP:U[0]? =some (some (.ref r)))(h0:0<n)(h1:n<2 ^ 100)(w:Wp (fs U) G λds G1=>ds.length<=zd/\J8 G1 r/\(ds.length:Int)=n/\∀d∈ds,∀G',Fr r G1 G'->Q d G'):
 Wp (binE ixD (O3 fs) (cX2 d9 vE0 (cE (.int n))) U) G Q:=
 bin_w (aA6.mpr (w.mono λds G1 q=>⟨q.1,K5 (j6 (aA9.mpr ⟨_,WP,m7 rfl (j8.mpr (N7.mpr ⟨rfl,cJ8 q.2.1 q.2.2.1 h0 h1 λd hd G' f _=>q.2.2.2 d hd G' f⟩))⟩))⟩))
theorem cP7{r:Nat}{G:DH}(h:J8 G r):Wp (U3 [.ref r]) G λx G'=>∃k,x= .int k/\ -1000000000000000000<=k/\k<=1000000000000000000/\Fr r G G':=by
 refine t8 (show Wp (aG0 [sRf r]) G _ from ?_)
 refine f9.mpr (M7 (u0 (bin_w (j7 (as:= [.ref r,.int 3]) rfl rfl (M6 h ⟨by decide,by decide⟩ λk h1 h2 G1 f1=>b8 (a:=.int 1) rfl (T4.mpr ⟨_,rfl,λ_=>?_,λ_=>?_⟩))))))
 · refine o8 (bin_w (j7 (as:= [.ref r,.int (2*1000000000000000000+1)]) rfl rfl (M6 f1.2.2 ⟨by decide,by decide⟩ λk2 h3 h4 G2 f2=>b8 (a:=.int 1000000000000000000) rfl (aN4.mpr ?_))))
   exact⟨_,rfl,by lia,by lia,f1.trans f2⟩
 · refine m5.mpr (o8 (aW2 rfl (by decide) (by decide) (b8 (a:= [.int 0,.int 1,.int (-1),.int 2,.int (-2),.int 3,.int 10,.int (-10),.int 1000000000000000000,.int (-1000000000000000000)]) (G':=G1) rfl ⟨sz,f1.2.2,rfl,λd hd G2 f2=>?_⟩)))
   simp only[zi,zn,or_false]at hd
   have ff:=f1.trans f2
   rcases hd with rfl|rfl|rfl|rfl|rfl|rfl|rfl|rfl|rfl|rfl<;>exact⟨_,rfl,by decide,by decide,ff⟩
theorem cV8{r:Nat}{G:DH}{Q:DPP}(h:J8 G r)(q:∀k:Int, -1000000000000000000<=k->k<=1000000000000000000->∀G',Fr r G G'->Q (.int k) G'):Wp (U3 [.ref r]) G Q:=
 Wp.mono (cP7 h) λx G' ⟨k,e,h1,h2,f⟩=>by subst e;exact q k h1 h2 G' f
theorem dM3{G:DH}{p:Nat}{ns:List Int}{c k:Int}(e:G[p]? =some (.rol (ns.map D.int)))(hk:0<=k/\k<64):Wp (aF6 [.ref p,.int c,.int k]) G λd G'=>∃r,d= .ref r/\G.length<=r/\J8 G' r/\Gr G G':=by
 have m1:bI1 7919 k:=Or.inl ⟨by lia,by lia⟩
 have b1:0<=c % 2147483629:=xi _ (by lia)
 have b2:c % 2147483629<2147483629:=yI _ (by lia)
 have m2:bI1 (c % 2147483629+7919*k+1) 48271:=Or.inr ⟨by lia,by lia⟩
 have ln:G.length<=(G++[DO.lst []]).length:=by simp
 refine t8 (show Wp (aL3 [sRf p,some (.int c),some (.int k),none]) G _ from ?_)
 refine v6 (X1:= [sRf p,some (.int c),some (.int k),some (.int 0)]) rfl ?_
 refine f9.mpr (cA3 (A:=λfl G1=>∃w,fl= .nx [sRf p,some (.int c),some (.int k),some (.int w)]/\G1=G++[.lst []]) (u0 (bin_w (b8 (a:=.ref p) rfl (aA6.mpr (j8.mpr ⟨sz,(dV6 (O9 e) m8).mpr ⟨_,rfl,λ_=>?_,λ_=>?_⟩⟩))))) ?_)
 ·exact w6 (bin_w (aB2 (as:= [.ref p]) rfl ((dK7 (O9 e)).mpr (b8 (a:=.int 2) rfl ((aF8 (by decide)).mpr ⟨_,rfl,rfl⟩)))))
 ·exact m5.mpr ⟨_,rfl,rfl⟩
 · rintro _ _ ⟨w,rfl,rfl⟩
   refine o8<| aA6.mpr<| m7 (x:=.int c) rfl<| j6<| bin_w<| bin_w<| bin_w<| bin_w<| aB3 (x:=.int c) (y:=.int 2147483629) rfl rfl<| (aF8 (by decide)).mpr<| aB3 (x:=.int 7919) (y:=.int k) rfl rfl<| (aS4 m1).mpr<| Z6.mpr<| b8 (a:=.int 1) rfl<| Z6.mpr<| b8 (a:=.int 48271) rfl<| (aS4 m2).mpr<| b8 (a:=.int 2147483647) rfl<| (aF8 (by decide)).mpr<| b8 (a:= [.int w,.int 0]) rfl ⟨sz,?_⟩
   exact⟨_,rfl,ln,⟨_,_,_,_,m8,xi _ (by lia),XT (yI _ (by lia)) (by decide)⟩,Gr.app.trans Gr.app⟩
section
variable{G:DH}{Q:DPP}
theorem ix_str{z:Str}{k:Int}(hz:z.length<=zd)(h0:0<=k)(h1:k<z.length)(q:∀c∈z.cps.toList,Q (.str ⟨#[c]⟩) G):Wp (ixD (.str z) (.int k)) G Q:=by
 have e:ixD (.str z) (.int k)=if z.length<=zd then (do
  let c <-aJ5 (atI z.cps.toList k)
  pure (.str ⟨#[c]⟩):M D)else M.stuck:=rfl
 rw[e,if_pos hz]
 simp only[g8,aI8,d8]
 have hl:z.length=z.cps.toList.length:=rfl
 obtain⟨n,rfl⟩:=jW h0
 have hn:n<z.cps.toList.length:=by lia
 refine⟨z.cps.toList[n],?_,q _ (jO _)⟩
 unfold atI ixN
 rw[if_pos (by omega),if_pos (by lia)]
 simp only[jA,xY,zv hn]
theorem cW1{a b:Str}(h:aH9 a=true)(k:aH9 b=true):aH9 (a++b)=true:=by
 have e:aH9 (a++b)= (aH9 a&&aH9 b):=by
  unfold aH9
  rw[show (a++b).cps.toList=a.cps.toList++b.cps.toList from ji,List.all_append]
 rw[e,h,k];rfl
theorem dB2{c:Nat}(h:cR7 c=true):aH9 ⟨#[c]⟩=true:=by
 show [c].all cR7=true
 rw[jl,h];rfl
theorem dV7:∀c∈("abcdefghijklmnopqrstuvwxyz" :Str).cps.toList,cR7 c=true:=by decide +kernel
theorem aS8(c:Nat):(⟨#[c]⟩:Str).length=1:=rfl
end
theorem eX1:V5=m9 (J7 (cSt "") nG3) (m9 (aR4 (U0 (aX1 (binE addD vE1 (cX2 d9 vE0 (binE addD (binE aO1 vE2 vE1) cI1))))) nG4 LT) (u6 vE3)):=rfl
theorem eX0{r:Nat}{a b:Int}{z:Str}{u:Option D}{G:DH}(h:J8 G r)(hz:z.length<=1000):Wp (LT [sRf r,some (.int a),some (.int b),some (.str z),u]) G λfl G'=>Fr r G G'/\∃c,cR7 c=true/\fl= .nx [sRf r,some (.int a),some (.int b),some (.str (z++⟨#[c]⟩)),u]:=by
 have bg:=big
 have hA:("abcdefghijklmnopqrstuvwxyz" :Str).length=26:=by rfl
 refine w6<| bin_w<| b8 (a:=.str z) rfl<| bin_w<| b8 (a:=.str "abcdefghijklmnopqrstuvwxyz") rfl<| j7 (as:= [.ref r,.int 26]) rfl rfl<| M6 h ⟨by decide,by decide⟩ λk h0 h1 G1 f1=>ix_str (by lia) h0 (by lia) λc hc=>(U5 (by rw[aS8];lia)).mpr ?_
 exact⟨f1,c,dV7 c hc,rfl⟩
theorem cH1{r:Nat}{a b:Int}:∀(items:List D) (z:Str) (u:Option D) (G:DH),J8 G r->aH9 z=true->z.length+items.length<=100->
 Wp (aE2 nG4 LT (λ_=>true) items [sRf r,some (.int a),some (.int b),some (.str z),u]) G λfl G'=>Fr r G G'/\∃z' u',fl= .nx [sRf r,some (.int a),some (.int b),some (.str z'),u']/\z'.length=z.length+items.length/\aH9 z'=true
 |[],z,u,G,h,ht,hl=>by
   rw[aJ4]
   exact⟨rfl,Fr.refl h,z,u,rfl,rfl,ht⟩
 |d::t,z,u,G,h,ht,hl=>by
   simp only[zp]at hl
   rw[aI5,Q4]
   refine⟨rfl,(eX0 h (by lia)).mono ?_⟩
   rintro _ G1 ⟨f1,c,hc,rfl⟩
   refine(cH1 t (z++⟨#[c]⟩) (some d) G1 f1.2.2 (cW1 ht (dB2 hc)) (by rw[xW,aS8];lia)).mono λfl G2 q=>?_
   obtain⟨q1,z',u',q2,q3,q4⟩:=q
   exact⟨f1.trans q1,z',u',q2,by rw[q3,xW,aS8,zp];lia,q4⟩
theorem bA4{r:Nat}{a b:Int}{G:DH}(h:J8 G r)(h0:0<=a)(h1:a<=b)(h2:b<=20):Wp (S9 [.ref r,.int a,.int b]) G λx G'=>∃z,x= .str z/\z.length<=20/\Fr r G G'/\aH9 z=true/\a<=z.length:=by
 refine t8 (show Wp (V5 [sRf r,some (.int a),some (.int b),none,none]) G _ from ?_)
 rw[eX1]
 refine v6 (X1:= [sRf r,some (.int a),some (.int b),some (.str ""),none]) rfl<| f9.mpr<| aP0.mpr<| rng1.mpr<| j6<| bin_w<| b8 (a:=.int a) rfl<| j7 (as:= [.ref r,.int (b-a+1)]) rfl rfl<| M6 h ⟨by lia,by lia⟩ λk hk0 hk1 G1 f1=>Z6.mpr<| j8.mpr<| (rng1_int ⟨by lia,by lia⟩).mpr ?_
 have hlen:(J1 0 (a+k).toNat).length= (a+k).toNat:=by unfold J1;rw[zh,jg]
 refine(cH1 (J1 0 (a+k).toNat) "" none G1 f1.2.2 rfl ?_).mono ?_
 · rw[hlen,show (("" :Str).length)=0 from rfl]
   lia
 · rintro _ G2 ⟨f2,z',u',rfl,hz,ht⟩
   rw[hlen,show (("" :Str).length)=0 from rfl]at hz
   exact b8 rfl (o7 ⟨z',rfl,by lia,f1.trans f2,ht,by lia⟩)
theorem eQ6:∃z:Str,(z.length<=20/\aH9 z=true)/\∀ {G:DH} {Q:DPP},Wp (aK4 (.str ("z" :Str)) (.int 20)) G Q↔Q (.str z) G:=by
 refine⟨ZB ("z" :Str) 20,⟨by decide +kernel,by decide +kernel⟩,λ{G Q}=>?_⟩
 have e:aK4 (.str ("z" :Str)) (.int 20)=if xA ("z" :Str) 20 then pure (.str (ZB ("z" :Str) 20))else M.stuck:=rfl
 rw[e,if_pos (by decide +kernel)]
 exact d8
def TX(z:Str):Prop:=aH9 z=true/\z.length<=20
def NM(z:Str):Prop:=TX z/\0<z.length
theorem dP0{r:Nat}{G:DH}(h:J8 G r):Wp (aF1 [.ref r]) G λx G'=>∃z,x= .str z/\TX z/\Fr r G G':=by
 obtain⟨zz,hzz,emul⟩:=eQ6
 refine t8 (show Wp (aK7 [sRf r]) G _ from ?_)
 refine f9.mpr<| M7<| u0<| bin_w<| j7 (as:= [.ref r,.int 3]) rfl rfl<| M6 h ⟨by decide,by decide⟩ λk hk0 hk1 G1 f1=>b8 (a:=.int 1) rfl<| T4.mpr ⟨_,rfl,λ_=>?_,λ_=>m5.mpr ?_⟩
 · refine o8<| j7 (as:= [.ref r,.int 0,.int 20]) rfl rfl<| (bA4 f1.2.2 (by decide) (by decide) (by decide)).mono ?_
   rintro _ G2 ⟨z,rfl,hz,f2,ht,_⟩
   exact⟨z,rfl,⟨ht,by lia⟩,f1.trans f2⟩
 · refine o8<| aW2 rfl (by decide) (by decide)<| m7 (x:=.str "") rfl<| m7 (x:=.str "a") rfl<| m7 (x:=.str "b") rfl<| m7 (x:=.str "aa") rfl<| m7 (x:=.str "ab") rfl<| m7 (x:=.str "ba") rfl<| m7 (x:=.str "abc") rfl<| m7 (x:=.str "z") rfl<| m7 (x:=.str "true") rfl<| j6<| aB3 (x:=.str "z") (y:=.int 20) rfl rfl<| emul.mpr<| j8.mpr ⟨sz,f1.2.2,rfl,λd hd G2 f2=>?_⟩
   simp only[zi,zn,or_false]at hd
   have f02:=f1.trans f2
   rcases hd with rfl|rfl|rfl|rfl|rfl|rfl|rfl|rfl|rfl|rfl
   all_goals first
    |exact⟨_,rfl,⟨rfl,by decide⟩,f02⟩
    |exact⟨_,rfl,⟨hzz.2,hzz.1⟩,f02⟩
theorem bU1(z:Str)(d:D):∀l:List (Key×D),v7 (l.map λkv=>if kv.1= .inr z then (kv.1,d)else kv)=v7 l
 |[]=>rfl
 |(k,v)::r=>by
  have ih:=bU1 z d r
  rw[zA]
  have e:(if ((k,v):Key×D).1= .inr z then (((k,v):Key×D).1,d)else (k,v)).1=k:=by split<;>rfl
  generalize (if ((k,v):Key×D).1= .inr z then (((k,v):Key×D).1,d)else (k,v))=p at e
  obtain⟨k',v'⟩:=p
  cases e
  rcases k' with i|y
  ·rfl
  ·exact congrArg (XZ (y :: ·)) ih
theorem bT6(z:Str)(d:D):∀(l:List (Key×D)) (ss:List Str),v7 l=some ss->v7 (l++[(.inr z,d)])=some (ss++[z])
 |[],ss,h=>by cases h;rfl
 |(.inl i,v)::r,ss,h=>by exact t6 h
 |(.inr y,v)::r,ss,h=>by
  replace h:(v7 r).map (y :: ·)=some ss:=h
  rcases hr:v7 r with _|t
  ·rw[hr]at h;exact t6 h
  ·
    rw[hr]at h
    cases h
    exact congrArg (XZ (y :: ·)) (bT6 z d r t hr)
noncomputable def NS(P:Str->Prop)(ss:List Str):Prop:=(∀z∈ss,P z)/\ss.Nodup
theorem bT8(z:Str):∀(l:List (Key×D)) (ss:List Str),v7 l=some ss->z∈ss->(l.any λkv=>decide (kv.1= .inr z))=true
 |[],ss,h,hz=>by cases h;cases hz
 |(.inl i,v)::r,ss,h,hz=>by exact t6 h
 |(.inr y,v)::r,ss,h,hz=>by
  replace h:(v7 r).map (y :: ·)=some ss:=h
  rcases hr:v7 r with _|t
  ·rw[hr]at h;exact t6 h
  ·
    rw[hr]at h
    cases h
    rw[yc,Bool.or_eq_true]
    rcases zi.mp hz with rfl|hz
    ·exact .inl (by simp)
    ·exact .inr (bT8 z r t hr hz)
theorem dB8{l:List (Key×D)}{ss:List Str}{z:Str}{d:D}{P:Str->Prop}(h:v7 l=some ss)(hn:NS P ss)(hz:P z):∃ss',v7 (aY2 l (.inr z) d)=some ss'/\ss'.length<=ss.length+1/\NS P ss':=by
 unfold aY2
 split
 ·exact⟨ss,by rw[bU1];exact h,by lia,hn⟩
 · rename_i c
   refine⟨ss++[z],bT6 z d l ss h,by simp,λx hx=>?_,?_⟩
   · rcases je.mp hx with hx|hx
     ·exact hn.1 x hx
     ·rw[zM.mp hx];exact hz
   · refine List.nodup_append.mpr ⟨hn.2,by simp,λa ha b hb=>?_⟩
     rw[zM]at hb
     subst hb
     intro e
     subst e
     exact c (bT8 _ l ss h ha)
theorem dN6{r:Nat}{l:List (Key×D)}{z:Str}{d:D}{G:DH}{R:Unit->DH->Prop}(h:G[r]? =some (.dct l))(hl:l.length<zd):Wp (bZ5 (.ref r) (.str z) d) G R↔R () (G.set r (.dct (aY2 l (.inr z) d))):=by
 unfold bZ5
 simp only[g8,O6,h,M8,cU2,if_pos hl,bE6]
theorem bR5{l:List (Key×D)}{ss:List Str}(h:v7 l=some ss):l.length=ss.length:=(aM2 h).symm
theorem dU3{ss:List Str}(h:ss.Nodup):(aD4 ss).Pairwise LtS:=by
 have h1:(aD4 ss).Pairwise λa b=>leS a b=true:=Xq aU6 bK7 ss
 have h2:(aD4 ss).Nodup:=(yZ ss leS).nodup_iff.mpr h
 refine(List.Pairwise.and h1 h2).imp λ{a b} q=>?_
 refine yQ λn=>q.2 (aR6 q.1 ?_)
 show (!decide (a.cps.toList<b.cps.toList))=true
 rw[decide_eq_false (show ¬a.cps.toList<b.cps.toList from n)];rfl
theorem eN9:aB8=m9 (J7 (bB0) nG1) (m9 (aR4 (U0 (aX1 (cX2 d9 vE0 (ixE (O3 (aX2 cI4 cI9)) (cX2 d9 vE0 cI2))))) nG2 NB) (u6 (cY1 aJ3 vE1))):=rfl
theorem eR1{r p:Nat}{u v:Option D}{l:List (Key×D)}{ss:List Str}{G:DH}(hp:p≠r)(h:J8 G r)(e:G[p]? =some (.dct l))(hk:v7 l=some ss)(hl:ss.length<=60)(hz:NS NM ss):
 Wp (NB [sRf r,sRf p,u,v]) G λfl G'=>Fr2 r p G G'/\∃v' l' ss',fl= .nx [sRf r,sRf p,u,v']/\G'[p]? =some (.dct l')/\v7 l'=some ss'/\ss'.length<=ss.length+1/\NS NM ss':=by
 have bg:=big
 have next:∀(z:Str) (G3:DH),NM z->Fr r G G3->Wp (J7 cBt (bF9 vE1 vE3) [sRf r,sRf p,u,some (.str z)]) G3 λfl G'=>Fr2 r p G G'/\∃v' l' ss',fl= .nx [sRf r,sRf p,u,v']/\G'[p]? =some (.dct l')/\v7 l'=some ss'/\ss'.length<=ss.length+1/\NS NM ss':=by
  intro z G3 hzl f3
  have e3:=f3.at hp e
  obtain⟨ss',k1,k2,k3⟩:=dB8 (z:=z) (d:=.bl true) hk hz hzl
  have f4:Fr2 r p G3 (G3.set p (.dct (aY2 l (.inr z) (.bl true)))):=Fr2.set hp f3.2.2
  exact aQ3.mpr<| b8 (a:=.bl true) rfl<| dI6.mpr<| b8 (a:=.ref p) rfl<| b8 (a:=.str z) rfl<| (dN6 e3 (by rw[bR5 hk];lia)).mpr ⟨f3.two.trans f4,_,_,ss',rfl,zY (lt_of_get e3),k1,k2,k3⟩
 refine f9.mpr<| w6<| aW2 rfl (by decide) (by decide)<| b8 (a:= [.str "a",.str "b",.str "ab",.str "ba",.str "abc",.str "z",.str "zz",.str "zzzzzzzz"]) (G':=G) rfl ⟨sz,h,rfl,λx hx G1 f1=>?_⟩
 have hx':∃z:Str,x= .str z/\NM z:=by
  simp only[zi,zn,or_false]at hx
  rcases hx with rfl|rfl|rfl|rfl|rfl|rfl|rfl|rfl<;>exact⟨_,rfl,⟨rfl,by decide⟩,by decide⟩
 obtain⟨z0,rfl,hz0⟩:=hx'
 refine f9.mpr<| M7<| u0<| bin_w<| j7 (as:= [.ref r,.int 3]) rfl rfl<| M6 f1.2.2 ⟨by decide,by decide⟩ λk hk0 hk1 G2 f2=>b8 (a:=.int 1) rfl<| T4.mpr ⟨_,rfl,λ_=>?_,λ_=>m5.mpr (next z0 G2 hz0 (f1.trans f2))⟩
 refine w6<| j7 (as:= [.ref r,.int 1,.int 8]) rfl rfl<| (bA4 f2.2.2 (by decide) (by decide) (by decide)).mono ?_
 rintro _ G3 ⟨z,rfl,hz3,f3,ht3,hl3⟩
 exact next z G3 ⟨⟨ht3,by lia⟩,by lia⟩ (f1.trans (f2.trans f3))
theorem cL2{r p:Nat}(hp:p≠r):∀(items:List D) (u v:Option D) (l:List (Key×D)) (ss:List Str) (G:DH),J8 G r->G[p]? =some (.dct l)->v7 l=some ss->ss.length+items.length<=60->NS NM ss->
 Wp (aE2 nG2 NB (λ_=>true) items [sRf r,sRf p,u,v]) G λfl G'=>Fr2 r p G G'/\∃u' v' l' ss',fl= .nx [sRf r,sRf p,u',v']/\G'[p]? =some (.dct l')/\v7 l'=some ss'/\ss'.length<=ss.length+items.length/\NS NM ss'
 |[],u,v,l,ss,G,h,e,hk,hl,hz=>by
   rw[aJ4]
   exact⟨rfl,(Fr.refl h).two,u,v,l,ss,rfl,e,hk,by simp,hz⟩
 |d::t,u,v,l,ss,G,h,e,hk,hl,hz=>by
   simp only[zp]at hl
   rw[aI5,Q4]
   refine⟨rfl,(eR1 (u:=some d) (v:=v) hp h e hk (by lia) hz).mono ?_⟩
   rintro _ G1 ⟨f1,v1,l1,ss1,rfl,q2,q3,q4,q5⟩
   refine(cL2 hp t (some d) v1 l1 ss1 G1 f1.2.2 q2 q3 (by lia) q5).mono ?_
   rintro _ G2 ⟨f2,u',v',l',ss',p1,p2,p3,p4,p5⟩
   exact⟨f1.trans f2,u',v',l',ss',p1,p2,p3,by simp only[zp];lia,p5⟩
theorem dF9{r:Nat}{G:DH}(h:J8 G r):Wp (aC3 [.ref r]) G λx G'=>∃(q:Nat) (ss:List Str),x= .ref q/\q≠r/\G'[q]? =some (.lst (ss.map D.str))/\ss.length<=8/\NS NM ss/\ss.Pairwise LtS/\Fr r G G':=by
 have fd:Fr r G (G++[DO.dct []]):=Fr.app h
 have hp:G.length≠r:=by have:=h.lt;lia
 refine t8 (show Wp (aB8 [sRf r,none,none,none]) G _ from ?_)
 rw[eN9]
 refine v6 (X1:= [sRf r,some (.ref G.length),none,none]) (G':=G++[.dct []]) rfl<| f9.mpr<| aP0.mpr<| rng1.mpr<| j6<| K5<| m7 (x:=.ref r) rfl<| j6<| aW2 rfl (by decide) (by decide)<| b8 (a:= [.int 4,.int 9]) (G':=G++[.dct []]) rfl ⟨sz,fd.2.2,rfl,λd hd G1 f1=>?_⟩
 have hd':∃i:Int,d= .int i/\0<i/\i<=9:=by
  simp only[zi,zn,or_false]at hd
  rcases hd with rfl|rfl
  ·exact⟨4,rfl,by decide,by decide⟩
  ·exact⟨9,rfl,by decide,by decide⟩
 obtain⟨i,rfl,hi1,hi2⟩:=hd'
 refine j8.mpr<| N7.mpr ⟨rfl,M6 f1.2.2 ⟨hi1,by lia⟩ λk hk0 hk1 G2 f2=>j8.mpr<| (rng1_int ⟨by lia,by lia⟩).mpr ?_⟩
 have f12:=f1.trans f2
 have e2:G2[G.length]? =some (.dct []):=f12.at hp m8
 have hlen:(J1 0 k.toNat).length=k.toNat:=by unfold J1;rw[zh,jg]
 refine(cL2 hp (J1 0 k.toNat) none none [] [] G2 f2.2.2 e2 rfl (by rw[hlen];simp;lia) ⟨(λz hz=>by cases hz),List.nodup_nil⟩).mono ?_
 rintro _ G3 ⟨f3,u',v',l',ss',rfl,q2,q3,q4,q5⟩
 rw[hlen]at q4
 simp only[jw]at q4
 refine o8<| aB2 (as:= [.ref G.length]) rfl<| (cO6 q2 q3 (by lia)).mpr ?_
 have hperm:(aD4 ss').Perm ss':=yZ ss' leS
 have hr3:=f3.2.2.lt
 refine o7 ⟨G3.length,aD4 ss',rfl,by lia,m8,by rw[hperm.length_eq];lia,⟨λz hz=>q5.1 z (hperm.mem_iff.mp hz),hperm.nodup_iff.mpr q5.2⟩,dU3 q5.2,?_⟩
 have f02:=fd.trans f12
 refine Fr.trans ⟨zu f02.1 f3.1,λj hj hl=>?_,f3.2.2⟩ (Fr.app f3.2.2)
 have h02:=f02.1
 have hfd:=fd.1
 rw[f3.2.1 j hj (by lia) (by lia),f02.2.1 j hj hl]
theorem GB.up{b n:Nat}{d:D}(h:GB b n d):∀m,n<=m->GB b m d/\shN m d=shN n d:=by
 induction h with
 |@i n i hi=>intro m hm;obtain⟨k,rfl⟩:∃k,m=k+1:=⟨m-1,by lia⟩;exact⟨.i hi,rfl⟩
 |@b n k=>intro m hm;obtain⟨k,rfl⟩:∃k,m=k+1:=⟨m-1,by lia⟩;exact⟨.b,rfl⟩
 |@s n z hs=>intro m hm;obtain⟨k,rfl⟩:∃k,m=k+1:=⟨m-1,by lia⟩;exact⟨.s hs,rfl⟩
 |@l n l hl hx ih=>
   intro m hm
   obtain⟨k,rfl⟩:∃k,m=k+1:=⟨m-1,by lia⟩
   refine⟨.l hl λx hxl=>(ih x hxl k (by lia)).1,?_⟩
   rw[bM6,bM6,xb λx hxl=>(ih x hxl k (by lia)).2]
 |@r n ps hl hp hn hx ih=>
   intro m hm
   obtain⟨k,rfl⟩:∃k,m=k+1:=⟨m-1,by lia⟩
   refine⟨.r hl hp hn λp hpl=>(ih p hpl k (by lia)).1,?_⟩
   rw[bU2,bU2,xb (f:=shQ (shN k)) (g:=shQ (shN n)) λx hxl=>?_]
   obtain⟨p,hpl,rfl⟩:=zW.mp hxl
   show tl p.1++[58,32]++shN k p.2=tl p.1++[58,32]++shN n p.2
   rw[(ih p hpl k (by lia)).2]
mutual
noncomputable def lnD:D->Nat
 | .tup l=>2+lnL l
 | .str z=>z.length+2
 | .int i=>(nmL i).length
 | .bl _=>5
 | .ref _=>1
 | .fn _=>1
 | .ty _=>1
 | .non=>1
noncomputable def lnL:List D->Nat
 |[]=>0
 |d::r=>lnD d+2+lnL r
end
theorem U8{l:List D}:lnD (.tup [.str v9,.tup l])=lnL l+14:=by
 simp only[lnD,lnL,show v9.length=4 from rfl];lia
theorem aG5{l:List D}:lnD (.tup [.str M3,.tup l])=lnL l+16:=by
 simp only[lnD,lnL,show M3.length=6 from rfl];lia
theorem aR9{p:Str×D}:lnD (prD p)=p.1.length+lnD p.2+8:=by
 unfold prD
 simp only[lnD,lnL];lia
theorem aI6:∀a b:List D,lnL (a++b)=lnL a+lnL b
 |[],b=>by simp[lnL]
 |d::r,b=>by
   have:=aI6 r b
   simp only[Zb,lnL]
   lia
theorem cK7:∀l:List D,lnL l.reverse=lnL l
 |[]=>rfl
 |x::r=>by rw[yP,aI6,cK7 r];simp only[lnL];lia
theorem cM5{a b:List D}(h:a.Sublist b):lnL a<=lnL b:=by
 induction h with
 |slnil=>exact zj _
 |cons x _ ih=>simp only[lnL];lia
 |cons_cons x _ ih=>simp only[lnL];lia
theorem bN0:∀ {l:List D} {d:D},d∈l->lnD d<=lnL l
 |a::r,d,h=>by
   unfold lnL
   rcases zi.mp h with rfl|h
   ·lia
   · have:=bN0 h
     lia
theorem cA7{C:Nat}:∀ {l:List D},(∀x∈l,lnD x<=C)->lnL l<=l.length*(C+2)
 |[],_=>by simp[lnL]
 |a::r,h=>by
   have:=cA7 λx hx=>h x (zw _ hx)
   have:=h a (zr ..)
   rw[zp,Nat.succ_mul,lnL]
   lia
theorem dD8{f:D->List Nat}:∀ {l:List D},(∀x∈l,(f x).length<=lnD x)->(glL [44,32] (l.map f)).length<=lnL l
 |[],_=>by simp[glL,lnL]
 |a::r,h=>by
   have:=dD8 λx hx=>h x (zw _ hx)
   have:=h a (zr ..)
   rw[zA,glL,lnL,ze,ze]
   simp;lia
theorem dF4(L:List (List Nat)):(Q9 [44,32] L).length<=(glL [44,32] L).length:=by
 rcases L with _|⟨a,r⟩
 ·exact zj _
 ·rw[Q9,glL];simp;lia
theorem GB.ln{b n:Nat}{d:D}(h:GB b n d):(shN n d).length<=lnD d:=by
 induction h with
 |i h=>rw[bF2,lnD];exact zj _
 |@b _ k=>rcases k with _|_<;>(rw[lnD];exact jt rfl)
 |s h=>rw[cE9,lnD,zp,ze,J9];exact zj _
 |@l n l hl _ ih=>
   rw[bM6,U8]
   have h1:=dF4 (l.map (shN n))
   have h2:=dD8 ih
   simp only[zp,ze,jw]
   lia
 |@r n ps hl hp hn _ ih=>
   rw[bU2,aG5]
   have h1:=dF4 ((ps.map prD).map (shQ (shN n)))
   have h2:=dD8 (f:=shQ (shN n)) (l:=ps.map prD) λx hx=>by
    obtain⟨p,hpl,rfl⟩:=zW.mp hx
    have:=ih p hpl
    rw[aR9]
    show (tl p.1++[58,32]++shN n p.2).length<=_
    rw[ze,ze,J9]
    simp;lia
   simp only[zp,ze,jw]
   lia
structure Dr(b n B:Nat)(d:D):Prop where
 gv:GB b n d
 ln:lnD d<=B
noncomputable abbrev B18:Nat:=1000000000000000000
theorem GB.le{b c n:Nat}{d:D}(h:GB b n d)(hb:b<=c):GB c n d:=by
 induction h with
 |i h=>exact .i (zu h hb)
 |b=>exact .b
 |s h=>exact .s h
 |l hl _ ih=>exact .l hl ih
 |r hl hp hn _ ih=>exact .r hl hp hn ih
theorem Dr.up{b n m B C:Nat}{d:D}(h:Dr b n B d)(hn:n<=m)(hb:B<=C):Dr b m C d:=⟨(h.gv.up m hn).1,zu h.ln hb⟩
theorem Dr.l{b n B k:Nat}{l:List D}(hk:k<=100)(hl:l.length<=k)(h:∀x∈l,Dr b n B x):Dr b (n+1) (16+k*(B+30)) (.tup [.str v9,.tup l]):=by
 refine⟨.l (by lia) λx hx=>(h x hx).gv,?_⟩
 have h1:=cA7 λx hx=>(h x hx).ln
 have h2:=Nat.mul_le_mul hl (show B+2<=B+30 by lia)
 rw[U8]
 lia
theorem Dr.r{b n B k:Nat}{ps:List (Str×D)}(hk:k<=100)(hl:ps.length<=k)(hp:(ps.map (·.1)).Pairwise LtS)(hn:∀p∈ps,(TxL p.1/\tl p.1≠ [])/\p.1.length<=20)(h:∀p∈ps,Dr b n B p.2):Dr b (n+1) (16+k*(B+30)) (.tup [.str M3,.tup (ps.map prD)]):=by
 refine⟨.r (by lia) hp (λp hpl=>(hn p hpl).1) λp hpl=>(h p hpl).gv,?_⟩
 have h1:=cA7 (l:=ps.map prD) (C:=B+28) λx hx=>by
  obtain⟨p,hpl,rfl⟩:=zW.mp hx
  have:=(h p hpl).ln
  have:=(hn p hpl).2
  rw[aR9];lia
 rw[zh]at h1
 have h2:=Nat.mul_le_mul_right (B+30) hl
 rw[aG5]
 lia
theorem Dr.i{b n:Nat}{i:Int}(h:i.natAbs<=b)(hb:b<=aB0):Dr b (n+1) 50 (.int i):=⟨.i h,by rw[lnD];have:=aF9 (zu h hb);lia⟩
theorem Dr.b{b n:Nat}{k:Bool}:Dr b (n+1) 50 (.bl k):=⟨.b,by rw[lnD];decide⟩
theorem Dr.s{b n:Nat}{z:Str}(h:TxL z)(hz:z.length<=20):Dr b (n+1) 50 (.str z):=⟨.s h,by rw[lnD];lia⟩
theorem dX7{z:Str}(h:TX z):TxL z:=⟨λc hc=>by
 have:=yU.mp h.1 c hc
 unfold cR7 at this
 rw[xC,decide_eq_true_iff,decide_eq_true_iff]at this
 exact this,zu h.2 (by decide)⟩
theorem eP3{z:Str}(h:NM z):(TxL z/\tl z≠ [])/\z.length<=20:=⟨⟨dX7 h.1,λk=>by have:=h.2;rw[<-J9,k]at this;exact absurd this (by decide)⟩,h.1.2⟩
theorem cF7{k:Int}{l:List D}{G:DH}(h:l.all aL9=true):∃b,DL.inB (.int k) (.tup l) G=some b:=by
 unfold DL.inB
 exact⟨_,if_pos (by rw[h];rfl)⟩
theorem bY6{g:Fg}{e:Fe}{ck:DH->Bool}(J:DH->Prop)(S:DSt->Prop)(rel:D->D->Prop)(hck:∀G,J G->ck G=true):∀(items:List D) (U:DSt) (G:DH),S U->J G->
 (∀d∈items,∀ U G,S U->J G->Wp (g d U) G λWZ G1=>G1=G/\S WZ/\Wp (e WZ) G λy G3=>J G3/\rel d y)->
 Wp (K9 g U6 e ck items U) G λys G'=>J G'/\∃zs:List (D×D),zs.map (·.1)=items/\ys=zs.map (·.2)/\∀z∈zs,rel z.1 z.2
 |[],U,G,s,j,_=>bF8.mpr ⟨hck G j,j, [],rfl,rfl,λ_ h=>nomatch h⟩
 |d::r,U,G,s,j,step=>by
   refine bE2.mpr ⟨hck G j,(step d (zr ..) U G s j).mono λWZ G1 ⟨e1,s1,w1⟩=>?_⟩
   subst e1
   refine b8 (a:=true) rfl ?_
   rw[if_pos rfl]
   refine w1.mono λy G3 ⟨j3,py⟩=>?_
   refine(bY6 J S rel hck r WZ G3 s1 j3 λd hd=>step d (zw _ hd)).mono λys G4 ⟨j4,zs,h1,h2,h3⟩=>⟨j4,(d,y)::zs,by rw[zA,h1],by rw[zA,h2],λz hz=>?_⟩
   rcases zi.mp hz with rfl|hz
   ·exact py
   ·exact h3 z hz
theorem dX2(R:List D->M D):T8 R=m9 (J7 (cX2 d9 vE0 cI8) nG2) (asQ (binE addD (ixE vE0 cI3) cI1) (bF9 vE0 cI3) (m9 (ifS VT (VAb R) J2) VC)):=rfl
noncomputable def Bd:Nat->Nat
 |0=>0
 |1=>50
 |k+2=>16+8*(Bd (k+1)+30)
theorem eP4:∀k,1<=k->50<=Bd k
 |0,h=>by lia
 |1,_=>zj _
 |k+2,_=>by show 50<=16+8*(Bd (k+1)+30);lia
section
variable{r:Nat}{G:DH}
theorem dW2{deep kind:Int}{u:Option D}{n:Nat}(h:J8 G r):Wp (VC [sRf r,some (.int deep),some (.int kind),u]) G λfl G'=>∃d,fl= .rt d/\Dr B18 (n+1) 50 d/\Fr r G G':=by
 obtain⟨b1,h1⟩:=cF7 (k:=kind) (l:= [.int 0,.int 3,.int 6]) (G:=G) rfl
 obtain⟨b2,h2⟩:=cF7 (k:=kind) (l:= [.int 1,.int 4,.int 7]) (G:=G) rfl
 refine f9.mpr<| M7<| u0<| bin_w<| b8 (a:=.int kind) (G':=G) rfl<| b8 (a:=.tup [.int 0,.int 3,.int 6]) (G':=G) rfl<| dX1.mpr ⟨b1,h1,_,rfl,λ_=>o8<| j7 (as:= [.ref r]) rfl rfl<| cV8 h λk hk0 hk1 G1 f1=>⟨_,rfl,.i (by lia) (by decide),f1⟩,λ_=>m5.mpr ?_⟩
 refine f9.mpr<| M7<| u0<| bin_w<| b8 (a:=.int kind) (G':=G) rfl<| b8 (a:=.tup [.int 1,.int 4,.int 7]) (G':=G) rfl<| dX1.mpr ⟨b2,h2,_,rfl,λ_=>o8<| j7 (as:= [.ref r]) rfl rfl<| (dP0 h).mono ?_,λ_=>m5.mpr ?_⟩
 · rintro _ G1 ⟨z,rfl,tz,f1⟩
   exact⟨_,rfl,.s (dX7 tz) tz.2,f1⟩
 · refine o8<| aW2 rfl (by decide) (by decide)<| b8 (a:= [.bl false,.bl true]) (G':=G) rfl ⟨sz,h,rfl,λd hd G1 f1=>?_⟩
   simp only[zi,zn,or_false]at hd
   rcases hd with rfl|rfl<;>exact⟨_,rfl,.b,f1⟩
theorem eW9{R:List D->M D}{deep kind:Int}{u:Option D}{n:Nat}(h:J8 G r)(hR:∀G1,J8 G1 r->Wp (R [.ref r,.int (deep-1)]) G1 λx G2=>Dr B18 (n+1) (Bd (n+1)) x/\Fr r G1 G2):
 Wp (VAb R [sRf r,some (.int deep),some (.int kind),u]) G λfl G'=>∃d,fl= .rt d/\Dr B18 (n+2) (Bd (n+2)) d/\Fr r G G':=by
 have bg:=big
 refine f9.mpr<| M7<| u0<| bin_w<| b8 (a:=.int kind) (G':=G) rfl<| b8 (a:=.int 6) (G':=G) rfl<| T4.mpr ⟨_,rfl,λ_=>?_,λ_=>m5.mpr ?_⟩
 · refine f9.mpr<| w6<| K5<| m7 (x:=.ref r) rfl<| j6<| aW2 rfl (by decide) (by decide)<| b8 (a:= [.int 4,.int 9]) (G':=G) rfl ⟨sz,h,rfl,λd hd G1 f1=>?_⟩
   have hd':∃i:Int,d= .int i/\0<i/\i<=9:=by
    simp only[zi,zn,or_false]at hd
    rcases hd with rfl|rfl
    ·exact⟨4,rfl,by decide,by decide⟩
    ·exact⟨9,rfl,by decide,by decide⟩
   obtain⟨i,rfl,hi1,hi2⟩:=hd'
   refine j8.mpr<| N7.mpr ⟨rfl,?_⟩
   refine M6 f1.2.2 ⟨hi1,by lia⟩ λm hm0 hm1 G2 f2=>?_
   have f12:=f1.trans f2
   refine o8<| P0.mpr<| m7 (x:=.str v9) rfl<| j6<| K5<| j6<| dK4 (j:=m) (G1:=G2) rfl hm0 (by lia)<| (bY6 (Fr r G) (λU=>∃u,U= [u,some (.int deep),sRf r]) (λ_ y=>Dr B18 (n+1) (Bd (n+1)) y) (λ_ _=>rfl) _ _ G2 ⟨_,rfl⟩ f12 ?_).mono ?_
   · rintro d hd _ G3 ⟨v,rfl⟩ j
     exact Q4.mpr ⟨rfl,⟨_,rfl⟩,j7 (as:= [.ref r,.int (deep-1)]) rfl rfl<| (hR G3 j.2.2).mono λx G4 ⟨dx,f4⟩=>⟨j.trans f4,dx⟩⟩
   · rintro _ G3 ⟨f3,zs,e1,rfl,hz⟩
     have ln:zs.length<=8:=by
      have:=congrArg jh e1
      unfold J1 at this
      rw[zh,zh,jg]at this
      lia
     refine j8.mpr<| (aC7 m8).mpr<| j8.mpr ⟨sz,_,rfl,?_,f3.trans (Fr.app f3.2.2)⟩
     refine(Dr.l (k:=8) (B:=Bd (n+1)) (by decide) (by rw[zh];exact ln) λx hx=>?_).up (zj _) (by show _<=16+8*(Bd (n+1)+30);lia)
     obtain⟨z,hzm,rfl⟩:=zW.mp hx
     exact hz z hzm
 · refine o8<| P0.mpr<| m7 (x:=.str M3) rfl<| j6<| K5<| j6<| wp_comp.mpr<| aP2.mpr<| j7 (as:= [.ref r]) rfl rfl<| (dF9 h).mono ?_
   rintro _ G1 ⟨q,ss,rfl,hq,e1,hl,hs,hlt,f1⟩
   refine(bD0 e1).mpr ⟨by show (ss.map D.str).length<=_;rw[zh];lia,(bY6 (Fr r G1) (λU=>∃u,U= [u,some (.int deep),sRf r]) (λx y=>∃nm v,x= .str nm/\y=prD (nm,v)/\Dr B18 (n+1) (Bd (n+1)) v) (λG' j=>?_) _ _ G1 ⟨_,rfl⟩ (Fr.refl f1.2.2) ?_).mono ?_⟩
   · have:=j.at hq e1
     show ckO q (.lst (ss.map D.str)) G'=true
     unfold ckO;rw[this];simp
   · rintro d hd _ G3 ⟨v,rfl⟩ j
     obtain⟨nm,_,rfl⟩:=zW.mp hd
     exact Q4.mpr ⟨rfl,⟨_,rfl⟩,P0.mpr<| m7 (x:=.str nm) rfl<| j6<| j7 (as:= [.ref r,.int (deep-1)]) rfl rfl<| (hR G3 j.2.2).mono λx G4 ⟨dx,f4⟩=>j8.mpr ⟨sz,j.trans f4,nm,x,rfl,rfl,dx⟩⟩
   · rintro _ G3 ⟨f3,zs,e2,rfl,hz⟩
     obtain⟨ps,ep,en,hd⟩:∃ps:List (Str×D),zs.map (·.2)=ps.map prD/\ps.map (·.1)=ss/\∀p∈ps,Dr B18 (n+1) (Bd (n+1)) p.2:=by
      clear hlt hs hl e1
      induction zs generalizing ss with
      |nil=>
        rcases ss with _|⟨_,_⟩
        ·exact⟨[],rfl,rfl,λ_ h=>nomatch h⟩
        ·cases e2
      |cons z t ih=>
        rcases ss with _|⟨a,b⟩
        ·cases e2
        · obtain⟨nm,v,k1,k2,k3⟩:=hz z (zr ..)
          have e3:=yz e2
          obtain⟨ps,h1,h2,h3⟩:=ih b e3.2 λz hz'=>hz z (zw _ hz')
          have ea:nm=a:=by have:=k1.symm.trans e3.1;cases this;rfl
          subst ea
          refine⟨(nm,v)::ps,by rw[zA,zA,h1,k2],by rw[zA,h2],λp hp=>?_⟩
          rcases zi.mp hp with rfl|hp
          ·exact k3
          ·exact h3 p hp
     refine j8.mpr<| (aC7 m8).mpr<| j8.mpr ⟨sz,_,rfl,?_,(f1.trans f3).trans (Fr.app f3.2.2)⟩
     rw[ep]
     refine(Dr.r (k:=8) (B:=Bd (n+1)) (by decide) (by rw[<-en,zh]at hl;exact hl) (by rw[en];exact hlt) (λp hp=>eP3 (hs.1 p.1 (by rw[<-en];exact xa hp))) hd).up (zj _) (by show _<=16+8*(Bd (n+1)+30);lia)
end
theorem dW6{r:Nat}{G:DH}{kind:Int}{s1 s3:Option D}{Q:Fl->DH->Prop}(h:J8 G r)(q:∀G',Fr r G G'->Q (.nx [sRf r,s1,some (.int kind),s3]) G'):Wp (J7 (binE addD (ixE vE0 cI3) cI1) (bF9 vE0 cI3) [sRf r,s1,some (.int kind),s3]) G Q:=by
 have hlt:=h.lt
 obtain⟨a,b,c,e,hr,hb1,hb2⟩:=h
 refine aQ3.mpr (bin_w (ixv (G1:=G) rfl rfl hr rfl (b8 (a:=.int 1) rfl (Z6.mpr (eL4 (k:=3) rfl rfl hr rfl ?_)))))
 exact q _ (Fr.set ⟨a,b,c,e+1,zY hlt,hb1,hb2⟩)
theorem dZ1{r:Nat}{G:DH}{deep kind:Int}{s3:Option D}{Q:Bool->DH->Prop}(h:J8 G r)(q:∀b,(b=true->1<deep)->Q b G):Wp (VT [sRf r,some (.int deep),some (.int kind),s3]) G Q:=by
 obtain⟨a,b,c,e,hr,hb1,hb2⟩:=h
 refine aO4<| u0<| bin_w<| b8 (a:=.int kind) (G':=G) rfl<| b8 (a:=.int 5) (G':=G) rfl<| bZ3.mpr ⟨_,rfl,λ_=>?_,λ_=>q _ λz=>nomatch z⟩
 refine aO4<| u0<| bin_w<| b8 (a:=.int deep) (G':=G) rfl<| b8 (a:=.int 1) (G':=G) rfl<| bZ3.mpr ⟨_,rfl,λhd=>?_,λ_=>q _ λz=>nomatch z⟩
 refine u0<| bin_w<| ixv (G1:=G) rfl rfl hr rfl<| b8 (a:=.int 20) (G':=G) rfl<| bD9.mpr ⟨_,rfl,q _ λ_=>?_⟩
 exact of_decide_eq_true hd
theorem bW5{r:Nat}:∀(n N:Nat) (deep:Int) (G:DH),deep<=n+1->n+1<=N->J8 G r->Wp (T5 N [.ref r,.int deep]) G λx G'=>Dr B18 (n+1) (Bd (n+1)) x/\Fr r G G':=by
 intro n
 induction n with
 |zero=>
   intro N deep G hd hN h
   obtain⟨M,rfl⟩:∃M,N=M+1:=⟨N-1,by lia⟩
   refine t8 (show Wp (T8 (T5 M) [sRf r,some (.int deep),none,none]) G _ from ?_)
   rw[dX2]
   refine f9.mpr<| w6<| j7 (as:= [.ref r,.int 8]) rfl rfl<| M6 h ⟨by decide,by decide⟩ λk hk0 hk1 G1 f1=>f9.mpr<| dW6 f1.2.2 λG2 f2=>f9.mpr<| M7<| dZ1 f2.2.2 λb hb=>⟨λz=>absurd (hb z) (by lia),λ_=>m5.mpr<| (dW2 (n:=0) f2.2.2).mono ?_⟩
   rintro _ G3 ⟨d,rfl,hd,f3⟩
   exact o7 ⟨hd,(f1.trans f2).trans f3⟩
 |succ n ih=>
   intro N deep G hd hN h
   obtain⟨M,rfl⟩:∃M,N=M+1:=⟨N-1,by lia⟩
   refine t8 (show Wp (T8 (T5 M) [sRf r,some (.int deep),none,none]) G _ from ?_)
   rw[dX2]
   refine f9.mpr<| w6<| j7 (as:= [.ref r,.int 8]) rfl rfl<| M6 h ⟨by decide,by decide⟩ λk hk0 hk1 G1 f1=>f9.mpr<| dW6 f1.2.2 λG2 f2=>f9.mpr<| M7<| dZ1 f2.2.2 λb hb=>⟨λ_=>?_,λ_=>m5.mpr<| (dW2 (n:=0) f2.2.2).mono ?_⟩
   · refine(eW9 (n:=n) f2.2.2 λG3 h3=>ih M (deep-1) G3 (by lia) (by lia) h3).mono ?_
     rintro _ G3 ⟨d,rfl,hd,f3⟩
     exact o7 ⟨hd,(f1.trans f2).trans f3⟩
   · rintro _ G3 ⟨d,rfl,hd,f3⟩
     exact o7 ⟨hd.up (by lia) (eP4 _ (by lia)),(f1.trans f2).trans f3⟩
theorem bd5:Bd 5<=360000:=by decide +kernel
theorem bC3:∀z:Str,z= "a"\/z= ""->TxL z:=by
 rintro z (rfl|rfl)
 ·exact⟨by decide +kernel,by decide +kernel⟩
 ·exact⟨by decide +kernel,by decide +kernel⟩
theorem bT3{r:Nat}{G:DH}(h:J8 G r):Wp (T7 [.ref r]) G λx G'=>Dr B18 1 50 x/\Fr r G G':=by
 refine t8 (show Wp (aJ0 [sRf r]) G _ from ?_)
 refine o8<| aW2 rfl (by decide) (by decide)<| b8 (a:= [.int 0,.int 1,.int (-1),.str "a",.str "",.bl true,.bl false,.int 7]) (G':=G) rfl ⟨sz,h,rfl,λd hd G1 f1=>o7 ⟨?_,f1⟩⟩
 have si:∀i:Int, -10<=i->i<=10->Dr B18 1 50 (.int i):=λi h1 h2=>.i (by lia) (by decide)
 simp only[zi,zn,or_false]at hd
 rcases hd with rfl|rfl|rfl|rfl|rfl|rfl|rfl|rfl
 ·exact si _ (by decide) (by decide)
 ·exact si _ (by decide) (by decide)
 ·exact si _ (by decide) (by decide)
 ·exact .s (bC3 _ (.inl rfl)) (by decide +kernel)
 ·exact .s (bC3 _ (.inr rfl)) (by decide +kernel)
 ·exact .b
 ·exact .b
 ·exact si _ (by decide) (by decide)
theorem dJ2{G:DH}{p:Nat}{l:List D}{Q:DPP}(e:G[p]? =some (.lst l)):Wp (lenF [.ref p]) G Q↔Q (.int l.length) G:=by
 unfold lenF
 simp only[g8,O6,e,M8,d8]
theorem dH9{z:Str}{k c:Nat}{G:DH}{Q:DPP}(hz:z.length<=zd)(h:z.cps.toList[k]? =some c)(q:Q (.str ⟨#[c]⟩) G):Wp (ixD (.str z) (.int (k:Int))) G Q:=by
 have e:ixD (.str z) (.int (k:Int))=if z.length<=zd then (do
  let c <-aJ5 (atI z.cps.toList (k:Int))
  pure (.str ⟨#[c]⟩):M D)else M.stuck:=rfl
 rw[e,if_pos hz]
 simp only[g8,aI8,d8]
 refine⟨c,?_,q⟩
 have hn:k<z.cps.toList.length:=(jM.mp h).1
 unfold atI ixN
 rw[if_pos (by omega),if_pos (by lia)]
 simp only[jA,xY,h]
noncomputable def nmK(k:Nat):Str:=ofL [97+k / 3,97+k % 3]
theorem eL1{a b:Nat}(h:a<b):LtS (nmK a) (nmK b):=by
 show [97+a / 3,97+a % 3] < [97+b / 3,97+b % 3]
 rcases Zi (a / 3) (b / 3)with z|z
 ·exact yK.mpr (.inl (by lia))
 · have:a / 3=b / 3:=by lia
   refine yK.mpr (.inr ⟨by lia,yK.mpr (.inl (by lia))⟩)
theorem eJ6{k:Nat}(h:k<=70):TxL (nmK k)/\tl (nmK k)≠ []:=by
 refine⟨⟨λc hc=>?_,?_⟩,?_⟩
 · have:c∈ [97+k / 3,97+k % 3]:=hc
   simp only[zi,zn,or_false]at this
   rcases this with rfl|rfl<;>constructor<;>lia
 ·show (2:Nat)<=900000;decide
 ·exact jP _ _
theorem eF6:∀k,k<26->("abcdefghijklmnopqrstuvwxyz" :Str).cps.toList[k]? =some (97+k):=by decide +kernel
theorem fB6:∀k,k<3->("abc" :Str).cps.toList[k]? =some (97+k):=by decide +kernel
def gK:D->Str
 | .int i=>nmK i.toNat
 |_=> ""
theorem dY0(g:D->Str)(P:D->Prop):∀zs:List (D×D),(∀z∈zs,∃v,z.2=prD (g z.1,v)/\P v)->∃ps:List (Str×D),zs.map (·.2)=ps.map prD/\ps.map (·.1)= (zs.map (·.1)).map g/\∀p∈ps,P p.2
 |[],_=>⟨[],rfl,rfl,λ_ h=>nomatch h⟩
 |z::t,h=>by
   obtain⟨v,e,hv⟩:=h z (zr ..)
   obtain⟨ps,h1,h2,h3⟩:=dY0 g P t λz hz=>h z (zw _ hz)
   refine⟨(g z.1,v)::ps,by rw[zA,zA,h1,e],by rw[zA,h2,zA,zA],λp hp=>?_⟩
   rcases zi.mp hp with rfl|hp
   ·exact hv
   ·exact h3 p hp
theorem fB1:aF2=m9 (J7 (cX2 d9 vE0 cI2) nG1) (m9 WA (gdQ (tBn eqD vE1 cI0) (tX2 (cSt "list") (cY1 aD3 vE2)) (asQ (cSt "abcdefghijklmnopqrstuvwxyz") nG3 WB))):=rfl
section
variable{r:Nat}{G:DH}
theorem eO0{kind:Int}{s2 s3:Option D}(h:J8 G r):Wp (WA [sRf r,some (.int kind),s2,s3]) G λfl G'=>Fr r G G'/\∃q l,fl= .nx [sRf r,some (.int kind),sRf q,s3]/\G'[q]? =some (.lst l)/\q≠r/\l.length<=58/\∀x∈l,Dr B18 1 50 x:=by
 have bg:=big
 refine w6<| wp_comp.mpr<| rng1.mpr<| j6<| bin_w<| b8 (a:=.int 9) (G':=G) rfl<| j7 (as:= [.ref r,.int 50]) rfl rfl<| M6 h ⟨by decide,by decide⟩ λk hk0 hk1 G1 f1=>Z6.mpr<| j8.mpr<| (rng1_int ⟨by lia,by lia⟩).mpr ?_
 have ln:(J1 0 (9+k).toNat).length= (9+k).toNat:=by unfold J1;rw[zh,jg]
 refine⟨by show (J1 0 (9+k).toNat).length<=_;rw[ln];lia,(bY6 (Fr r G) (λU=>∃u,U= [u,sRf r]) (λ_ y=>Dr B18 1 50 y) (λ_ _=>rfl) _ _ G1 ⟨_,rfl⟩ f1 ?_).mono ?_⟩
 · rintro d hd _ G3 ⟨v,rfl⟩ j
   exact Q4.mpr ⟨rfl,⟨_,rfl⟩,j7 (as:= [.ref r]) rfl rfl<| (bT3 j.2.2).mono λx G4 ⟨dx,f4⟩=>⟨j.trans f4,dx⟩⟩
 · rintro _ G3 ⟨f3,zs,e1,rfl,hz⟩
   have hr3:=f3.2.2.lt
   refine⟨f3.trans (Fr.app f3.2.2),_,_,rfl,m8,by lia,?_,λx hx=>?_⟩
   · have:=congrArg jh e1
     rw[zh,ln]at this
     rw[zh];lia
   · obtain⟨z,hzm,rfl⟩:=zW.mp hx
     exact hz z hzm
theorem eQ5{s0 s1:Option D}{q:Nat}{l:List D}(h:J8 G r)(e:G[q]? =some (.lst l))(hl:l.length<=58)(hx:∀x∈l,Dr B18 1 50 x):Wp (WB [s0,s1,sRf q,some (.str "abcdefghijklmnopqrstuvwxyz")]) G λfl G'=>∃d,fl= .rt d/\Dr B18 2 5000 d/\Fr r G G':=by
 have bg:=big
 have z26:("abcdefghijklmnopqrstuvwxyz" :Str).length=26:=rfl
 have z3:("abc" :Str).length=3:=rfl
 refine o8<| P0.mpr<| m7 (x:=.str M3) rfl<| j6<| K5<| j6<| wp_comp.mpr<| rng1.mpr<| j6<| aB2 (as:= [.ref q]) rfl<| (dJ2 e).mpr<| j8.mpr<| (rng1_int ⟨by lia,by lia⟩).mpr ?_
 rw[jA]
 have ln:(J1 0 l.length).length=l.length:=by unfold J1;rw[zh,jg]
 refine⟨by show (J1 0 l.length).length<=_;rw[ln];lia,(bY6 (λG'=>G'=G) (λU=>∃u,U= [u,some (.str "abcdefghijklmnopqrstuvwxyz"),sRf q]) (λx y=>∃v,y=prD (gK x,v)/\Dr B18 1 50 v) (λ_ _=>rfl) _ _ G ⟨_,rfl⟩ rfl ?_).mono ?_⟩
 · rintro d hd _ G3 ⟨v,rfl⟩ j
   subst j
   unfold J1 at hd
   obtain⟨i,hi,rfl⟩:=zW.mp hd
   have hi:=yr.mp hi
   have e3:((0:Int)+(i:Int)) / 3= ((i / 3:Nat):Int):=by lia
   have e4:((0:Int)+(i:Int)) % 3= ((i % 3:Nat):Int):=by lia
   have eg:gK (.int (0+(i:Int)))=nmK i:=by show nmK (0+(i:Int)).toNat=_;rw[XS,jA]
   have ed:atI l (0+(i:Int))=some l[i]:=by rw[XS];exact atI_nat (zv hi)
   refine Q4.mpr ⟨rfl,⟨_,rfl⟩,P0.mpr<| j6<| bin_w<| bin_w<| b8 (a:=.str "abcdefghijklmnopqrstuvwxyz") (G':=G3) rfl<| aB3 (x:=.int (0+(i:Int))) (y:=.int 3) rfl rfl<| (bC5 ⟨by decide,by decide⟩).mpr ?_⟩
   rw[e3]
   refine dH9 (c:=97+i / 3) (by lia) (eF6 _ (by lia))<| bin_w<| b8 (a:=.str "abc") (G':=G3) rfl<| aB3 (x:=.int (0+(i:Int))) (y:=.int 3) rfl rfl<| (aF8 (by decide)).mpr ?_
   rw[e4]
   refine dH9 (c:=97+i % 3) (by lia) (fB6 _ (by lia))<| (U5 (by rw[aS8,aS8];lia)).mpr<| j6<| ixv (G1:=G3) rfl rfl e ed<| j8.mpr ⟨sz,rfl,l[i],?_,hx _ (jO hi)⟩
   rw[eg]
   rfl
 · rintro _ G3 ⟨rfl,zs,e1,rfl,hz⟩
   obtain⟨ps,ep,en,hd⟩:=dY0 gK (Dr B18 1 50) zs λz hz'=>hz z hz'
   rw[e1]at en
   have en2:ps.map (·.1)= (ja l.length).map nmK:=by
    rw[en];unfold J1;rw[xH]
    refine xb λi _=>?_
    show nmK (0+(i:Int)).toNat=_
    rw[XS,jA]
   have lp:ps.length=l.length:=by have:=congrArg jh en2;rw[zh,zh,jg]at this;exact this
   refine j8.mpr<| (aC7 m8).mpr<| j8.mpr ⟨sz,_,rfl,?_,Fr.app h⟩
   rw[ep]
   refine(Dr.r (n:=1) (k:=58) (B:=50) (by decide) (by lia) ?_ (λp hp=>?_) hd).up (zj _) (by decide)
   · rw[en2]
     exact JW.mpr (List.pairwise_lt_range.imp λh=>eL1 h)
   · have:p.1∈ps.map (·.1):=xa hp
     rw[en2]at this
     obtain⟨i,hi,ei⟩:=zW.mp this
     rw[<-ei]
     exact⟨eJ6 (by have:=yr.mp hi;lia),show (2:Nat)<=20 by decide⟩
theorem dO4(h:J8 G r):Wp (aF3 [.ref r]) G λx G'=>Dr B18 2 5000 x/\Fr r G G':=by
 refine t8 (show Wp (aF2 [sRf r,none,none,none]) G _ from ?_)
 rw[fB1]
 refine f9.mpr<| w6<| j7 (as:= [.ref r,.int 2]) rfl rfl<| M6 h ⟨by decide,by decide⟩ λk hk0 hk1 G1 f1=>f9.mpr<| (eO0 f1.2.2).mono ?_
 rintro _ G2 ⟨f2,q,l,rfl,e,hq,hl,hx⟩
 refine f9.mpr<| M7<| u0<| bin_w<| b8 (a:=.int k) (G':=G2) rfl<| b8 (a:=.int 0) (G':=G2) rfl<| T4.mpr ⟨_,rfl,λ_=>?_,λ_=>m5.mpr ?_⟩
 ·refine o8<| P0.mpr<| m7 (x:=.str v9) rfl<| j6<| aB2 (as:= [.ref q]) rfl<| (aC7 e).mpr<| j8.mpr ⟨sz,o7 ⟨(Dr.l (n:=1) (B:=50) (k:=58) (by decide) hl hx).up (zj _) (by decide),f1.trans f2⟩⟩
 · refine v6 (X1:= [sRf r,some (.int k),sRf q,some (.str "abcdefghijklmnopqrstuvwxyz")]) (G':=G2) rfl<| (eQ5 f2.2.2 e hl hx).mono ?_
   rintro _ G3 ⟨d,rfl,hd,f3⟩
   exact o7 ⟨hd,(f1.trans f2).trans f3⟩
end
noncomputable abbrev c1(v:D):D:=.tup [.str v9,.tup [v]]
noncomputable abbrev c2(v:D):D:=.tup [.str v9,.tup [.int 0,v]]
noncomputable abbrev c3(v:D):D:=.tup [.str M3,.tup [.tup [.str "a",v]]]
noncomputable abbrev c4(v:D):D:=.tup [.str M3,.tup [.tup [.str "a",.int 1],.tup [.str "b",v]]]
theorem eX5:TxL "a"/\tl ("a" :Str)≠ []:=⟨bC3 _ (.inl rfl),by decide +kernel⟩
theorem fC7:TxL "b"/\tl ("b" :Str)≠ []:=⟨⟨by decide +kernel,by decide +kernel⟩,by decide +kernel⟩
theorem eS6{b n B:Nat}{v:D}(h:Dr b (n+1) B v):Dr b (n+2) (B+100) (c1 v):=by
 refine⟨.l (l:= [v]) (jt rfl) λx hx=>zM.mp hx▸h.gv,?_⟩
 have:=h.ln
 rw[U8,lnL,lnL]
 lia
theorem eT9{n B:Nat}{v:D}(h:Dr B18 (n+1) B v):Dr B18 (n+2) (B+100) (c2 v):=by
 refine⟨.l (l:= [.int 0,v]) (jt rfl) λx hx=>?_,?_⟩
 · simp only[zi,zn,or_false]at hx
   rcases hx with rfl|rfl
   ·exact .i (by decide)
   ·exact h.gv
 · have:=h.ln
   have:=aF9 (show smI 0 by unfold smI aB0;decide)
   rw[U8,lnL,lnL,lnL,lnD]
   lia
theorem eQ0{n B:Nat}{v:D}(h:Dr B18 (n+1) B v):Dr B18 (n+2) (B+100) (c3 v):=by
 refine⟨.r (ps:= [("a",v)]) (jt rfl) (Xp ..) (λp hp=>zM.mp hp▸eX5) λp hp=>zM.mp hp▸h.gv,?_⟩
 have:=h.ln
 rw[aG5]
 simp only[lnL,lnD,show ("a" :Str).length=1 from rfl]
 lia
theorem eP0{n B:Nat}{v:D}(h:Dr B18 (n+1) B v):Dr B18 (n+2) (B+100) (c4 v):=by
 refine⟨.r (ps:= [("a",.int 1),("b",v)]) (jt rfl) ?_ (λp hp=>?_) λp hp=>?_,?_⟩
 · refine yg.mpr ⟨λx hx=>zM.mp hx▸ ?_,Xp ..⟩
   show ("a" :Str).cps.toList<("b" :Str).cps.toList
   decide +kernel
 · simp only[zi,zn,or_false]at hp
   rcases hp with rfl|rfl
   ·exact eX5
   ·exact fC7
 · simp only[zi,zn,or_false]at hp
   rcases hp with rfl|rfl
   ·exact .i (by decide)
   ·exact h.gv
 · have:=h.ln
   have:=aF9 (show smI 1 by unfold smI aB0;decide)
   rw[aG5]
   simp only[lnL,lnD,show ("a" :Str).length=1 from rfl,show ("b" :Str).length=1 from rfl]
   lia
theorem eY8:aC5=m9 (J7 (cX1 T7 vE0) nG2) (m9 (aR4 (U0 (aX1 (cX2 d9 vE0 vE1))) nG3 CB) (u6 vE2)):=rfl
theorem eO7{r n B:Nat}{G:DH}{v:D}{s1 s3 s4:Option D}(h:J8 G r)(hv:Dr B18 (n+1) B v):Wp (CB [sRf r,s1,some v,s3,s4]) G λfl G'=>Fr r G G'/\∃w s4',fl= .nx [sRf r,s1,some w,s3,s4']/\Dr B18 (n+2) (B+100) w:=by
 have bg:=big
 refine f9.mpr<| w6<| aA6.mpr<| b8 (a:= [c1 v,c2 v,c3 v]) (G':=G) rfl ⟨sz,?_⟩
 refine w6<| bin_w<| bin_w<| b8 (a:=.ref G.length) (G':=G++[.lst [c1 v,c2 v,c3 v]]) rfl<| aA6.mpr<| b8 (a:= [c4 v]) (G':=G++[.lst [c1 v,c2 v,c3 v]]) rfl ⟨sz,?_⟩
 refine(cJ2 (a:= [c1 v,c2 v,c3 v]) (b:= [c4 v]) (O9 m8) m8 (show 3+1<=zd by lia)).mpr<| j7 (as:= [.ref r,.int 4]) rfl rfl<| cJ8 h.app.app (ds:= [c1 v,c2 v,c3 v,c4 v]) rfl (by decide) (by decide) λd hd G' f _=>?_
 refine⟨(Fr.app h).trans ((Fr.app h.app).trans f),d,_,rfl,?_⟩
 simp only[zi,zn,or_false]at hd
 rcases hd with rfl|rfl|rfl|rfl
 ·exact eS6 hv
 ·exact eT9 hv
 ·exact eQ0 hv
 ·exact eP0 hv
theorem cH5{r:Nat}{s1:Option D}:∀(items:List D) (n B:Nat) (v:D) (s3 s4:Option D) (G:DH),J8 G r->Dr B18 (n+1) B v->
 Wp (aE2 nG3 CB (λ_=>true) items [sRf r,s1,some v,s3,s4]) G λfl G'=>Fr r G G'/\∃w s3' s4',fl= .nx [sRf r,s1,some w,s3',s4']/\Dr B18 (n+1+items.length) (B+100*items.length) w
 |[],n,B,v,s3,s4,G,h,hv=>aJ4.mpr ⟨rfl,Fr.refl h,v,s3,s4,rfl,hv⟩
 |d::t,n,B,v,s3,s4,G,h,hv=>by
   refine aI5.mpr ⟨rfl,Q4.mpr<| (eO7 h hv).mono ?_⟩
   rintro _ G1 ⟨f1,w,s4',rfl,hw⟩
   refine(cH5 t (n+1) (B+100) w _ _ G1 f1.2.2 hw).mono ?_
   rintro _ G2 ⟨f2,w',s3',s4',rfl,hw'⟩
   exact⟨f1.trans f2,w',s3',s4',rfl,hw'.up (by rw[zp];lia) (by rw[zp];lia)⟩
section
variable{r:Nat}{G:DH}
theorem cX0(h:J8 G r):Wp (aB6 [.ref r,.int 18]) G λx G'=>Dr B18 18 10000 x/\Fr r G G':=by
 refine t8 (show Wp (aC5 [sRf r,some (.int 18),none,none,none]) G _ from ?_)
 rw[eY8]
 refine f9.mpr<| w6<| j7 (as:= [.ref r]) rfl rfl<| (bT3 h).mono ?_
 rintro v G1 ⟨hv,f1⟩
 refine f9.mpr<| aP0.mpr<| rng1.mpr<| j6<| j7 (as:= [.ref r,.int 18]) rfl rfl<| M6 f1.2.2 ⟨by decide,by decide⟩ λk hk0 hk1 G2 f2=>j8.mpr<| (rng1_int ⟨by lia,by lia⟩).mpr ?_
 have hlen:(J1 0 k.toNat).length=k.toNat:=by unfold J1;rw[zh,jg]
 refine(cH5 (J1 0 k.toNat) 0 50 v _ _ G2 f2.2.2 hv).mono ?_
 rintro _ G3 ⟨f3,w,s3,s4,rfl,hw⟩
 rw[hlen]at hw
 exact b8 rfl (o7 ⟨hw.up (by lia) (by lia),(f1.trans f2).trans f3⟩)
theorem dD6(h:J8 G r):Wp (aC0 [.ref r,.int 18]) G λx G'=>Dr B18 18 360000 x/\Fr r G G':=by
 refine t8 (show Wp (aJ6 [sRf r,some (.int 18),none]) G _ from ?_)
 refine f9.mpr<| w6<| j7 (as:= [.ref r,.int 6]) rfl rfl<| M6 h ⟨by decide,by decide⟩ λk hk0 hk1 G1 f1=>f9.mpr<| M7<| u0<| bin_w<| b8 (a:=.int k) (G':=G1) rfl<| b8 (a:=.int 1) (G':=G1) rfl<| T4.mpr ⟨_,rfl,λ_=>?_,λ_=>m5.mpr ?_⟩
 · refine o8<| j7 (as:= [.ref r]) rfl rfl<| (dO4 f1.2.2).mono ?_
   rintro x G2 ⟨hx,f2⟩
   exact o7 ⟨hx.up (by decide) (by decide),f1.trans f2⟩
 · refine f9.mpr<| M7<| u0<| bin_w<| b8 (a:=.int k) (G':=G1) rfl<| b8 (a:=.int 2) (G':=G1) rfl<| T4.mpr ⟨_,rfl,λ_=>?_,λ_=>m5.mpr ?_⟩
   · refine o8<| j7 (as:= [.ref r,.int 18]) rfl rfl<| (cX0 f1.2.2).mono ?_
     rintro x G2 ⟨hx,f2⟩
     exact o7 ⟨hx.up (by decide) (by decide),f1.trans f2⟩
   · refine o8<| j7 (as:= [.ref r,.int 5]) rfl rfl<| (bW5 4 6 5 G1 (by decide) (by decide) f1.2.2).mono ?_
     rintro x G2 ⟨hx,f2⟩
     exact o7 ⟨hx.up (by decide) bd5,f1.trans f2⟩
end
theorem bX9{q:Nat}{o:DO}{G:DH}(e:G[q]? =some o):ckO q o G=true:=by unfold ckO;rw[e];simp
theorem dQ9{G:DH}{p:Nat}{l:List D}{lo hi:Option Int}{Q:DPP}(e:G[p]? =some (.rol l)):Wp (slT (.ref p) lo hi) G Q↔Q (.ref G.length) (G++[.lst (DL.cutD l lo hi)]):=eB8 e
theorem eX4(ns:List Int):∃cs:List Int,DL.cutD (ns.map D.int) none (some 63)=cs.map D.int/\cs.length<=63:=by
 refine⟨ns.take 63,?_,by rw[yT];lia⟩
 have:=bX5 (ns.map D.int) 63
 rw[<-List.map_take]at this
 exact this
inductive Hd where
 |n (i:Int)|s (z:Str)|b (k:Bool)|l (m:Nat)|r (ns:List Str)
noncomputable def dW1:D->Str
 | .str z=>z
 |_=> ""
def bH1:D->Str
 | .tup (x::_)=>dW1 x
 |_=> ""
def bD2:D->Hd
 | .int i=>.n i
 | .bl k=>.b k
 | .str z=>.s z
 |d=>if aV6 v9 d then .l (U9 d).length else .r ((U9 d).map bH1)
noncomputable def HR(m:Nat)(G:DH)(d:D):Hd->Prop
 | .n i=>d= .tup [.int 0,.tup [.int (if i<0 then -i else i),.bl (decide (i<0))]]
 | .s z=>d= .tup [.int 1,.tup [.int z.length,.str z]]
 | .b k=>d= .tup [.int 2,.bl k]
 | .l c=>d= .tup [.int 3,.int c]
 | .r ns=>∃p,m<=p/\d= .tup [.int 4,.int ns.length,.ref p]/\G[p]? =some (.lst (ns.map D.str))
theorem HR.keep{m:Nat}{G G':DH}{d:D}{h:Hd}(k:∀p o,m<=p->G[p]? =some o->G'[p]? =some o)(a:HR m G d h):HR m G' d h:=by
 cases h with
 |r ns=>
   obtain⟨p,hp,e,g⟩:=a
   exact⟨p,hp,e,k p _ hp g⟩
 |_=>exact a
theorem bS8{G:DH}{n:Nat}:∀a b:List Str,eqL (eqN (n+1) G) (a.map D.str) (b.map D.str)=some (decide (a=b))
 |[], []=>by simp[eqL]
 |[],_::_=>by simp[eqL]
 |_::_, []=>by simp[eqL]
 |x::a,y::b=>by
   simp only[zA,eqL,bS8 a b]
   have e:eqN (n+1) G (.str x) (.str y)=some (x==y):=by simp[eqN,K3,eqS]
   rw[e]
   by_cases h:x=y
   ·subst h;simp
   ·simp[h]
theorem cX9{G:DH}{n p q:Nat}{a b:List Str}(h:G[p]? =some (.lst (a.map D.str)))(k:G[q]? =some (.lst (b.map D.str))):eqN (n+2) G (.ref p) (.ref q)=some (decide (a=b)):=by
 have h1:K3 G (.ref p)=some (false,a.map D.str):=by simp only[K3,h]
 have h2:K3 G (.ref q)=some (false,b.map D.str):=by simp only[K3,k]
 rw[eqN,h1,h2]
 simp only[if_true,zh,true_and]
 by_cases hl:a.length=b.length
 · rw[if_neg (by simpa using hl)]
   exact bS8 a b
 · rw[if_pos hl]
   have:a≠b:=λe=>hl (by rw[e])
   simp[this]
theorem cW0{i j:Int}:(if i<0 then -i else i)= (if j<0 then -j else j)->decide (i<0)=decide (j<0)->i=j:=by
 intro h1 h2
 by_cases a:i<0<;>by_cases b:j<0<;>simp[a,b]at h1 h2<;>omega
open Classical in
theorem dT8{G:DH}{m n:Nat}{d e:D}{h k:Hd}(a:HR m G d h)(b:HR m G e k):eqN (n+6) G d e=some (decide (h=k)):=by
 cases h with
 |n i=>
   cases k with
   |n j=>
     cases a;cases b
     simp only[eqN,K3,eqL,eqS,if_true]
     by_cases hij:i=j
     ·subst hij;simp
     · have:¬((if i<0 then -i else i)= (if j<0 then -j else j)/\decide (i<0)=decide (j<0)):=fun⟨u,v⟩=>hij (cW0 u v)
       simp[hij]
       intro u v
       exact this ⟨u,by rw[decide_eq_decide];exact v⟩
   |r ns=>cases a;obtain⟨p,hp,rfl,g⟩:=b;simp[eqN,K3,eqL,eqS,T9]
   |_=>cases a;cases b;simp[eqN,K3,eqL,eqS,T9]
 |s z=>
   cases k with
   |s y=>
     cases a;cases b
     simp only[eqN,K3,eqL,eqS,if_true]
     by_cases hij:z=y
     ·subst hij;simp
     ·simp[hij]
   |r ns=>cases a;obtain⟨p,hp,rfl,g⟩:=b;simp[eqN,K3,eqL,eqS,T9]
   |_=>cases a;cases b;simp[eqN,K3,eqL,eqS,T9]
 |b t=>
   cases k with
   |b u=>
     cases a;cases b
     simp[eqN,K3,eqL,eqS,T9]
     cases t<;>cases u<;>simp
   |r ns=>cases a;obtain⟨p,hp,rfl,g⟩:=b;simp[eqN,K3,eqL,eqS,T9]
   |_=>cases a;cases b;simp[eqN,K3,eqL,eqS,T9]
 |l c=>
   cases k with
   |l c'=>
     cases a;cases b
     by_cases hc:c=c'
     ·subst hc;simp[eqN,K3,eqL,eqS,T9]
     · have:(c:Int)≠c':=λe=>hc (by omega)
       simp[eqN,K3,eqL,eqS,T9,hc,this]
   |r ns=>cases a;obtain⟨p,hp,rfl,g⟩:=b;simp[eqN,K3,eqL,eqS,T9]
   |_=>cases a;cases b;simp[eqN,K3,eqL,eqS,T9]
 |r ns=>
   obtain⟨p,hp,rfl,g⟩:=a
   cases k with
   |r ms=>
     obtain⟨q,hq,rfl,g'⟩:=b
     have e:=cX9 (n:=n+3) g g'
     rw[eqN]
     simp only[K3,eqL,if_true]
     rw[e]
     by_cases hij:ns=ms
     ·subst hij;simp[eqN,K3,eqS]
     ·simp[hij,eqN,K3,eqS]
   |_=>cases b;simp[eqN,K3,eqL,eqS,T9]
open Classical in
theorem bK3{G:DH}{m n:Nat}:∀ {ds es:List D} {hs ks:List Hd},aE8 (HR m G) ds hs->aE8 (HR m G) es ks->eqL (eqN (n+6) G) ds es=some (decide (hs=ks))
 |[], [], [], [],_,_=>by simp[eqL]
 |[],_::_, [],_::_,_,_=>by simp[eqL]
 |_::_, [],_::_, [],_,_=>by simp[eqL]
 |d::ds,e::es,h::hs,k::ks,a,b=>by
   simp only[eqL,dT8 a.1 b.1,bK3 a.2 b.2]
   by_cases e1:h=k<;>by_cases e2:hs=ks<;>simp[e1,e2]
 |[],_,_::_,_,h,_=>h.elim
 |_::_,_, [],_,h,_=>h.elim
 |_, [],_,_::_,_,h=>h.elim
 |_,_::_,_, [],_,h=>h.elim
open Classical in
theorem cP3{G:DH}{m p q:Nat}{ds es:List D}{hs ks:List Hd}(h:G[p]? =some (.lst ds))(k:G[q]? =some (.lst es))(a:aE8 (HR m G) ds hs)(b:aE8 (HR m G) es ks):eqN 40 G (.ref p) (.ref q)=some (decide (hs=ks)):=by
 have h1:K3 G (.ref p)=some (false,ds):=by simp only[K3,h]
 have h2:K3 G (.ref q)=some (false,es):=by simp only[K3,k]
 rw[eqN,h1,h2]
 simp only[if_true,true_and]
 have l1:=a.len
 have l2:=b.len
 by_cases hl:ds.length=es.length
 · rw[if_neg (by simpa using hl)]
   exact bK3 (n:=33) a b
 · rw[if_pos hl]
   have:hs≠ks:=λe=>hl (by rw[l1,l2,e])
   simp[this]
def aV9:Nat->D->List Hd
 |0,_=> []
 |n+1,d=>bD2 d::(kids d).flatMap (aV9 n)
theorem dD2{b:Nat}:∀ {n m:Nat} {d:D},n<=m->VB b n d->aV9 m d=aV9 n d
 |0,_,_,_,h=>h.elim
 |n+1,0,_,h,_=>by omega
 |n+1,m+1,d,h,a=>by
   unfold aV9
   congr 1
   have hk:=a.kids
   generalize kids d=l at hk
   induction l with
   |nil=>rfl
   |cons x r ih=>
     simp only[xV]
     rw[dD2 (by omega) (hk x (by simp)),ih λy hy=>hk y (by simp[hy])]
theorem cQ6{b n:Nat}{d:D}(h:VB b (n+1) d):aV9 (n+1) d=bD2 d::(kids d).flatMap (aV9 (n+1)):=by
 rw[aV9]
 congr 1
 have hk:=h.kids
 generalize kids d=l at hk
 induction l with
 |nil=>rfl
 |cons x r ih=>
   simp only[xV]
   rw[dD2 (n:=n) (m:=n+1) (by omega) (hk x (by simp)),ih λy hy=>hk y (by simp[hy])]
def pre(d:D):List Hd:=aV9 60 d
theorem cU7{b:Nat}{d:D}(h:VB b 60 d):pre d=bD2 d::(kids d).flatMap pre:=cQ6 (n:=59) h
theorem cL1{l:List D}:bD2 (.tup [.str v9,.tup l])= .l l.length:=by
 simp[bD2,aV6,U9]
theorem dH4{l:List D}:bD2 (.tup [.str M3,.tup l])= .r (l.map bH1):=by
 have e:bD2 (.tup [.str M3,.tup l])=if aV6 v9 (.tup [.str M3,.tup l])then .l (U9 (.tup [.str M3,.tup l])).length else .r ((U9 (.tup [.str M3,.tup l])).map bH1):=rfl
 rw[e,aT0]
 simp[U9]
theorem bG4{f:D->List Hd}:∀ {a b:List D} {s t:List Hd},(∀x∈a,∀y∈b,∀s t,f x++s=f y++t->x=y/\s=t)->a.length=b.length->a.flatMap f++s=b.flatMap f++t->a=b/\s=t
 |[], [],s,t,_,_,e=>⟨rfl,by simpa using e⟩
 |[],_::_,_,_,_,l,_=>by simp at l
 |_::_, [],_,_,_,l,_=>by simp at l
 |x::a,y::b,s,t,h,l,e=>by
   simp only[xV,zH]at e
   obtain⟨e1,e2⟩:=h x (by simp) y (by simp) _ _ e
   obtain⟨e3,e4⟩:=bG4 (λx hx y hy=>h x (by simp[hx]) y (by simp[hy])) (by simpa using l) e2
   exact⟨by rw[e1,e3],e4⟩
theorem cH6{b n:Nat}:∀ {k l:List D},(∀x∈k,∃nm v,x= .tup [.str nm,v]/\nm.length<=1000000/\VB b n v)->(∀x∈l,∃nm v,x= .tup [.str nm,v]/\nm.length<=1000000/\VB b n v)->k.map bH1=l.map bH1->k.filterMap aO2=l.filterMap aO2->k=l
 |[], [],_,_,_,_=>rfl
 |[],_::_,_,_,e,_=>by simp at e
 |_::_, [],_,_,e,_=>by simp at e
 |x::k,y::l,hk,hl,e1,e2=>by
   obtain⟨nm,v,rfl,_,_⟩:=hk x (by simp)
   obtain⟨nm',v',rfl,_,_⟩:=hl y (by simp)
   simp only[zA,ZU,bH1,dW1]at e1
   simp only[jd,aO2,ZU]at e2
   rw[cH6 (λx hx=>hk x (by simp[hx])) (λx hx=>hl x (by simp[hx])) e1.2 e2.2,e1.1,e2.1]
theorem bP8{b n:Nat}:∀ {l:List D},(∀x∈l,∃nm v,x= .tup [.str nm,v]/\nm.length<=1000000/\VB b n v)->(l.filterMap aO2).length=l.length
 |[],_=>rfl
 |x::l,hl=>by
   obtain⟨nm,v,rfl,_,_⟩:=hl x (by simp)
   have ih:=bP8 (l:=l) λx hx=>hl x (by simp[hx])
   simp only[jd,aO2,zp,ih]
theorem cM7{b:Nat}:∀(n:Nat) {x y:D} {s t:List Hd},VB b n x->VB b n y->aV9 n x++s=aV9 n y++t->x=y/\s=t
 |0,_,_,_,_,h,_,_=>h.elim
 |n+1,x,y,s,t,hx,hy,e=>by
   unfold aV9 at e
   simp only[Zb,ZU]at e
   obtain⟨e1,e2⟩:=e
   have ih:∀x'∈kids x,∀y'∈kids y,∀s t,aV9 n x'++s=aV9 n y'++t->x'=y'/\s=t:=λx' hx' y' hy' s t e=>cM7 n (hx.kids x' hx') (hy.kids y' hy') e
   rcases hx with⟨i,rfl⟩|⟨k,rfl⟩|⟨z,rfl,hz⟩|⟨l,rfl,hl⟩|⟨l,rfl,hl⟩<;>rcases hy with⟨i',rfl⟩|⟨k',rfl⟩|⟨z',rfl,hz'⟩|⟨l',rfl,hl'⟩|⟨l',rfl,hl'⟩<;>(try simp only[cL1,dH4]at e1)<;>first
    |(cases e1;done)
    |(cases e1;exact⟨rfl,by simpa [kids,aV6]using e2⟩)
    |skip
   · simp only[aN5]at e2 ih
     have hlen:l.length=l'.length:=by simpa using e1
     obtain⟨q1,q2⟩:=bG4 ih hlen e2
     exact⟨by rw[q1],q2⟩
   · simp only[aR5]at e2 ih
     have hnm:l.map bH1=l'.map bH1:=by simpa using e1
     have hlen:l.length=l'.length:=by simpa using congrArg jh hnm
     obtain⟨q1,q2⟩:=bG4 ih (by rw[bP8 hl,bP8 hl',hlen]) e2
     exact⟨by rw[cH6 hl hl' hnm q1],q2⟩
theorem eE2{b:Nat}{x y:D}(hx:VB b 60 x)(hy:VB b 60 y):pre x=pre y↔x=y:=by
 constructor
 · intro e
   exact(cM7 60 (s:= []) (t:= []) hx hy (by simpa [pre]using e)).1
 · rintro rfl
   rfl
theorem bW1{b n:Nat}{l:List D}{G:DH}{Q:DPP}(hl:∀x∈l,∃nm v,x= .tup [.str nm,v]/\nm.length<=1000000/\VB b n v)(hz:l.length<=zd):Wp (S6 [.tup l]) G Q↔Q (.ref G.length) (G++[.lst ((l.map bH1).map D.str)]):=by
 unfold S6 aP8
 have s0:([D.tup l].map some++zZ (1 - [D.tup l].length) none:DSt)= [some (.tup l)]:=rfl
 have hc:K9 nG0 U6 (ixE vE0 cI0) (λ_=>true) l (W6 [none] [some (.tup l)]) G=some (.ok (l.map λx=>D.str (bH1 x)),G):=by
  refine aU5 (I:=λU=>U.length=1) rfl _ _ rfl λx hx U WP=>?_
  obtain⟨z,v,rfl,_,_⟩:=hl x hx
  match U,WP with
  |[u],_=>
    refine⟨[some (.tup [.str z,v])],rfl,rfl,rfl,bT9 ?_⟩
    simp only[aP1,aA9,cQ3,zG,zI,exists_eq_left',ix_tup,at0]
    exact⟨rfl,trivial⟩
 simp only[aN1,s0,aU1,wp_comp,aP2,aA9,zG,zI,exists_eq_left',bF5,hz,true_and]
 rw[aT8 hc,xH]
 rfl
theorem dS2{b k m:Nat}{d:D}{G:DH}(h:VB b k d)(hs:szD d<=10000000)(hb:b<=1000000)(hm:m<=G.length):Wp (aI0 [d]) G λx G'=>HR m G' x (bD2 d)/\Ap G G':=by
 have hsl:10000001<=zd:=by decide
 obtain⟨k,rfl⟩:∃k',k=k'+1:=⟨k-1,by have:=h.pos;omega⟩
 have ht:=h.there (G:=G)
 unfold aI0 aV4 W0 aE5 aB5 aI9
 have s0:([d].map some++zZ (1 - [d].length) none:DSt)= [some d]:=rfl
 simp only[aN1,s0,f9,dG0,R4,bS5,aU1,aP1,P0,aF0,aI3,j8,cQ3,aA9,N7,m5,zG,zI,exists_eq_left',dM9 ht,eF8 ht,eB3 ht,S5]
 rcases h with⟨i,rfl⟩|⟨t,rfl⟩|⟨z,rfl,hz⟩|⟨l,rfl,hl⟩|⟨l,rfl,hl⟩
 · have s1:([D.int i].map some++zZ (1 - [D.int i].length) none:DSt)= [some (.int i)]:=rfl
   simp only[bE3,Z2,jQ,if_false,if_true,s1,zG,zI,exists_eq_left',dO5,bD9]
   exact⟨rfl,sz,sz,rfl,Ap.refl⟩
 · simp only[bE3,if_true]
   exact⟨sz,rfl,Ap.refl⟩
 · have s1:([D.str z].map some++zZ (1 - [D.str z].length) none:DSt)= [some (.str z)]:=rfl
   simp only[bE3,Z2,aG7,jQ,if_false,if_true,s1,zG,zI,exists_eq_left',aA3 (show z.length<=zd by omega)]
   exact⟨rfl,sz,sz,rfl,Ap.refl⟩
 · simp only[bE3,Z2,aG7,jQ,if_false,ix_tup,at0,at1,zI,exists_eq_left',aV2,cN1,show (v9==("list" :Str))=true from by decide,if_true,bA2]
   refine⟨sz,?_,Ap.refl⟩
   rw[cL1]
   rfl
 · have hll:=aO0 l
   rw[bP0]at hs
   simp only[bE3,Z2,aG7,jQ,if_false,ix_tup,at0,at1,zI,exists_eq_left',aV2,cN1,show (M3==("list" :Str))=false from by decide,bA2,bW1 hl (show l.length<=zd by omega)]
   refine⟨rfl,sz,?_,Ap.one⟩
   rw[dH4]
   exact⟨G.length,hm,by rw[zh],m8⟩
theorem bU9{b k:Nat}{d:D}{G:DH}{Q:DPP}(h:VB b k d)(hs:szD d<=10000000):Wp (O8 [d]) G Q↔Q (.ref G.length) (G++[.lst (kids d)]):=by
 have hsl:10000001<=zd:=by decide
 obtain⟨k,rfl⟩:∃k',k=k'+1:=⟨k-1,by have:=h.pos;omega⟩
 unfold O8 aD6
 have s0:([d].map some++zZ (1 - [d].length) none:DSt)= [some d]:=rfl
 have z0: [D.ty "int",D.ty "str"].length<=zd:=sz
 have z1:([]:List D).length<=zd:=sz
 simp only[aN1,s0,f9,dG0,bS5,R4,aU1,aP1,aF0,aI3,j8,cQ3,aA9,P0,aA6,m5,zI,exists_eq_left',zG,wp_comp,aP2,cT1 h.there,S5,z0,z1,true_and]
 rcases h with⟨i,rfl⟩|⟨t,rfl⟩|⟨z,rfl,hz⟩|⟨l,rfl,hl⟩|⟨l,rfl,hl⟩
 ·simp only[Z2,Xy,if_true];exact Iff.rfl
 ·simp only[Z2,Xy,if_true];exact Iff.rfl
 ·simp only[Z2,aG7,Bool.or_true,if_true];exact Iff.rfl
 ·simp only[Z2,aG7,ZJ,jQ,if_false,ix_tup,at0,at1,zI,exists_eq_left',aV2,cN1,show (v9==("list" :Str))=true from by decide,if_true,dF0,aN5]
 · have hll:=aO0 l
   rw[bP0]at hs
   have hz:l.length<=zd:=by omega
   simp only[Z2,aG7,ZJ,jQ,if_false,ix_tup,at0,at1,zI,exists_eq_left',aV2,cN1,show (M3==("list" :Str))=false from by decide,bF5,hz,true_and]
   have hf:l.filterMap aO2=l.map λx=>(aO2 x).getD .non:=by
    have:∀m:List D,(∀x∈m,∃nm v,x= .tup [.str nm,v]/\nm.length<=1000000/\VB b k v)->m.filterMap aO2=m.map λx=>(aO2 x).getD .non:=by
     intro m
     induction m with
     |nil=>exact λ_=>rfl
     |cons x r ih=>
       intro hm
       obtain⟨nm,v,rfl,_,_⟩:=hm x (by simp)
       rw[jd,zA,ih λx hx=>hm x (by simp[hx])]
       rfl
    exact this l hl
   have hc:K9 nG0 U6 (ixE vE0 cI1) (λ_=>true) l (W6 [none] [some (.tup [.str M3,.tup l])]) G=some (.ok (l.map λx=>(aO2 x).getD .non),G):=by
    refine aU5 (I:=λU=>U.length=1) rfl _ _ rfl λx hx U WP=>?_
    obtain⟨z,v,rfl,_,_⟩:=hl x hx
    match U,WP with
    |[u],_=>
      refine⟨[some (.tup [.str z,v])],rfl,rfl,rfl,bT9 ?_⟩
      simp only[aP1,aA9,cQ3,zG,zI,exists_eq_left',ix_tup,at1]
      exact⟨rfl,trivial⟩
   rw[aT8 hc,aR5,hf]
theorem eO5:aG2=m9 (J7 (O3 q11) nG1) (asQ (O3 (aX1 vE0)) nG2 (m9 (W2 (truthE vE2) OWB) (u6 vE1))):=rfl
theorem Z5{G:DH}{p q:Nat}{o o':DO}(h:p≠q)(e:G[q]? =some o):(G.set p o')[q]? =some o:=by rw[jT h];exact e
theorem bN1{G:DH}{p:Nat}{o o':DO}(e:G[p]? =some o):(G.set p o')[p]? =some o':=by rw[zY (lt_of_get e)]
theorem cX7{b:Nat}{G0:DH}{p q:Nat}{d:D}(hb:b<=1000000)(hp:G0.length<=p)(hq:p<q):∀(n:Nat) (xs rs:List D) (hs:List Hd) (u:Option D) (G:DH),szL xs<n->rs.length+szL xs<=10000000->Gr G0 G->G[p]? =some (.lst rs)->G[q]? =some (.lst xs)->aE8 (HR (q+1) G) rs hs->(∀x∈xs,VB b 60 x)->
 Wp (J6 n (truthE vE2) OWB [some d,sRf p,sRf q,u]) G λfl G'=>Gr G0 G'/\∃u' rs',fl= .nx [some d,sRf p,sRf q,u']/\G'[p]? =some (.lst rs')/\aE8 (HR (q+1) G') rs' (hs++xs.reverse.flatMap pre)
 |0,xs,rs,hs,u,G,h1,_,_,_,_,_,_=>by omega
 |n+1,xs,rs,hs,u,G,h1,h2,g,ep,eq,hh,hx=>by
   have hsl:10000001<=zd:=by decide
   rw[aI1]
   simp only[R4,aA9,zG,ju,zI,exists_eq_left',bL0 eq]
   rcases XQ xs with rfl|⟨ys,x,rfl⟩
   · simp only[List.isEmpty_nil,Bool.not_true,jQ,if_false]
     exact⟨g,u,rs,rfl,ep,by simpa using hh⟩
   · rw[Zn]at *
     have hne:(ys++[x]).isEmpty=false:=by cases ys<;>rfl
     have hsz:szL ys+szD x=szL (ys++[x]):=by rw[aJ7];simp[szL]
     have hk:=cF9 x
     have hvx:=hx x (by simp)
     have l1:=aO0 ys
     have l2:=aO0 (kids x)
     have hpos:=bQ1 x
     simp only[hne,Bool.not_false,if_true]
     unfold OWB
     simp only[f9,aQ3,aX6,j8,Q4,dY5,aZ7,aF0,aI3,aA9,N7,zG,ju,ZO,JI,zI,exists_eq_left',V2 eq,cF8 eq]
     have e1p:(G.set q (.lst ys))[p]? =some (.lst rs):=Z5 (by omega) ep
     have e1q:(G.set q (.lst ys))[q]? =some (.lst ys):=bN1 eq
     have g1:Gr G0 (G.set q (.lst ys)):=g.set (by omega)
     have hh1:aE8 (HR (q+1) (G.set q (.lst ys))) rs hs:=hh.mono λ_ _ a=>a.keep λi o hi e=>Z5 (by omega) e
     have hql:=lt_of_get e1q
     generalize G.set q (.lst ys)=G1 at e1p e1q g1 hh1 hql
     rw[V2 e1p]
     refine⟨rfl,Wp.mono (dS2 (m:=q+1) hvx (by omega) hb (by omega)) λy G2 ⟨hy,a2⟩=>?_⟩
     have e2p:=a2.at e1p
     have e2q:=a2.at e1q
     rw[aP6 e2p (by omega)]
     have g2:Gr G0 (G2.set p (.lst (rs++[y]))):=(g1.trans a2.gr).set hp
     have keep2:∀i o,q+1<=i->G2[i]? =some o->(G2.set p (.lst (rs++[y])))[i]? =some o:=λi o hi e=>Z5 (by omega) e
     have hh2:aE8 (HR (q+1) (G2.set p (.lst (rs++[y])))) (rs++[y]) (hs++[bD2 x]):=(hh1.mono λ_ _ a=>(a.keep λi o hi e=>a2.at e).keep keep2).app ⟨hy.keep keep2,trivial⟩
     have e3p:(G2.set p (.lst (rs++[y])))[p]? =some (.lst (rs++[y])):=bN1 e2p
     have e3q:(G2.set p (.lst (rs++[y])))[q]? =some (.lst ys):=Z5 (by omega) e2q
     generalize G2.set p (.lst (rs++[y]))=G3 at g2 hh2 e3p e3q
     rw[V2 e3q]
     refine⟨rfl,(bU9 hvx (by omega)).mpr ?_⟩
     rw[cW4 m8]
     have e4p:(G3++[DO.lst (kids x)]++[DO.lst (kids x).reverse])[p]? =some (.lst (rs++[y])):=O9 (O9 e3p)
     have e4q:(G3++[DO.lst (kids x)]++[DO.lst (kids x).reverse])[q]? =some (.lst ys):=O9 (O9 e3q)
     rw[bB3 e4q m8 (by rw[ya];omega)]
     have keep4:∀i o,q+1<=i->G3[i]? =some o->((G3++[DO.lst (kids x)]++[DO.lst (kids x).reverse]).set q (.lst (ys++(kids x).reverse)))[i]? =some o:=λi o hi e=>Z5 (by omega) (O9 (O9 e))
     have ih:=cX7 (d:=d) hb hp hq n (ys++(kids x).reverse) (rs++[y]) (hs++[bD2 x]) (some x) _ (by rw[aJ7,bQ4];omega) (by rw[aJ7,bQ4,ze,xx];omega) (((g2.trans Gr.app).trans Gr.app).set (by omega)) (Z5 (by omega) e4p) (bN1 e4q) (hh2.mono λ_ _ a=>a.keep keep4) (λz hz=>by
      rcases je.mp hz with hz|hz
      ·exact hx z (by simp[hz])
      ·exact(hvx.kids z (List.mem_reverse.mp hz)).le (zj _) (by omega))
     refine Wp.mono ih λfl G' ⟨g',u',rs',q1,q2,q3⟩=>⟨g',u',rs',q1,q2,?_⟩
     have e:hs++[bD2 x]++(ys++(kids x).reverse).reverse.flatMap pre=hs++(ys++[x]).reverse.flatMap pre:=by
      simp only[List.reverse_append,List.reverse_reverse,yP,List.reverse_nil,List.nil_append,List.flatMap_append,xV,List.flatMap_nil,cU7 hvx,zH,List.singleton_append,Zb]
     rw[<-e]
     exact q3
theorem bW3{b:Nat}{d:D}{G:DH}(hb:b<=1000000)(h:VB b 60 d)(hs:szD d<=10000000):Wp (Q8 [d]) G λx G'=>Gr G G'/\∃p rs,x= .ref p/\G.length<=p/\G'[p]? =some (.lst rs)/\aE8 (HR G.length G') rs (pre d):=by
 unfold Q8
 rw[eO5]
 have s0:([d].map some++zZ (4 - [d].length) none:DSt)= [some d,none,none,none]:=rfl
 simp only[aN1,s0,f9,aQ3,Q4,aA6,aI3,j8,aA9,zG,ju,ZO,JI,zI,exists_eq_left']
 refine⟨sz,sz,?_⟩
 have hlen:(G++[DO.lst []]).length=G.length+1:=by simp
 rw[hlen]
 refine aL8 (n:=szD d+1) ?_
 refine Wp.mono (cX7 (G0:=G) (p:=G.length) (q:=G.length+1) (d:=d) hb (zj _) (yW _) (szD d+1) [d] [] [] none _ (by simp[szL]) (by simp[szL];omega) (Gr.app.trans Gr.app) (O9 m8) (by rw[<-hlen];exact m8) trivial (λx hx=>by rw[zM]at hx;subst hx;exact h)) λfl G' ⟨g,u',rs',q1,q2,q3⟩=>?_
 subst q1
 simp only[aU1,aA9,zG,ju,zI,exists_eq_left']
 refine⟨g,G.length,rs',rfl,zj _,q2,?_⟩
 have e:([]:List Hd)++[d].reverse.flatMap pre=pre d:=by simp
 rw[e]at q3
 refine q3.mono λx k a=>?_
 cases k with
 |r ns=>
   obtain⟨p,hp,q⟩:=a
   exact⟨p,by omega,q⟩
 |_=>exact a
theorem Gr.len{G G':DH}(h:Gr G G'):G.length<=G'.length:=h.1
structure Vl(d:D):Prop where
 v:VB 900000 26 d
 s:szD d<=10000000
theorem Vl.v60{d:D}(h:Vl d):VB 900000 60 d:=h.v.le (zj _) (by omega)
theorem HR.gr{m:Nat}{G G':DH}{d:D}{h:Hd}(a:HR m G d h)(g:Gr G G'):HR m G' d h:=a.keep λ_ _ _ e=>g.at e
theorem HR.low{m n:Nat}{G:DH}{d:D}{h:Hd}(a:HR m G d h)(g:n<=m):HR n G d h:=by
 cases h with
 |r ns=>
   obtain⟨p,hp,q⟩:=a
   exact⟨p,by omega,q⟩
 |_=>exact a
open Classical in
theorem bS0{x y:D}{G:DH}(hx:Vl x)(hy:Vl y):Wp (Q0 [x,y]) G λr G'=>r= .bl (decide (x=y))/\Gr G G':=by
 unfold Q0 aJ9
 have s0:([x,y].map some++zZ (2 - [x,y].length) none:DSt)= [some x,some y]:=rfl
 simp only[aN1,s0,aU1,aP1,aF0,aI3,j8,aA9,N7,zG,ju,zI,exists_eq_left']
 refine⟨rfl,Wp.mono (bW3 (by omega) hx.v60 hx.s) λa G1 ⟨g1,p,rs,e,hp,q1,q2⟩=>?_⟩
 subst e
 refine⟨rfl,Wp.mono (bW3 (by omega) hy.v60 hy.s) λa G2 ⟨g2,q,ss,e,hq,q3,q4⟩=>?_⟩
 subst e
 have l1:=g1.1
 rw[cK3,cP3 (m:=G.length) (g2.at q1) q3 (q2.mono λ_ _ a=>a.gr g2) (q4.mono λ_ _ a=>a.low l1)]
 refine⟨_,rfl,?_,g1.trans g2⟩
 congr 1
 rw[decide_eq_decide]
 exact eE2 hx.v60 hy.v60
theorem eP5(R:List D->M D):R7 R=m9 (ifS (aQ2 (truthE (cY2 u9 vE1 (cE (.ty "tuple")))) (aQ2 (tBn neD (ixE vE1 cI1) (aK1 q11)) (tBn gtD (cX2 d9 vE0 vE2) cI0))) (QA R) J2) QN:=rfl
def NX(b n:Nat)(v x:D):Prop:=GB (b+1) (n+1) x/\lnD x<=lnD v+100
theorem dX0{b n:Nat}:GB b (n+1) (.tup [.str v9,.tup []]):=.l (jV _) λ_ h=>nomatch h
theorem dY1{b n:Nat}:GB b (n+1) (.tup [.str M3,.tup []]):=.r (ps:= []) (jV _) .nil (λ_ h=>nomatch h) λ_ h=>nomatch h
theorem dW9:lnD (.tup [.str v9,.tup []])=14:=by rw[U8,lnL]
theorem eX2{k:Bool}:lnD (.bl k)=5:=by rw[lnD]
theorem eJ0{i:Int}:lnD (.int i)= (nmL i).length:=by rw[lnD]
theorem dZ2:lnD (.tup [.str M3,.tup []])=16:=by rw[aG5,lnL]
theorem cW2{b n:Nat}{v:D}(h:GB b n v):NX b n v (c1 v):=by
 refine⟨.l (l:= [v]) (jt rfl) λx hx=>zM.mp hx▸h.le (jz _),?_⟩
 rw[U8,lnL,lnL];lia
theorem NX.self{b n:Nat}{v:D}(h:GB b n v):NX b n v v:=⟨(h.le (jz _)).up _ (jz _) |>.1,by lia⟩
theorem eF9{z:Str}{lo hi:Option Int}{c:Nat}(h:c∈tl (ye z lo hi)):c∈tl z:=by
 unfold ye at h
 split at h
 ·exact h
 · obtain⟨i,_,e⟩:=yC.mp (show c∈xr _ _ from h)
   rw[<-jb]at e
   exact jn e
theorem eD6{z:Str}{c:Nat}(h:c∈tl (DL.Txt.rev z)):c∈tl z:=by
 unfold DL.Txt.rev at h
 obtain⟨i,_,e⟩:=yC.mp (show c∈xr _ _ from h)
 rw[<-jb]at e
 exact jn e
theorem six{fs:DSt->M (List D)}{U:DSt}{k:Int}{G:DH}{Q:DPP}(WP:U[5]? =some (some (.int k)))(h0:0<=k)(h1:k<6)(w:Wp (fs U) G λds G1=>ds.length=6/\∀d∈ds,Q d (G1++[.lst ds])):Wp (binE ixD (O3 fs) vE5 U) G Q:=
 bin_w<| aA6.mpr<| w.mono λds G1 q=>⟨by rw[q.1];decide,aA9.mpr ⟨_,WP,dL9 h0 (by rw[q.1];exact h1) q.2⟩⟩
section
variable{r b n:Nat}{G:DH}{far k:Int}{s3 s4:Option D}
theorem eU9{i:Int}(h:J8 G r)(h0:0<=k)(h1:k<6)(hi:i.natAbs<=b)(hb:b<aB0):Wp (QI [sRf r,some (.int i),some (.int far),s3,s4,some (.int k)]) G λfl G'=>∃d,fl= .rt d/\NX b (n+1) (.int i) d/\Fr r G G':=by
 refine o8<| six rfl h0 h1<| m7 (x:=.int (0-i)) rfl<| m7 (x:=.int (i+1)) rfl<| m7 (x:=.int i) rfl<| m7 (x:=.int (i-1)) rfl<| j6<| aB3 (x:=.int i) (y:=.int 1) rfl rfl<| T4.mpr<| b8 (a:= [c1 (.int i)]) rfl ⟨rfl,λd hd=>⟨d,rfl,?_,Fr.app h⟩⟩
 have ni:∀j:Int,j.natAbs<=b+1->NX b (n+1) (.int i) (.int j):=λj hj=>⟨.i hj,by
  have:=aF9 (show smI j from zu hj hb)
  rw[lnD];lia⟩
 simp only[zi,zn,or_false]at hd
 rcases hd with rfl|rfl|rfl|rfl|rfl|rfl
 ·exact ni _ (by lia)
 ·exact ni _ (by lia)
 ·exact ni _ (by lia)
 ·exact ni _ (by lia)
 ·exact⟨.b,by rw[eX2];lia⟩
 ·exact cW2 (.i hi)
theorem eR0{t:Bool}(h:J8 G r)(h0:0<=k)(h1:k<6):Wp (QB [sRf r,some (.bl t),some (.int far),s3,s4,some (.int k)]) G λfl G'=>∃d,fl= .rt d/\NX b (n+1) (.bl t) d/\Fr r G G':=by
 have tx:∀z:Str,z= "true"\/z= "false"->NX b (n+1) (.bl t) (.str z):=by
  rintro z (rfl|rfl)
  ·exact⟨.s ⟨by decide +kernel,by decide +kernel⟩,by rw[lnD,show ("true" :Str).length=4 from rfl];lia⟩
  ·exact⟨.s ⟨by decide +kernel,by decide +kernel⟩,by rw[lnD,show ("false" :Str).length=5 from rfl];lia⟩
 have ni:∀j:Int,j.natAbs<=1->NX b (n+1) (.bl t) (.int j):=λj hj=>⟨.i (by lia),by
  have:=aF9 (show smI j from zu hj (by decide))
  rw[lnD];lia⟩
 have nb:∀j:Bool,NX b (n+1) (.bl t) (.bl j):=λj=>⟨.b,by rw[lnD,lnD];lia⟩
 rcases t with _|_
 · refine o8<| six rfl h0 h1<| b8 (a:= [.int 0,.bl true,.bl false,.str "true",.str "false",c1 (.bl false)]) (G':=G) rfl ⟨rfl,λd hd=>⟨d,rfl,?_,Fr.app h⟩⟩
   simp only[zi,zn,or_false]at hd
   rcases hd with rfl|rfl|rfl|rfl|rfl|rfl
   ·exact ni _ (by decide)
   ·exact nb _
   ·exact nb _
   ·exact tx _ (.inl rfl)
   ·exact tx _ (.inr rfl)
   ·exact cW2 .b
 · refine o8<| six rfl h0 h1<| b8 (a:= [.int 1,.bl false,.bl true,.str "true",.str "false",c1 (.bl true)]) (G':=G) rfl ⟨rfl,λd hd=>⟨d,rfl,?_,Fr.app h⟩⟩
   simp only[zi,zn,or_false]at hd
   rcases hd with rfl|rfl|rfl|rfl|rfl|rfl
   ·exact ni _ (by decide)
   ·exact nb _
   ·exact nb _
   ·exact tx _ (.inl rfl)
   ·exact tx _ (.inr rfl)
   ·exact cW2 .b
theorem eU2{z:Str}(h:J8 G r)(h0:0<=k)(h1:k<6)(hz:TxL z)(hl:z.length<=800000):Wp (QS [sRf r,some (.str z),some (.int far),s3,s4,some (.int k)]) G λfl G'=>∃d,fl= .rt d/\NX b (n+1) (.str z) d/\Fr r G G':=by
 have bg:=big
 have l1:=dP7 z
 have l2:=cP8 (z:=z) (lo:=some 1) (hi:=none)
 refine o8<| six rfl h0 h1<| j6<| dY5.mpr<| b8 (a:=.str z) (G':=G) rfl<| (dI0 (by lia)).mpr<| j6<| aB3 (x:=.str z) (y:=.str "a") rfl rfl<| (U5 (show z.length+1<=_ by lia)).mpr<| m7 (x:=.str z) rfl<| j6<| J0.mpr<| b8 (a:=.str z) (G':=G) rfl<| b8 (a:=some 1) (G':=G) rfl<| b8 (a:=none) (G':=G) rfl<| (R0 (by lia)).mpr<| b8 (a:= [.tup [.str v9,.tup []],.tup [.str M3,.tup []]]) (G':=G) rfl ⟨rfl,λd hd=>⟨d,rfl,?_,Fr.app h⟩⟩
 have nz:∀y:Str,(∀c∈tl y,c∈tl z\/c=97)->y.length<=z.length+1->NX b (n+1) (.str z) (.str y):=λy hy hl=>⟨.s ⟨λc hc=>by
  rcases hy c hc with q|rfl
  ·exact hz.1 c q
  ·decide,by lia⟩,by rw[lnD,lnD];lia⟩
 simp only[zi,zn,or_false]at hd
 rcases hd with rfl|rfl|rfl|rfl|rfl|rfl
 ·exact nz _ (λc hc=>.inl (eD6 hc)) (by lia)
 · refine nz _ (λc hc=>?_) (by rw[xW];exact zj _)
   rw[show tl (z++("a" :Str))=tl z++[97]from ji]at hc
   rcases je.mp hc with q|q
   ·exact .inl q
   ·exact .inr (zM.mp q)
 ·exact nz _ (λc hc=>.inl hc) (by lia)
 ·exact nz _ (λc hc=>.inl (eF9 hc)) (by lia)
 ·exact⟨dX0,by rw[dW9];lia⟩
 ·exact⟨dY1,by rw[dZ2];lia⟩
theorem aS0(l:List D)(lo hi:Option Int):(DL.cutD l lo hi).Sublist l:=(JV _ _).trans (List.drop_sublist _ _)
theorem eP2{l:List D}(h:J8 G r)(h0:0<=k)(h1:k<6)(hl:l.length<400000)(hx:∀x∈l,GB b n x):Wp (QL [sRf r,some (.tup [.str v9,.tup l]),some (.int far),s3,s4,some (.int k)]) G λfl G'=>∃d,fl= .rt d/\NX b (n+1) (.tup [.str v9,.tup l]) d/\Fr r G G':=by
 have bg:=big
 have nl:∀m:List D,(∀x∈m,x∈l\/x= .int 0)->m.length<=l.length+1->lnL m<=lnL l+80->NX b (n+1) (.tup [.str v9,.tup l]) (.tup [.str v9,.tup m]):=λm hm h2 h3=>⟨.l (by lia) λx q=>by
  rcases hm x q with q|rfl
  ·exact((hx x q).le (jz _)).up _ (jz _) |>.1
  ·exact .i (jV _),by rw[U8,U8];lia⟩
 refine o8<| P0.mpr<| m7 (x:=.str v9) rfl<| j6<| six rfl h0 h1<| m7 (x:=.tup l.reverse) rfl<| j6<| aB3 (x:=.tup l) (y:=.tup [.int 0]) rfl rfl<| (bP1 (show l.length+1<=_ by lia)).mpr<| b8 (a:= [.tup l,.tup (DL.cutD l (some 1) none),.tup (DL.cutD l none (some (-1))),.tup []]) (G':=G) rfl ⟨rfl,λd hd=>j8.mpr ⟨sz,_,rfl,?_,Fr.app h⟩⟩
 simp only[zi,zn,or_false]at hd
 have sb:∀lo hi,NX b (n+1) (.tup [.str v9,.tup l]) (.tup [.str v9,.tup (DL.cutD l lo hi)]):=λlo hi=>nl _ (λx q=>.inl ((aS0 l lo hi).mem q)) (Nat.le_succ_of_le (aS0 l lo hi).length_le) (zu (cM5 (aS0 l lo hi)) (by lia))
 rcases hd with rfl|rfl|rfl|rfl|rfl|rfl
 ·exact nl _ (λx q=>.inl (List.mem_reverse.mp q)) (by rw[ya];lia) (by rw[cK7];lia)
 · refine nl _ (λx q=>?_) (by rw[ze];exact zj _) ?_
   · rcases je.mp q with q|q
     ·exact .inl q
     ·exact .inr (zM.mp q)
   · have:=aF9 (show smI 0 by unfold smI aB0;decide)
     rw[aI6,lnL,lnL,lnD];lia
 ·exact nl _ (λx q=>.inl q) (by lia) (by lia)
 ·exact sb _ _
 ·exact sb _ _
 ·exact nl [] (λx q=>nomatch q) (by simp) (by simp[lnL])
theorem eY0{ps:List (Str×D)}(h:J8 G r)(h0:0<=k)(h1:k<6)(hv:GB b (n+1) (.tup [.str M3,.tup (ps.map prD)]))(hl:ps.length<=400000)(hp:(ps.map (·.1)).Pairwise LtS)(hn:∀p∈ps,TxL p.1/\tl p.1≠ [])(hx:∀p∈ps,GB b n p.2):Wp (QR [sRf r,some (.tup [.str M3,.tup (ps.map prD)]),some (.int far),s3,s4,some (.int k)]) G λfl G'=>∃d,fl= .rt d/\NX b (n+1) (.tup [.str M3,.tup (ps.map prD)]) d/\Fr r G G':=by
 refine o8<| six rfl h0 h1<| b8 (a:= [.tup [.str M3,.tup (DL.cutD (ps.map prD) (some 1) none)],.tup [.str M3,.tup (DL.cutD (ps.map prD) none (some (-1)))],.tup [.str M3,.tup (ps.map prD)],.tup [.str v9,.tup []],.tup [.str M3,.tup []],.int 0]) (G':=G) rfl ⟨rfl,λd hd=>⟨d,rfl,?_,Fr.app h⟩⟩
 simp only[zi,zn,or_false]at hd
 have sb:∀lo hi,NX b (n+1) (.tup [.str M3,.tup (ps.map prD)]) (.tup [.str M3,.tup (DL.cutD (ps.map prD) lo hi)]):=λlo hi=>by
  obtain⟨qs,hq,e⟩:=List.sublist_map_iff.mp (aS0 (ps.map prD) lo hi)
  have:=cM5 (aS0 (ps.map prD) lo hi)
  refine⟨?_,by rw[aG5,aG5];lia⟩
  rw[e]
  exact .r (zu hq.length_le hl) (hp.sublist (hq.map _)) (λp q=>hn p (hq.mem q)) λp q=>((hx p (hq.mem q)).le (jz _)).up _ (jz _) |>.1
 rcases hd with rfl|rfl|rfl|rfl|rfl|rfl
 ·exact sb _ _
 ·exact sb _ _
 ·exact NX.self hv
 ·exact⟨dX0,by rw[dW9];lia⟩
 ·exact⟨dY1,by rw[dZ2];lia⟩
 · refine⟨.i (jV _),?_⟩
   have:=aF9 (show smI 0 by unfold smI aB0;decide)
   rw[eJ0];lia
end
theorem cK4:∀l:List D,2*l.length<=lnL l
 |[]=>by simp[lnL]
 |d::r=>by
   have:=cK4 r
   unfold lnL
   rw[zp]
   lia
theorem seq_rt{S g:Fs}{U:DSt}{G:DH}{P:Fl->DH->Prop}{K:DPP}(w:Wp (S U) G λfl G1=>∃d,fl= .rt d/\K d G1)(k:∀d G1,K d G1->P (.rt d) G1):Wp (m9 S g U) G P:=f9.mpr (w.mono λfl G1 q=>by obtain⟨d,rfl,q⟩:=q;exact k d G1 q)
theorem bR6{α:Type}{l:List α}{a:Nat}(h:a<l.length):l.take a++(l[a]::l.drop (a+1))=l:=by
 rw[<-yY h,List.take_append_drop]
section
variable{r b n:Nat}{G:DH}{far:Int}{s5:Option D}{R:List D->M D}
theorem dY7{w:Str}{l:List D}{a:Nat}{y:D}{P:Fl->DH->Prop}(ha:a<l.length)(hl:l.length<=400000)(q:P (.rt (.tup [.str w,.tup (l.take a++(y::l.drop (a+1)))])) G):Wp (QT [sRf r,some (.tup [.str w,.tup l]),some (.int far),some (.int a),some y,s5]) G P:=by
 have bg:=big
 have e1:=bX5 l a
 have e2:=dH2 l (a+1)
 rw[show ((a+1:Nat):Int)= (a:Int)+1 from rfl]at e2
 have l1:(l.take a).length=a:=by rw[yT];lia
 refine o8<| P0.mpr<| m7 (x:=.str w) rfl<| j6<| bin_w<| bin_w<| J0.mpr<| b8 (a:=.tup l) (G':=G) rfl<| b8 (a:=none) (G':=G) rfl<| b8 (a:=some (a:Int)) (G':=G) rfl<| cN2.mpr<| b8 (a:=.tup [y]) (G':=G) rfl ?_
 rw[e1]
 refine(bP1 (by rw[l1];simp;lia)).mpr<| J0.mpr<| b8 (a:=.tup l) (G':=G) rfl<| b8 (a:=some ((a:Int)+1)) (G':=G) rfl<| b8 (a:=none) (G':=G) rfl<| cN2.mpr ?_
 rw[e2]
 refine(bP1 (by rw[ze,l1,Za];simp;lia)).mpr<| j8.mpr ⟨sz,?_⟩
 rw[zH]
 exact q
theorem eY7{l:List D}(h:J8 G r)(hne:l≠ [])(hl:l.length<=400000)(hx:∀x∈l,GB b n x)(hR:∀x∈l,∀G1,J8 G1 r->Wp (R [.ref r,x,.int far]) G1 λy G2=>NX b n x y/\Fr r G1 G2):
 Wp (QA R [sRf r,some (.tup [.str v9,.tup l]),some (.int far),none,none,none]) G λfl G'=>∃d,fl= .rt d/\NX b (n+1) (.tup [.str v9,.tup l]) d/\Fr r G G':=by
 have lp:=jy.mpr hne
 refine f9.mpr<| w6<| K5<| m7 (x:=.ref r) rfl<| j6<| aB2 (as:= [.tup l]) rfl<| bA2.mpr<| j8.mpr<| N7.mpr ⟨rfl,M6 h ⟨by lia,by lia⟩ λk h0 h1 G1 f1=>?_⟩
 obtain⟨a,rfl⟩:=jW h0
 have ha:a<l.length:=by lia
 refine f9.mpr<| w6<| bin_w<| b8 (a:=.tup l) (G':=G1) rfl<| b8 (a:=.int a) (G':=G1) rfl<| ix_tup.mpr ⟨l[a],atI_nat (zv ha),?_⟩
 refine f9.mpr<| M7<| b8 (a:=false) (G':=G1) rfl ⟨λz=>(nomatch z),λ_=>w6<| j7 (as:= [.ref r,l[a],.int far]) rfl rfl<| (hR _ (jO ha) G1 f1.2.2).mono λy G2 q=>dY7 ha hl ⟨_,rfl,⟨?_,?_⟩,f1.trans q.2⟩⟩
 · refine .l ?_ λx hx'=>?_
   · have:=congrArg jh (bR6 ha)
     rw[ze,zp]at this ⊢
     lia
   · rcases je.mp hx' with z|z
     ·exact((hx x (Jb z)).le (jz _)).up _ (jz _) |>.1
     · rcases zi.mp z with rfl|z
       ·exact q.1.1
       ·exact((hx x (Zt z)).le (jz _)).up _ (jz _) |>.1
 · have:=congrArg lnL (bR6 ha)
   rw[aI6,lnL]at this
   rw[U8,U8,aI6,lnL]
   have:=q.1.2
   lia
theorem fB8{ps:List (Str×D)}(h:J8 G r)(hne:ps≠ [])(hl:ps.length<=400000)(hp:(ps.map (·.1)).Pairwise LtS)(hn:∀p∈ps,TxL p.1/\tl p.1≠ [])(hx:∀p∈ps,GB b n p.2)(hR:∀p∈ps,∀G1,J8 G1 r->Wp (R [.ref r,p.2,.int far]) G1 λy G2=>NX b n p.2 y/\Fr r G1 G2):
 Wp (QA R [sRf r,some (.tup [.str M3,.tup (ps.map prD)]),some (.int far),none,none,none]) G λfl G'=>∃d,fl= .rt d/\NX b (n+1) (.tup [.str M3,.tup (ps.map prD)]) d/\Fr r G G':=by
 have lp:=jy.mpr hne
 refine f9.mpr<| w6<| K5<| m7 (x:=.ref r) rfl<| j6<| aB2 (as:= [.tup (ps.map prD)]) rfl<| bA2.mpr<| j8.mpr<| N7.mpr ⟨rfl,M6 h ⟨by rw[zh];lia,by rw[zh];lia⟩ λk h0 h1 G1 f1=>?_⟩
 obtain⟨a,rfl⟩:=jW h0
 have ha:a<ps.length:=by rw[zh]at h1;lia
 have ea:(ps.map prD)[a]? =some (prD ps[a]):=by rw[jk,zv ha];rfl
 refine f9.mpr<| w6<| bin_w<| b8 (a:=.tup (ps.map prD)) (G':=G1) rfl<| b8 (a:=.int a) (G':=G1) rfl<| ix_tup.mpr ⟨_,atI_nat ea,?_⟩
 refine f9.mpr<| M7<| b8 (a:=true) (G':=G1) rfl ⟨λ_=>w6<| P0.mpr<| m7 (x:=.str ps[a].1) rfl<| j6<| j7 (as:= [.ref r,ps[a].2,.int far]) rfl rfl<| (hR _ (jO ha) G1 f1.2.2).mono λy G2 q=>j8.mpr ⟨sz,dY7 (by rw[zh];exact ha) (by rw[zh];exact hl) ⟨_,rfl,?_,f1.trans q.2⟩⟩,λz=>nomatch z⟩
 have e:(ps.map prD).take a++(.tup [.str ps[a].1,y]::(ps.map prD).drop (a+1))= (ps.take a++((ps[a].1,y)::ps.drop (a+1))).map prD:=by
  rw[yk,zA,List.map_take,List.map_drop];rfl
 rw[e]
 have mm:∀p∈ps.take a++((ps[a].1,y)::ps.drop (a+1)),p∈ps\/p= (ps[a].1,y):=λp hp'=>by
  rcases je.mp hp' with z|z
  ·exact .inl (Jb z)
  · rcases zi.mp z with z|z
    ·exact .inr z
    ·exact .inl (Zt z)
 have en:(ps.take a++((ps[a].1,y)::ps.drop (a+1))).map (·.1)=ps.map (·.1):=by
  rw[<-congrArg (List.map (·.1)) (bR6 ha),yk,yk,zA,zA]
 refine⟨.r ?_ (by rw[en];exact hp) (λp hp'=>?_) (λp hp'=>?_),?_⟩
 · have:=congrArg jh en
   rw[zh,zh]at this
   lia
 · rcases mm p hp' with z|rfl
   ·exact hn p z
   ·exact hn ps[a] (jO ha)
 · rcases mm p hp' with z|rfl
   ·exact((hx p z).le (jz _)).up _ (jz _) |>.1
   ·exact q.1.1
 · have:=congrArg (λl=>lnL (l.map prD)) (bR6 ha)
   rw[yk,zA,aI6,lnL,aR9]at this
   rw[aG5,aG5,yk,zA,aI6,lnL,aR9]
   have:=q.1.2
   lia
end
theorem dU2{r b:Nat}{far:Int}(hf:0<far/\far<100)(hb:b<aB0):∀(n N:Nat) (v:D) (G:DH),J8 G r->GB b n v->n<=N->lnD v<=700000->Wp (S8 N [.ref r,v,.int far]) G λx G'=>NX b n v x/\Fr r G G':=by
 intro n
 induction n with
 |zero=>intro N v G h hv;cases hv
 |succ n ih=>
   intro N v G h hv hN hz
   obtain⟨M,rfl⟩:∃M,N=M+1:=⟨N-1,by lia⟩
   refine t8 (show Wp (R7 (S8 M) [sRf r,some v,some (.int far),none,none,none]) G _ from ?_)
   rw[eP5]
   have leaf:∀G1,Fr r G G1->Wp (QN [sRf r,some v,some (.int far),none,none,none]) G1 (PB λx G'=>NX b (n+1) v x/\Fr r G G'):=by
    intro G1 f1
    refine f9.mpr<| w6<| j7 (as:= [.ref r,.int 6]) rfl rfl<| M6 f1.2.2 ⟨by decide,by decide⟩ λk h0 h1 G2 f2=>?_
    cases hv with
    |i hi=>exact v6 (G':=G2) rfl<| seq_rt (M7<| b8 (a:=true) (G':=G2) rfl ⟨λ_=>eU9 f2.2.2 h0 h1 hi hb,λz=>nomatch z⟩) λd G3 q=>o7 ⟨q.1,(f1.trans f2).trans q.2⟩
    |b=>exact seq_rt (M7<| b8 (a:=true) (G':=G2) rfl ⟨λ_=>eR0 f2.2.2 h0 h1,λz=>nomatch z⟩) λd G3 q=>o7 ⟨q.1,(f1.trans f2).trans q.2⟩
    |s hs=>
      rw[lnD]at hz
      exact v6 (G':=G2) rfl<| v6 (G':=G2) rfl<| seq_rt (M7<| b8 (a:=true) (G':=G2) rfl ⟨λ_=>eU2 f2.2.2 h0 h1 hs (by lia),λz=>nomatch z⟩) λd G3 q=>o7 ⟨q.1,(f1.trans f2).trans q.2⟩
    |@l _ l hl hx=>
      rw[U8]at hz
      have:=cK4 l
      exact v6 (G':=G2) rfl<| v6 (G':=G2) rfl<| v6 (G':=G2) rfl<| seq_rt (M7<| b8 (a:=true) (G':=G2) rfl ⟨λ_=>eP2 f2.2.2 h0 h1 (by lia) hx,λz=>nomatch z⟩) λd G3 q=>o7 ⟨q.1,(f1.trans f2).trans q.2⟩
    |r hl hp hn hx=>exact v6 (G':=G2) rfl<| v6 (G':=G2) rfl<| v6 (G':=G2) rfl<| v6 (G':=G2) rfl<| (eY0 f2.2.2 h0 h1 (.r hl hp hn hx) hl hp hn hx).mono λfl G3 q=>by obtain⟨d,rfl,q⟩:=q;exact o7 ⟨q.1,(f1.trans f2).trans q.2⟩
   cases hv with
   |i hi=>exact v6 (G':=G) rfl (leaf G (Fr.refl h))
   |b=>exact v6 (G':=G) rfl (leaf G (Fr.refl h))
   |s hs=>exact v6 (G':=G) rfl (leaf G (Fr.refl h))
   |@l _ l hl hx=>
     rw[U8]at hz
     rcases l with _|⟨x,t⟩
     ·exact v6 (G':=G) rfl (leaf G (Fr.refl h))
     · refine f9.mpr<| M7<| aO4<| b8 (a:=true) (G':=G) rfl ⟨λ_=>aO4<| b8 (a:=true) (G':=G) rfl ⟨λ_=>?_,λz=>nomatch z⟩,λz=>nomatch z⟩
       refine u0<| bin_w<| j7 (as:= [.ref r,.int far]) rfl rfl<| M6 h ⟨hf.1,by lia⟩ λk h0 h1 G1 f1=>b8 (a:=.int 0) (G':=G1) rfl<| aO8.mpr ⟨_,rfl,λ_=>?_,λ_=>m5.mpr (leaf G1 f1)⟩
       refine(eY7 f1.2.2 (jP _ _) hl hx λy hy G2 h2=>ih M y G2 h2 (hx y hy) (by lia) (by have:=bN0 hy;lia)).mono ?_
       rintro _ G3 ⟨d,rfl,q⟩
       exact o7 ⟨q.1,f1.trans q.2⟩
   |@r _ ps hl hp hn hx=>
     rw[aG5]at hz
     rcases ps with _|⟨x,t⟩
     ·exact v6 (G':=G) rfl (leaf G (Fr.refl h))
     · refine f9.mpr<| M7<| aO4<| b8 (a:=true) (G':=G) rfl ⟨λ_=>aO4<| b8 (a:=true) (G':=G) rfl ⟨λ_=>?_,λz=>nomatch z⟩,λz=>nomatch z⟩
       refine u0<| bin_w<| j7 (as:= [.ref r,.int far]) rfl rfl<| M6 h ⟨hf.1,by lia⟩ λk h0 h1 G1 f1=>b8 (a:=.int 0) (G':=G1) rfl<| aO8.mpr ⟨_,rfl,λ_=>?_,λ_=>m5.mpr (leaf G1 f1)⟩
       refine(fB8 f1.2.2 (jP _ _) hl hp hn hx λy hy G2 h2=>ih M y.2 G2 h2 (hx y hy) (by lia) (by have:=bN0 (xa (f:=prD) hy);rw[aR9]at this;lia)).mono ?_
       rintro _ G3 ⟨d,rfl,q⟩
       exact o7 ⟨q.1,f1.trans q.2⟩
theorem bN4{r b n B:Nat}{v:D}{G:DH}(h:J8 G r)(hv:Dr b n B v)(hb:b<aB0)(hn:n<=20)(hB:B<=700000):Wp (V3 [.ref r,v]) G λx G'=>Dr (b+1) (n+1) (B+100) x/\Fr r G G':=by
 refine t8<| o8<| K5<| m7 (x:=.ref r) rfl<| m7 (x:=v) rfl<| j6<| aW2 rfl (by decide) (by decide)<| b8 (a:= [.int 4,.int 40]) (G':=G) rfl ⟨sz,h,rfl,λd hd G1 f1=>?_⟩
 have hd':∃i:Int,d= .int i/\0<i/\i<100:=by
  simp only[zi,zn,or_false]at hd
  rcases hd with rfl|rfl
  ·exact⟨4,rfl,by decide,by decide⟩
  ·exact⟨40,rfl,by decide,by decide⟩
 obtain⟨i,rfl,hi1,hi2⟩:=hd'
 have ln:=hv.ln
 refine j8.mpr<| N7.mpr ⟨rfl,(dU2 ⟨hi1,hi2⟩ hb n 21 v G1 f1.2.2 hv.gv (by lia) (by lia)).mono λx G2 q=>o7 ⟨⟨q.1.1,?_⟩,f1.trans q.2⟩⟩
 have:=q.1.2
 lia
theorem dV9{b n:Nat}{d:D}(h:GB b n d):szD d<=3*(shN n d).length:=by
 have sum:∀ {f:D->List Nat} {l:List D},(∀x∈l,szD x<=3*(f x).length)->szL l<=3*((l.map f).map jh).sum:=λ{f l} h=>by
  induction l with
  |nil=>simp[szL]
  |cons a r ih=>
    have h1:=h a (zr ..)
    have h2:=ih λx hx=>h x (zw _ hx)
    rw[zA,zA,ZI]
    unfold szL
    lia
 induction h with
 |@i n i h=>
   rw[bF2]
   have h1:nmL i≠ []:=by
    rcases aH3 i with⟨m,rfl⟩|⟨m,hm,rfl⟩
    ·rw[aP7];exact bG0 m
    ·rw[aQ5 m hm];exact jP _ _
   have:=jy.mpr h1
   simp only[szD]
   lia
 |@b n k=>rcases k with _|_<;>(simp only[szD];exact jt rfl)
 |s h=>rw[cE9];simp only[szD,zp];lia
 |@l n l hl _ ih=>
   rw[bM6,cV2]
   have h1:=sum ih
   have h2:=bA1 (l.map (shN n))
   simp only[zp,ze,jw]
   rcases l with _|⟨x,r⟩
   ·simp[szL];lia
   · simp only[zh,zp]at h2
     lia
 |@r n ps hl hp hn _ ih=>
   rw[bU2,bP0]
   have h1:=sum (f:=shQ (shN n)) (l:=ps.map prD) λx hx=>by
    obtain⟨p,hpl,rfl⟩:=zW.mp hx
    have:=ih p hpl
    show szD (.tup [.str p.1,p.2])<=3*(tl p.1++[58,32]++shN n p.2).length
    rw[dI5,ze,ze]
    simp;lia
   have h2:=bA1 ((ps.map prD).map (shQ (shN n)))
   simp only[zp,ze,jw]
   rcases ps with _|⟨x,r⟩
   ·simp[szL];lia
   · simp only[zh,zp]at h2
     lia
theorem GB.vb{b n:Nat}{d:D}(h:GB b n d):VB 900000 n d:=by
 induction h with
 |i=>exact VB.i
 |b=>exact VB.b
 |s h=>exact VB.s h.2
 |l _ _ ih=>exact VB.l ih
 |r _ _ hn _ ih=>
   exact VB.r λx hx=>by
    obtain⟨p,hp,rfl⟩:=zW.mp hx
    exact⟨p.1,p.2,rfl,zu (hn p hp).1.2 (by decide),ih p hp⟩
theorem GB.kids{b n:Nat}{d:D}(h:GB b (n+1) d):∀x∈W.kids d,GB b n x:=by
 intro x hx
 cases h with
 |i=>cases hx
 |b=>cases hx
 |s=>cases hx
 |l _ h=>rw[aN5]at hx;exact h x hx
 |r _ _ _ h=>
   rw[aR5]at hx
   obtain⟨y,hy,ey⟩:=yC.mp hx
   obtain⟨p,hp,rfl⟩:=zW.mp hy
   cases ey
   exact h p hp
theorem dI7{c:Nat}{G:DH}(h:97<=c/\c<=122):aG3 leD leD (cSt "a") vE0 (cSt "z") [some (.str ⟨#[c]⟩)] G=some (.ok (.bl true),G):=bT9<| by
 unfold aG3
 refine g8.mpr<| b8 (a:=D.str ⟨#[97]⟩) (G':=G) rfl<| g8.mpr<| b8 (a:=D.str ⟨#[c]⟩) (G':=G) rfl<| g8.mpr<| aW0.mpr<| g8.mpr<| bP9.mpr ⟨true,by rw[decide_eq_true h.1],?_⟩
 rw[if_pos rfl]
 refine g8.mpr<| b8 (a:=D.str ⟨#[122]⟩) (G':=G) rfl<| aW0.mpr ⟨by rw[decide_eq_true h.2],rfl⟩
theorem cG5{G:DH}:∀(cs:List Nat) (u:Option D),(∀c∈cs,97<=c/\c<=122)->K9 nG0 U6 (aG3 leD leD (cSt "a") vE0 (cSt "z")) (λ_=>true) (cs.map λc=>.str ⟨#[c]⟩) [u] G=some (.ok ((cs.map λc=>D.str ⟨#[c]⟩).map λ_=>.bl true),G)
 |[],u,_=>bT9 (bF8.mpr ⟨rfl,rfl,rfl⟩)
 | c :: r, u, h => bT9 (bE2.mpr ⟨rfl, b8 (a := [some (.str ⟨#[c]⟩)]) (G' := G) rfl <| b8 (a := true) (G' := G) rfl <| by
    rw[if_pos rfl];exact b8 (dI7 (h c (zr ..)))<| b8 (cG5 r _ λy hy=>h y (zw _ hy)) ⟨rfl,rfl⟩⟩)
section
variable{G:DH}{z:Str}{p:Str×D}{ps:List (Str×D)}
theorem bC1(h:TxL z):Wp (aH6 [.str z]) G λx G'=>x= .bl true/\Ap G G':=by
 have bg:=big
 have hl:=h.2
 refine t8 (show Wp (aU8 [some (.str z)]) G _ from ?_)
 have hz:(aU0 z).length<=zd:=by
  unfold aU0;rw[zh,J9];lia
 exact o8<| cC4 (G1:=G) rfl<| K5<| j6<| wp_comp.mpr<| aP2.mpr<| b8 (a:=.str z) (G':=G) rfl<| dD7.mpr ⟨hz,b8 (cG5 (tl z) none h.1)<| j8.mpr<| (cB1 (f:=λ_=>true) m8).mpr<| o7<| by rw[yU.mpr λ_ _=>rfl];exact⟨rfl,Ap.one⟩⟩
theorem cB4(h:TxL z/\tl z≠ []):Wp (aN8 [.str z]) G λx G'=>x= .bl true/\Ap G G':=by
 have bg:=big
 have hl:=h.1.2
 refine t8 (show Wp (aU7 [some (.str z)]) G _ from ?_)
 refine o8<| cD7<| j7 (as:= [.str z]) rfl rfl<| (bC1 h.1).mono ?_
 rintro _ G1 ⟨rfl,a1⟩
 refine⟨rfl,bin_w<| aB2 (as:= [.str z]) rfl<| (aA3 (by lia)).mpr<| b8 (a:=.int 0) (G':=G1) rfl<| aO8.mpr<| o7 ⟨?_,a1⟩⟩
 have:=jy.mpr h.2
 rw[J9]at this
 rw[decide_eq_true (by lia)]
theorem cE7(h:TxL p.1/\tl p.1≠ []):Wp (aN3 [prD p]) G λx G'=>x= .bl true/\Ap G G':=by
 refine t8 (show Wp (aU2 [some (prD p)]) G _ from ?_)
 exact o8<| cC4 (G1:=G) rfl<| cC4 (G1:=G) rfl<| j7 (as:= [.str p.1]) rfl rfl<| (cB4 h).mono λx G1 q=>o7 q
theorem dQ1{b n:Nat}{d:D}(h:GB b n d):Wp (aJ2 [d]) G λy G'=>y= .bl true/\Ap G G':=by
 have bg:=big
 cases h with
 |i=>exact aS6 (G':=G) rfl ⟨rfl,Ap.refl⟩
 |b=>exact aS6 (G':=G) rfl ⟨rfl,Ap.refl⟩
 |@s _ z hs=>exact t8<| v6 (X1:= [some (.str z)]) (G':=G) rfl<| seq_rt (K:=λy G'=>y= .bl true/\Ap G G') (M7<| b8 (a:=true) (G':=G) rfl ⟨λ_=>o8<| j7 (as:= [.str z]) rfl rfl<| (bC1 hs).mono λx G1 q=>⟨x,rfl,q⟩,λz=>nomatch z⟩) λd G1 q=>o7 q
 |l=>exact aS6 (G':=G) rfl ⟨rfl,Ap.refl⟩
 |@r n ps hl hp hn hx=>
   refine t8<| v6 (X1:= [some (.tup [.str M3,.tup (ps.map prD)])]) (G':=G) rfl<| v6 (X1:= [some (.tup [.str M3,.tup (ps.map prD)])]) (G':=G) rfl<| seq_rt (K:=λy G'=>y= .bl true/\Ap G G') (M7<| b8 (a:=true) (G':=G) rfl ⟨λ_=>o8<| cD7<| K5<| j6<| aM7 (l:=ps.map prD) (G1:=G) rfl (by rw[zh];lia) ?_,λz=>nomatch z⟩) λd G1 q=>o7 q
   refine(X7 (Ap G) One (λ_=>.bl true) (λ_ _=>rfl) _ _ G ⟨_,rfl⟩ Ap.refl ?_).mono ?_
   · rintro x hxl _ G1 ⟨u,rfl⟩ j
     obtain⟨p,hp,rfl⟩:=zW.mp hxl
     exact aS7 ⟨_,rfl⟩ (j7 (as:= [prD p]) rfl rfl<| (cE7 (hn p hp)).mono λy G2 q=>⟨j.trans q.2,q.1⟩)
   · rintro _ G1 ⟨j,rfl⟩
     refine j8.mpr<| (cB1 (f:=λ_=>true) m8).mpr ⟨by rw[yU.mpr λ_ _=>rfl],?_⟩
     refine K5<| j6<| j7 (as:= [.tup (ps.map prD)]) rfl rfl<| bP2 hl<| j8.mpr<| N7.mpr ⟨rfl,?_⟩
     exact bX3 (.inr ⟨_,rfl,m8⟩) (by rw[zh,zh];lia) (cN0 hp) λG2 j2=>⟨_,rfl,rfl,((j.trans Ap.one).trans Ap.one).trans j2⟩
end
theorem eV3:aI2=m9 (J7 (O3 (aX1 vE0)) nG1) (m9 (W2 (truthE vE1) VL) (u6 cBt)):=rfl
theorem cF3{p:Nat}{x:Option D}{G0:DH}{b:Nat}(hp:G0.length<=p):∀(fuel:Nat) (l:List D) (u:Option D) (G:DH),szL l<fuel->fuel<=9000000->(∀d∈l,GB b 20 d)->G[p]? =some (.lst l)->Gr G0 G->Wp (J6 fuel (truthE vE1) VL [x,sRf p,u]) G λfl G'=>(∃u,fl= .nx [x,sRf p,u])/\Gr G0 G'
 |0,l,u,G,h,_,_,_,_=>by lia
 |fuel+1,l,u,G,h,hf,hv,e,gr=>by
   have bg:10000000<zd:=by decide
   refine aI1.mpr<| R4.mpr<| b8 (a:=.ref p) (G':=G) rfl<| (bL0 e).mpr ?_
   rcases XQ l with rfl|⟨l,d,rfl⟩
   · rw[show (!([]:List D).isEmpty)=false from rfl,if_neg (by decide)]
     exact⟨⟨u,rfl⟩,gr⟩
   rw[Zn]at e h hv
   rw[Zn,show (!(l++[d]).isEmpty)=true by simp,if_pos rfl]
   have hd:=hv d (by simp)
   have s0:=aJ7 l [d]
   simp only[szL]at s0
   refine f9.mpr<| w6<| aX6.mpr<| b8 (a:=.ref p) (G':=G) rfl<| (V2 e).mpr<| j8.mpr<| (cF8 e).mpr ?_
   refine f9.mpr<| cK8<| V4<| j7 (as:= [d]) rfl rfl<| (dQ1 hd).mono ?_
   rintro _ G1 ⟨rfl,a1⟩
   refine⟨rfl,rfl,m5.mpr ?_⟩
   have e1:G1[p]? =some (.lst l):=a1.at (zY (lt_of_get e))
   refine aZ7.mpr<| aX6.mpr<| b8 (a:=.ref p) (G':=G1) rfl<| (V2 e1).mpr<| j6<| j7 (as:= [d]) rfl rfl<| (bU9 hd.vb (by lia)).mpr ?_
   have s1:=aJ7 l (W.kids d)
   have s2:=aO0 (l++W.kids d)
   have s3:=cF9 d
   rw[ze]at s2
   refine j8.mpr<| (bB3 (O9 e1) m8 (by lia)).mpr ?_
   refine cF3 (b:=b) hp fuel (l++W.kids d) _ _ (by lia) (by lia) (λy hy=>?_) (zY (lt_of_get (O9 e1))) ?_
   · rcases je.mp hy with hy|hy
     ·exact hv y (by simp[hy])
     ·exact((hd.kids y hy).up _ (jz _)).1
   ·exact Gr.set (((gr.set hp).trans a1.gr).trans Gr.app) hp
theorem bV8{b:Nat}{d:D}{G:DH}(h:GB b 20 d)(hs:szD d<=8000000):Wp (aJ8 [d]) G λy G'=>y= .bl true/\Gr G G':=by
 refine t8 (show Wp (aI2 [some d,none,none]) G _ from ?_)
 rw[eV3]
 have lp:=cF3 (x:=some d) (G0:=G) (zj _) (szL [d]+1) [d] none (G++[DO.lst [d]]) (yW _) (by simp only[szL];lia) (λy hy=>by rw[zM.mp hy];exact h) m8 Gr.app
 refine v6 (X1:= [some d,some (.ref G.length),none]) (G':=G++[.lst [d]]) rfl<| f9.mpr<| aL8<| lp.mono ?_
 rintro _ G1 ⟨⟨u,rfl⟩,g1⟩
 exact o8<| cQ3.mpr<| o7 ⟨rfl,g1⟩
theorem cZ6{z:Str}{lo hi:Option Int}:(ye z lo hi).length<=(jr lo hi 1 z.length).length:=by
 unfold ye
 split
 · rename_i h
   rw[xC,beq_iff_eq,beq_iff_eq]at h
   lia
 ·exact Xm _ _
theorem dM4(a n:Nat):(jr none (some (a:Int)) 1 n).length<=a:=by
 unfold jr XB
 simp only[show (1:Int)>0 by decide,if_true,show ¬(a:Int)<0 by lia,if_false]
 rw[zh,jg]
 split<;>lia
theorem dT5(a n:Nat):(jr (some (a:Int)) none 1 n).length<=n-a:=by
 unfold jr XB
 simp only[show (1:Int)>0 by decide,if_true,show ¬(a:Int)<0 by lia,if_false]
 rw[zh,jg]
 split<;>lia
theorem cK6{z:Str}{a:Nat}:(ye z none (some (a:Int))).length<=a:=zu cZ6 (dM4 a _)
theorem bN8{z:Str}{a:Nat}:(ye z (some (a:Int)) none).length<=z.length-a:=zu cZ6 (dT5 a _)
theorem dW7{z:Str}{n:Int}{G:DH}{Q:DPP}(h:xA z n):Wp (aK4 (.str z) (.int n)) G Q↔Q (.str (ZB z n)) G:=by
 have e:aK4 (.str z) (.int n)=if xA z n then pure (.str (ZB z n))else M.stuck:=rfl
 rw[e,if_pos h]
 exact d8
noncomputable def sg1:List Str:= ["", " ", ",", ", ", ":", ": ", "[", "]", "{", "}", "\"", "-", "0", "1", "a", "b", "A", "true"]
noncomputable def sg2:List Str:= ["\n", "-0", "01", "[]", "{}", "\"\"", "b: 1", "false", "_",ZB "1" 40,ZB "1" 41, "a: "]
theorem eF3:∀z∈sg1++sg2,z.length<=41:=by decide +kernel
def SPC:Fs:=m9 (ifS (tBn eqD vE6 cI0) (u6 (binE addD (binE addD (w5 vE1 (J4) (J3 vE3)) vE5) (w5 vE1 (J3 vE3) (J4)))) J2) (gdQ (tBn eqD vE6 cI1) (binE addD (w5 vE1 (J4) (J3 vE3)) (w5 vE1 (J3 vE4) (J4))) (gdQ (tBn eqD vE6 cI2) (binE addD (binE addD (w5 vE1 (J4) (J3 vE3)) vE5) (w5 vE1 (J3 (binE addD vE3 cI1)) (J4))) (gdQ (tBn eqD vE6 cI3) (binE addD (w5 vE1 (J4) (J3 vE4)) (w5 vE1 (J3 vE3) (J4))) ((u6 (binE addD vE1 vE5))))))
def SPD:Fs:=m9 (J7 (cX2 d9 vE0 (binE addD (cY1 lenF vE1) cI1)) nG3) (asQ (binE addD vE3 (cX2 d9 vE0 cI4)) nG4 (asQ (ixE vE2 (cX2 d9 vE0 (cIn 30))) nG5 (asQ (cX2 d9 vE0 cI5) nG6 SPC)))
theorem eQ3:Z8=m9 SPA (m9 SPB SPD):=rfl
section
variable{r q:Nat}{G:DH}{T s:Str}{s2:Option D}
theorem cE8{x y:Str}{Q:DPP}{B:Nat}(h:x.length+y.length<=B)(hB:B<=1000000)(k:∀w:Str,w.length<=B->Q (.str w) G):Wp (addD (.str x) (.str y)) G Q:=by
 have bg:=big
 exact(U5 (by lia)).mpr (k _ (by rw[xW];exact h))
theorem eE0{a f:Nat}{k:Int}(hT:T.length<=800000)(ha:a<=T.length)(hf:a<=f/\f<=a+3)(hs:s.length<=41):Wp (SPC [sRf r,some (.str T),s2,some (.int a),some (.int f),some (.str s),some (.int k)]) G λfl G'=>∃z,fl= .rt (.str z)/\z.length<=T.length+41/\G'=G:=by
 have bg:=big
 have hz:T.length<=zd:=by lia
 have pa:=cK6 (z:=T) (a:=a)
 have pf:=cK6 (z:=T) (a:=f)
 have sa:=bN8 (z:=T) (a:=a)
 have sf:=bN8 (z:=T) (a:=f)
 have s1:=bN8 (z:=T) (a:=a+1)
 refine f9.mpr<| M7<| u0<| aB3 (x:=.int k) (y:=.int 0) rfl rfl<| T4.mpr ⟨_,rfl,λ_=>?_,λ_=>m5.mpr ?_⟩
 · refine o8<| bin_w<| bin_w<| J0.mpr<| b8 (a:=.str T) (G':=G) rfl<| b8 (a:=none) (G':=G) rfl<| b8 (a:=some (a:Int)) (G':=G) rfl<| (R0 hz).mpr<| b8 (a:=.str s) (G':=G) rfl<| cE8 (B:=a+41) (by lia) (by lia) λw hw=>?_
   exact J0.mpr<| b8 (a:=.str T) (G':=G) rfl<| b8 (a:=some (a:Int)) (G':=G) rfl<| b8 (a:=none) (G':=G) rfl<| (R0 hz).mpr<| cE8 (B:=T.length+41) (by lia) (by lia) λw hw=>⟨w,rfl,hw,rfl⟩
 refine f9.mpr<| M7<| u0<| aB3 (x:=.int k) (y:=.int 1) rfl rfl<| T4.mpr ⟨_,rfl,λ_=>?_,λ_=>m5.mpr ?_⟩
 · refine o8<| bin_w<| J0.mpr<| b8 (a:=.str T) (G':=G) rfl<| b8 (a:=none) (G':=G) rfl<| b8 (a:=some (a:Int)) (G':=G) rfl<| (R0 hz).mpr ?_
   exact J0.mpr<| b8 (a:=.str T) (G':=G) rfl<| b8 (a:=some (f:Int)) (G':=G) rfl<| b8 (a:=none) (G':=G) rfl<| (R0 hz).mpr<| cE8 (B:=T.length+41) (by lia) (by lia) λw hw=>⟨w,rfl,hw,rfl⟩
 refine f9.mpr<| M7<| u0<| aB3 (x:=.int k) (y:=.int 2) rfl rfl<| T4.mpr ⟨_,rfl,λ_=>?_,λ_=>m5.mpr ?_⟩
 · refine o8<| bin_w<| bin_w<| J0.mpr<| b8 (a:=.str T) (G':=G) rfl<| b8 (a:=none) (G':=G) rfl<| b8 (a:=some (a:Int)) (G':=G) rfl<| (R0 hz).mpr<| b8 (a:=.str s) (G':=G) rfl<| cE8 (B:=a+41) (by lia) (by lia) λw hw=>?_
   exact J0.mpr<| b8 (a:=.str T) (G':=G) rfl<| b8 (a:=some ((a+1:Nat):Int)) (G':=G) rfl<| b8 (a:=none) (G':=G) rfl<| (R0 hz).mpr<| cE8 (B:=T.length+41) (by lia) (by lia) λw hw=>⟨w,rfl,hw,rfl⟩
 refine f9.mpr<| M7<| u0<| aB3 (x:=.int k) (y:=.int 3) rfl rfl<| T4.mpr ⟨_,rfl,λ_=>?_,λ_=>m5.mpr ?_⟩
 · refine o8<| bin_w<| J0.mpr<| b8 (a:=.str T) (G':=G) rfl<| b8 (a:=none) (G':=G) rfl<| b8 (a:=some (f:Int)) (G':=G) rfl<| (R0 hz).mpr ?_
   exact J0.mpr<| b8 (a:=.str T) (G':=G) rfl<| b8 (a:=some (a:Int)) (G':=G) rfl<| b8 (a:=none) (G':=G) rfl<| (R0 hz).mpr<| cE8 (B:=T.length+41) (by lia) (by lia) λw hw=>⟨w,rfl,hw,rfl⟩
 ·exact o8<| aB3 (x:=.str T) (y:=.str s) rfl rfl<| cE8 (B:=T.length+41) (by lia) (by lia) λw hw=>⟨w,rfl,hw,rfl⟩
theorem eF5{s3 s4 s5 s6:Option D}(h:J8 G r)(hq:q≠r)(e:G[q]? =some (.lst ((sg1++sg2).map D.str)))(hT:T.length<=800000):Wp (SPD [sRf r,some (.str T),sRf q,s3,s4,s5,s6]) G λfl G'=>∃z,fl= .rt (.str z)/\z.length<=T.length+41/\Fr r G G':=by
 have bg:=big
 refine f9.mpr<| w6<| K5<| m7 (x:=.ref r) rfl<| j6<| bin_w<| aB2 (as:= [.str T]) rfl<| (aA3 (by lia)).mpr<| b8 (a:=.int 1) (G':=G) rfl<| Z6.mpr<| j8.mpr<| N7.mpr ⟨rfl,M6 h ⟨by lia,by lia⟩ λa a0 a1 G1 f1=>?_⟩
 obtain⟨a,rfl⟩:=jW a0
 refine f9.mpr<| w6<| bin_w<| b8 (a:=.int a) (G':=G1) rfl<| j7 (as:= [.ref r,.int 4]) rfl rfl<| M6 f1.2.2 ⟨by decide,by decide⟩ λb b0 b1 G2 f2=>Z6.mpr ?_
 obtain⟨b,rfl⟩:=jW b0
 have f12:=f1.trans f2
 refine f9.mpr<| w6<| bin_w<| b8 (a:=.ref q) (G':=G2) rfl<| j7 (as:= [.ref r,.int 30]) rfl rfl<| M6 f12.2.2 ⟨by decide,by decide⟩ λc c0 c1 G3 f3=>?_
 have f13:=f12.trans f3
 obtain⟨d,hd,ed⟩:=bB2 (l:=(sg1++sg2).map D.str) c0 (by rw[zh];exact c1)
 obtain⟨s,hs,rfl⟩:=zW.mp hd
 refine(bR0 (f13.at hq e)).mpr ⟨_,ed,?_⟩
 refine f9.mpr<| w6<| j7 (as:= [.ref r,.int 5]) rfl rfl<| M6 f13.2.2 ⟨by decide,by decide⟩ λk k0 k1 G4 f4=>?_
 refine(eE0 (a:=a) (f:=a+b) hT (by lia) ⟨by lia,by lia⟩ (eF3 s hs)).mono ?_
 rintro _ _ ⟨z,rfl,hz,rfl⟩
 exact⟨z,rfl,hz,f13.trans f4⟩
theorem aM6(h:J8 G r)(hT:T.length<=800000):Wp (O2 [.ref r,.str T]) G λx G'=>∃z,x= .str z/\z.length<=T.length+41/\Fr r G G':=by
 have bg:=big
 have hlt:=h.lt
 refine t8 (show Wp (Z8 [sRf r,some (.str T),none,none,none,none,none]) G _ from ?_)
 rw[eQ3]
 refine v6 (X1:= [sRf r,some (.str T),some (.ref G.length),none,none,none,none]) (G':=G++[.lst (sg1.map D.str)]) rfl ?_
 refine f9.mpr<| w6<| bin_w<| b8 (a:=.ref G.length) (G':=G++[.lst (sg1.map D.str)]) rfl<| aA6.mpr ?_
 refine m7 (x:=.str "\n") rfl<| m7 (x:=.str "-0") rfl<| m7 (x:=.str "01") rfl<| m7 (x:=.str "[]") rfl<| m7 (x:=.str "{}") rfl<| m7 (x:=.str "\"\"") rfl<| m7 (x:=.str "b: 1") rfl<| m7 (x:=.str "false") rfl<| m7 (x:=.str "_") rfl ?_
 refine j6<| aB3 (x:=.str "1") (y:=.int 40) rfl rfl<| (dW7 (by decide +kernel)).mpr<| j6<| aB3 (x:=.str "1") (y:=.int 41) rfl rfl<| (dW7 (by decide +kernel)).mpr<| b8 (a:= [.str "a: "]) (G':=G++[.lst (sg1.map D.str)]) rfl ⟨sz,?_⟩
 refine(cJ2 (a:=sg1.map D.str) (b:=sg2.map D.str) (O9 m8) m8 (show 18+12<=zd by lia)).mpr ?_
 have f0:Fr r G (G++[.lst (sg1.map D.str)]++[.lst (sg2.map D.str)]++[.lst (sg1.map D.str++sg2.map D.str)]):=((Fr.app h).trans (Fr.app h.app)).trans (Fr.app h.app.app)
 refine(eF5 (q:=(G++[DO.lst (sg1.map D.str)]++[DO.lst (sg2.map D.str)]).length) f0.2.2 (by simp;lia) (by rw[yk];exact m8) hT).mono ?_
 rintro _ G1 ⟨z,rfl,hz,f1⟩
 exact o7 ⟨z,rfl,hz,f0.trans f1⟩
end
theorem eE9{x:Str}{E:DH->Prop}{fs:DSt->M (List D)}{U:DSt}{G:DH}{K:DPP}(w:We x E (fs U) G λds G1=>ds.length<=zd/\K (.ref G1.length) (G1++[.lst ds])):We x E (O3 fs U) G K:=by
 unfold O3
 refine Q6 (w.mono λds G1 q=>?_)
 rw[if_pos q.1]
 exact .inl (R9.mpr q.2)
theorem bR9{n:Nat}{d:D}{G:DH}{Q:DPP}(h:GV n d)(hn:n<=20)(hl:(shN n d).length<=900000)(q:∀G',Ap G G'->Q d G'):Wp (Q3 [.str (ofL (shN n d))]) G Q:=by
 have bg:=big
 have hz:(ofL (shN n d)).length<=zd:=by show (shN n d).length<=_;lia
 refine t8<| f9.mpr<| w6<| aE7 (as:= [.str (ofL (shN n d)),.int (([]:List Nat).length:Int),.int 1]) rfl rfl<| eV1 (N:=21) hz h (by lia) (by lia) (pre:= []) (post:= []) (by simp) (λ_ _ e=>nomatch e) λG1 j1=>?_
 refine f9.mpr<| M7<| u0<| bin_w<| b8 (a:=.int ((([]:List Nat).length:Int)+(shN n d).length)) (G':=G1) rfl<| aB2 (as:= [.str (ofL (shN n d))]) rfl<| (aA3 hz).mpr<| cX6.mpr ?_
 have e:((([]:List Nat).length:Int)+(shN n d).length)= ((ofL (shN n d)).length:Int):=by
  show ((0:Nat):Int)+_= ((shN n d).length:Int)
  simp
 rw[decide_eq_true e]
 exact⟨_,rfl,λz=>(nomatch z),λ_=>m5.mpr<| o8<| b8 (a:=d) (G':=G1) rfl<| o7 (q G1 j1)⟩
theorem eM3{n:Nat}{x y:D}(hx:GV n x)(hy:GV n y)(hn:n<=20)(hl:(shN n x).length<=900000)(e:shN n x=shN n y):x=y:=by
 have w1:=bR9 (G:= []) (Q:=λd _=>d=x) hx hn hl λ_ _=>rfl
 have w2:=bR9 (G:= []) (Q:=λd _=>d=y) hy hn (by rw[<-e];exact hl) λ_ _=>rfl
 rw[<-e]at w2
 obtain⟨a,G1,e1,rfl⟩:=w1
 obtain⟨b,G2,e2,rfl⟩:=w2
 rw[e1]at e2
 cases e2
 rfl
theorem dH1{T:Str}{G:DH}(hz:T.length<=900000):Wp (aC1 [.str T]) G λx G'=>x= .bl true/\Gr G G':=by
 have bg:=big
 refine t8<| v6 (X1:= [some (.str T),some (.ref G.length)]) (G':=G++[.lst []]) rfl<| f9.mpr<| eA1 (E:=Ap (G++[.lst []])) (Z3<| eE9<| aS2<| V8<| b8 (a:= [.str T]) (G':=G++[.lst []]) rfl ⟨rfl,(eN4 hz).mono λv G1 q=>?_⟩) λG1 j1=>?_
 · obtain⟨j1,gv,et⟩:=q
   refine .inl<| j8.mpr ⟨sz,?_⟩
   have hs:=dV9 gv
   have hl:=congrArg jh et
   rw[J9]at hl
   have e1:(G1++[DO.lst [v]])[G1.length]? =some (.lst [v]):=m8
   refine f9.mpr<| M7<| u0<| bin_w<| b8 (a:=.ref G1.length) (G':=G1++[.lst [v]]) rfl<| b8 (a:=.ref (G1++[DO.lst [v]]).length) (G':=G1++[.lst [v]]++[.lst []]) rfl<| (cG1 (O9 e1) m8).mpr ⟨_,rfl,λz=>(nomatch z),λ_=>m5.mpr ?_⟩
   have e2:(G1++[DO.lst [v]]++[DO.lst []])[G1.length]? =some (.lst [v]):=O9 e1
   have g0:Gr G (G1++[.lst [v]]++[.lst []]):=((Gr.app.trans j1.gr).trans Gr.app).trans Gr.app
   generalize G1++[.lst [v]]++[.lst []]=G2 at e2 g0
   refine o8<| cD7<| bin_w<| K5<| j6<| ixv (G1:=G2) rfl rfl e2 rfl<| j8.mpr<| N7.mpr ⟨rfl,(bV8 gv (by lia)).mono ?_⟩
   rintro _ G3 ⟨rfl,g3⟩
   refine b8 (a:=.bl true) (G':=G3) rfl<| dI4.mpr ⟨rfl,?_⟩
   refine bin_w<| K5<| j6<| ixv (G1:=G3) rfl rfl (g3.at e2) rfl<| j8.mpr<| N7.mpr ⟨rfl,dI1 (N:=21) gv (by decide) (by rw[<-et,J9];lia) λG4 j4=>?_⟩
   refine b8 (a:=.str T) (G':=G4) rfl<| aV2.mpr<| o7 ⟨?_,(g0.trans g3).trans j4.gr⟩
   rw[<-et,eW1,beq_self_eq_true]
 · refine w6<| aA6.mpr<| j8.mpr ⟨sz,?_⟩
   have e1:(G1++[DO.lst []])[G1.length]? =some (.lst []):=m8
   refine f9.mpr<| M7<| u0<| bin_w<| b8 (a:=.ref G1.length) (G':=G1++[.lst []]) rfl<| b8 (a:=.ref (G1++[DO.lst []]).length) (G':=G1++[.lst []]++[.lst []]) rfl<| (cG1 (O9 e1) m8).mpr ⟨_,rfl,λ_=>o8<| cQ3.mpr<| o7 ⟨rfl,((Gr.app.trans j1.gr).trans Gr.app).trans Gr.app⟩,λz=>nomatch z⟩
theorem fC2:cH7=m9 (aR4 (aV5 (aX1 (w5 vE0 (J4) (J3 (cIn 63))))) (bZ8 2 (aH0 nG1 (aH0 nG2 (cE5)))) JF) JG:=rfl
noncomputable abbrev aB1(d:D):Prop:=Dr (B18+2) 20 400000 d
abbrev tx(d:D):D:=.str (ofL (shN 20 d))
theorem Dr.row{b n B:Nat}{d:D}(h:Dr b n B d)(hb:b<=B18+2)(hn:n<=20)(hB:B<=400000):aB1 d:=⟨((h.gv.le hb).up _ hn).1,zu h.ln hB⟩
theorem aB1.gv{d:D}(h:aB1 d):GV 20 d:=h.1.le (by decide)
theorem aB1.len{d:D}(h:aB1 d):(shN 20 d).length<=400000:=zu h.1.ln h.2
theorem aB1.vl{d:D}(h:aB1 d):Vl d:=⟨h.gv.vb.le (zj _) (by decide),by have:=dV9 h.gv;have:=h.len;lia⟩
noncomputable abbrev JS(p:Nat)(s1 s2:Option D)(r:Nat)(s4 s5:Option D)(a b:Nat)(s8 s9 s10 s11:Option D):DSt:= [sRf p,s1,s2,sRf r,s4,s5,sRf a,sRf b,s8,s9,s10,s11]
theorem ats{rs:List D}{i:Nat}{x:D}(h:rs[i]? =some x):atI (rs.map tx) (i:Int)=some (tx x):=atI_nat (by rw[jk,h];rfl)
section
variable{p r a b:Nat}{s1 s2 s4 s5 s8 s9 s10 s11:Option D}{rs:List D}
open Classical in
theorem eW7{i j:Nat}{x y:D}{G:DH}(ha:G[a]? =some (.lst rs))(hb:G[b]? =some (.lst (rs.map tx)))(hx:rs[i]? =some x)(hy:rs[j]? =some y)(rx:aB1 x)(ry:aB1 y):Wp (JB (JS p s1 s2 r s4 s5 a b (some (.int j)) (some (.int i)) s10 s11)) G λfl G'=>Gr G G'/\fl= .nx (JS p s1 s2 r s4 s5 a b (some (.int j)) (some (.int i)) s10 s11):=by
 refine M7<| u0<| bin_w<| bin_w<| ixv (G1:=G) rfl rfl hb (ats hx)<| ixv (G1:=G) rfl rfl hb (ats hy)<| aV2.mpr ?_
 refine K5<| j6<| ixv (G1:=G) rfl rfl ha (atI_nat hx)<| j6<| ixv (G1:=G) rfl rfl ha (atI_nat hy)<| j8.mpr<| N7.mpr ⟨rfl,(bS0 rx.vl ry.vl).mono ?_⟩
 rintro _ G1 ⟨rfl,g1⟩
 have e:(ofL (shN 20 x)==ofL (shN 20 y))=decide (x=y):=by
  rw[Yw,beq_iff_eq,decide_eq_true_iff]
  refine⟨λh=>eM3 rx.gv ry.gv (by decide) (zu rx.len (by decide)) (congrArg tl h),λh=>by rw[h]⟩
 refine eO6.mpr ⟨_,rfl,λz=>?_,λ_=>m5.mpr ⟨g1,rfl⟩⟩
 rw[e]at z
 simp at z
theorem cJ3{j:Nat}{y:D}(hy:rs[j]? =some y)(hr:∀x∈rs,aB1 x):∀(items:List Nat) (s9:Option D) (G:DH),(∀i∈items,i<rs.length)->G[a]? =some (.lst rs)->G[b]? =some (.lst (rs.map tx))->
 Wp (aE2 nG9 JB (λ_=>true) (items.map λi:Nat=>.int ((i:Nat):Int)) (JS p s1 s2 r s4 s5 a b (some (.int j)) s9 s10 s11)) G λfl G'=>Gr G G'/\∃s9,fl= .nx (JS p s1 s2 r s4 s5 a b (some (.int j)) s9 s10 s11)
 |[],s9,G,hi,ha,hb=>aJ4.mpr ⟨rfl,Gr.refl,_,rfl⟩
 |i::t,s9,G,hi,ha,hb=>by
   have hx:=zv (hi i (zr ..))
   refine aI5.mpr ⟨rfl,Q4.mpr<| (eW7 ha hb hx hy (hr _ (jO _)) (hr _ (jn hy))).mono ?_⟩
   rintro _ G1 ⟨g1,rfl⟩
   refine(cJ3 hy hr t _ G1 (λi h=>hi i (zw _ h)) (g1.at ha) (g1.at hb)).mono λfl G2 q=>?_
   exact⟨g1.trans q.1,q.2⟩
open Classical in
theorem eS0{j:Nat}{y:D}{G:DH}(hr:∀x∈rs,aB1 x)(hl:rs.length=5)(ha:G[a]? =some (.lst rs))(hb:G[b]? =some (.lst (rs.map tx)))(hy:rs[j]? =some y):Wp (JA (JS p s1 s2 r s4 s5 a b (some (.int j)) s9 s10 s11)) G λfl G'=>Gr G G'/\∃s9,fl= .nx (JS p s1 s2 r s4 s5 a b (some (.int j)) s9 s10 s11):=by
 have ry:=hr _ (jn hy)
 have hj:j<rs.length:=(jM.mp hy).1
 refine f9.mpr<| M7<| u0<| bin_w<| K5<| j6<| K5<| j6<| ixv (G1:=G) rfl rfl hb (ats hy)<| j8.mpr<| bN3.mpr ⟨rfl,bR9 ry.gv (by decide) (zu ry.len (by decide)) λG1 j1=>?_⟩
 refine j6<| ixv (G1:=G1) rfl rfl (j1.at ha) (atI_nat hy)<| j8.mpr<| N7.mpr ⟨rfl,(bS0 ry.vl ry.vl).mono ?_⟩
 rintro _ G2 ⟨rfl,g2⟩
 rw[decide_eq_true rfl]
 refine b8 (a:=.bl true) (G':=G2) rfl<| dR2.mpr ⟨_,rfl,λz=>(nomatch z),λ_=>m5.mpr ?_⟩
 have g02:=j1.gr.trans g2
 refine aP0.mpr<| rng1.mpr<| m7 (x:=.int j) rfl<| j8.mpr<| (rng1_int ⟨by lia,by lia⟩).mpr ?_
 rw[jA,bT1]
 refine(cJ3 hy hr (ja j) _ G2 (λi h=>by have:=yr.mp h;lia) (g02.at ha) (g02.at hb)).mono λfl G3 q=>?_
 exact⟨g02.trans q.1,q.2⟩
theorem cK2(hr:∀x∈rs,aB1 x)(hl:rs.length=5):∀(items:List Nat) (s8 s9:Option D) (G:DH),(∀i∈items,i<rs.length)->G[a]? =some (.lst rs)->G[b]? =some (.lst (rs.map tx))->
 Wp (aE2 nG8 JA (λ_=>true) (items.map λi:Nat=>.int ((i:Nat):Int)) (JS p s1 s2 r s4 s5 a b s8 s9 s10 s11)) G λfl G'=>Gr G G'/\∃s8 s9,fl= .nx (JS p s1 s2 r s4 s5 a b s8 s9 s10 s11)
 |[],s8,s9,G,hi,ha,hb=>aJ4.mpr ⟨rfl,Gr.refl,_,_,rfl⟩
 |i::t,s8,s9,G,hi,ha,hb=>by
   have hx:=zv (hi i (zr ..))
   refine aI5.mpr ⟨rfl,Q4.mpr<| (eS0 hr hl ha hb hx).mono ?_⟩
   rintro _ G1 ⟨g1,s9,rfl⟩
   refine(cK2 hr hl t _ _ G1 (λi h=>hi i (zw _ h)) (g1.at ha) (g1.at hb)).mono λfl G2 q=>?_
   exact⟨g1.trans q.1,q.2⟩
theorem cN3{q:Nat}{L:List D}:∀(items:List Str) (s11:Option D) (G:DH),(∀z∈items,z.length<=900000)->G[q]? =some (.lst L)->
 Wp (aE2 (q14 11) JC (ckO q (.lst L)) (items.map D.str) (JS p s1 s2 r s4 s5 a b s8 s9 s10 s11)) G λfl G'=>Gr G G'/\∃s11,fl= .nx (JS p s1 s2 r s4 s5 a b s8 s9 s10 s11)
 |[],s11,G,hi,e=>aJ4.mpr ⟨bX9 e,Gr.refl,_,rfl⟩
 |z::t,s11,G,hi,e=>by
   refine aI5.mpr ⟨bX9 e,Q4.mpr<| cK8<| V4<| j7 (as:= [.str z]) rfl rfl<| (dH1 (hi z (zr ..))).mono ?_⟩
   rintro _ G1 ⟨rfl,g1⟩
   refine⟨rfl,rfl,m5.mpr<| (cN3 t _ G1 (λi h=>hi i (zw _ h)) (g1.at e)).mono λfl G2 q=>?_⟩
   exact⟨g1.trans q.1,q.2⟩
theorem eS2{x y:D}{G:DH}(h:J8 G r)(hbr:b≠r)(hb:G[b]? =some (.lst (rs.map tx)))(hx:rs[0]? =some x)(hy:rs[1]? =some y)(rx:aB1 x)(ry:aB1 y):Wp (JD (JS p s1 s2 r s4 s5 a b s8 s9 s10 s11)) G λfl G'=>∃s10 s11,fl= .nx (JS p s1 s2 r s4 s5 a b s8 s9 s10 s11)/\∃G1,Fr r G G1/\Gr G1 G':=by
 have bg:=big
 have lx:(ofL (shN 20 x)).length<=400000:=rx.len
 have ly:(ofL (shN 20 y)).length<=400000:=ry.len
 refine f9.mpr<| w6<| K5<| m7 (x:=.ref r) rfl<| j6<| ixv (G1:=G) rfl rfl hb (ats hx)<| j8.mpr<| N7.mpr ⟨rfl,(aM6 h (by lia)).mono ?_⟩
 rintro _ G1 ⟨z1,rfl,l1,f1⟩
 refine aP0.mpr<| aP2.mpr<| aA6.mpr<| m7 (x:=.str z1) rfl<| j6<| j7 (as:= [.ref r,.str z1]) rfl rfl<| (aM6 f1.2.2 (by lia)).mono ?_
 rintro _ G2 ⟨z2,rfl,l2,f2⟩
 have f02:=f1.trans f2
 refine j6<| K5<| m7 (x:=.ref r) rfl<| j6<| ixv (G1:=G2) rfl rfl (f02.at hbr hb) (ats hy)<| j8.mpr<| N7.mpr ⟨rfl,(aM6 f02.2.2 (by lia)).mono ?_⟩
 rintro _ G3 ⟨z3,rfl,l3,f3⟩
 have f03:=f02.trans f3
 refine j6<| j7 (as:= [.ref r,.str ""]) rfl rfl<| (aM6 f03.2.2 (show (0:Nat)<=_ by decide)).mono ?_
 rintro _ G4 ⟨z4,rfl,l4,f4⟩
 have f04:=f03.trans f4
 refine j8.mpr ⟨sz,(bD0 m8).mpr<| (cN3 [z1,z2,z3,z4] _ _ (λz hz=>?_) m8).mono ?_⟩
 · simp only[zi,zn,or_false]at hz
   have l4:z4.length<=0+41:=l4
   rcases hz with rfl|rfl|rfl|rfl<;>lia
 · rintro _ G5 ⟨g5,s11,rfl⟩
   exact⟨_,_,rfl,_,f04.trans (Fr.app f04.2.2),g5⟩
theorem eO8{s7:Option D}{G:DH}(h:J8 G r)(hr:∀x∈rs,aB1 x)(hl:rs.length=5)(har:a≠r)(ha:G[a]? =some (.lst rs)):Wp (JE [sRf p,s1,s2,sRf r,s4,s5,sRf a,s7,s8,s9,s10,s11]) G λfl G'=>∃ U,fl= .nx (some (.ref p)::U)/\U.length=11/\∃G1,Fr r G G1/\Gr G1 G':=by
 have bg:=big
 have hlt:=h.lt
 refine f9.mpr<| w6<| wp_comp.mpr<| aP2.mpr<| b8 (a:=.ref a) (G':=G) rfl<| (bD0 ha).mpr ⟨by show rs.length<=_;lia,?_⟩
 refine(X7 (Ap G) One tx (λG' j=>bX9 (j.at ha)) _ _ G ⟨_,rfl⟩ Ap.refl ?_).mono ?_
 · rintro x hx _ G1 ⟨u,rfl⟩ j
   have rx:=hr x hx
   exact aS7 ⟨_,rfl⟩ (j7 (as:= [x]) rfl rfl<| dI1 (N:=21) rx.gv (by decide) (zu rx.len (by decide)) λG2 j2=>⟨j.trans j2,rfl⟩)
 rintro _ G1 ⟨j1,rfl⟩
 have g1:Gr G (G1++[.lst (rs.map tx)]):=j1.gr.trans Gr.app
 have hb:(G1++[DO.lst (rs.map tx)])[G1.length]? =some (.lst (rs.map tx)):=m8
 have l1:=j1.len
 generalize G1++[DO.lst (rs.map tx)]=G2 at g1 hb
 refine f9.mpr<| aP0.mpr<| rng1.mpr<| m7 (x:=.int 5) rfl<| j8.mpr<| (rng1_int ⟨by decide,by decide⟩).mpr ?_
 rw[show (5:Int).toNat=5 from rfl,bT1]
 refine(cK2 hr hl (ja 5) _ _ G2 (λi h=>by have:=yr.mp h;lia) (g1.at ha) hb).mono ?_
 rintro _ G3 ⟨g3,s8,s9,rfl⟩
 have h3:J8 G3 r:=by
  obtain⟨a,b,c,e,q⟩:=h
  exact⟨a,b,c,e,(g1.trans g3).at q.1,q.2⟩
 have f3:Fr r G G3:=⟨(g1.trans g3).1,λi hi hl=>(g1.trans g3).2 i hl,h3⟩
 have x0:rs[0]? =some rs[0]:=zv (by lia)
 have x1:rs[1]? =some rs[1]:=zv (by lia)
 refine(eS2 h3 (by lia) (g3.at hb) x0 x1 (hr _ (jO _)) (hr _ (jO _))).mono ?_
 rintro _ G4 ⟨s10,s11,rfl,G5,f5,g5⟩
 exact⟨_,rfl,rfl,G5,f3.trans f5,g5⟩
end
theorem eQ2{ns:List Int}{p:Nat}{k c:Int}{G:DH}{s3 s4 s5 s6 s7 s8 s9 s10 s11:Option D}(e:G[p]? =some (.rol (ns.map D.int)))(hk:0<=k/\k<64):Wp (JF [sRf p,some (.int k),some (.int c),s3,s4,s5,s6,s7,s8,s9,s10,s11]) G λfl G'=>Gr G G'/\∃ U,fl= .nx (some (.ref p)::U)/\U.length=11:=by
 refine f9.mpr<| w6<| j7 (as:= [.ref p,.int c,.int k]) rfl rfl<| (dM3 e hk).mono ?_
 rintro _ G1 ⟨r,rfl,hr,hh,g1⟩
 refine f9.mpr<| w6<| j7 (as:= [.ref r,.int 18]) rfl rfl<| (dD6 hh).mono ?_
 rintro v G2 ⟨hv,f2⟩
 refine f9.mpr<| w6<| j7 (as:= [.ref r,v]) rfl rfl<| (bN4 f2.2.2 hv (by decide) (by decide) (by decide)).mono ?_
 rintro w G3 ⟨hw,f3⟩
 have f13:=f2.trans f3
 refine f9.mpr<| w6<| aA6.mpr<| m7 (x:=v) rfl<| m7 (x:=w) rfl<| j6<| j7 (as:= [.ref r,w]) rfl rfl<| (bN4 f13.2.2 hw (by decide) (by decide) (by decide)).mono ?_
 rintro x G4 ⟨hx,f4⟩
 have f14:=f13.trans f4
 refine j6<| j7 (as:= [.ref r,v]) rfl rfl<| (bN4 f14.2.2 hv (by decide) (by decide) (by decide)).mono ?_
 rintro y G5 ⟨hy,f5⟩
 have f15:=f14.trans f5
 refine j6<| j7 (as:= [.ref r,.int 2]) rfl rfl<| (bW5 1 6 2 G5 (by decide) (by decide) f15.2.2).mono ?_
 rintro z G6 ⟨hz,f6⟩
 have f16:=f15.trans f6
 have hlt:=f16.2.2.lt
 refine j8.mpr ⟨sz,?_⟩
 have f17:=f16.trans (Fr.app (t:= [.lst [v,w,x,y,z]]) f16.2.2)
 refine(eO8 (rs:= [v,w,x,y,z]) f17.2.2 (λd hd=>?_) rfl (by lia) m8).mono ?_
 · simp only[zi,zn,or_false]at hd
   rcases hd with rfl|rfl|rfl|rfl|rfl
   ·exact hv.row (by decide) (by decide) (by decide)
   ·exact hw.row (by decide) (by decide) (by decide)
   ·exact hx.row (by decide) (by decide) (by decide)
   ·exact hy.row (by decide) (by decide) (by decide)
   ·exact hz.row (by decide) (by decide) (by decide)
 · rintro _ G8 ⟨U,rfl,WP,G7,f7,g7⟩
   exact⟨(Gr.of g1 (f17.trans f7) hr).trans g7,U,rfl,WP⟩
theorem cG3{ns:List Int}{p q:Nat}{L:List D}:∀(cs:List Int) (k:Nat) (U:DSt) (G:DH),U.length=11->G[p]? =some (.rol (ns.map D.int))->G[q]? =some (.lst L)->k+cs.length<=63->
 Wp (aE2 (bZ8 2 (aH0 nG1 (aH0 nG2 cE5))) JF (ckO q (.lst L)) (((cs.map D.int).zipIdx k).map λp=>.tup [.int ((p.2:Nat):Int),p.1]) (some (.ref p)::U)) G λfl G'=>Gr G G'/\∃ U,fl= .nx (some (.ref p)::U)
 |[],k,U,G,WP,e,et,hk=>by
   simp only[Xx,Yt]
   exact aJ4.mpr ⟨bX9 et,Gr.refl,_,rfl⟩
 |c::r,k,U,G,WP,e,et,hk=>by
   simp only[zA,Ym]
   simp only[zp]at hk
   match U,WP with
   |[s1,s2,s3,s4,s5,s6,s7,s8,s9,s10,s11],_=>
     refine aI5.mpr ⟨bX9 et,?_⟩
     refine b8 (a:= [sRf p,some (.int k),some (.int c),s3,s4,s5,s6,s7,s8,s9,s10,s11]) (G':=G) rfl ?_
     refine(eQ2 e ⟨by lia,by lia⟩).mono ?_
     rintro _ G1 ⟨g1,U,rfl,WP⟩
     refine(cG3 r (k+1) U G1 WP (g1.at e) (g1.at et) (by lia)).mono λfl G2 z=>?_
     exact⟨g1.trans z.1,z.2⟩
noncomputable abbrev v4:D:=.tup [.str v9,.tup [.int 0,.bl false,.bl true,.int 1]]
theorem eT0:aB1 v4:=by
 refine(Dr.l (b:=B18) (n:=1) (B:=50) (k:=4) (l:= [.int 0,.bl false,.bl true,.int 1]) (by decide) (zj _) λx hx=>?_).row (by decide) (by decide) (by decide)
 simp only[zi,zn,or_false]at hx
 rcases hx with rfl|rfl|rfl|rfl
 ·exact .i (by decide) (by decide)
 ·exact .b
 ·exact .b
 ·exact .i (by decide) (by decide)
theorem eU1:("[0, false, true, 1]" :Str)=ofL (shN 20 v4):=aF7 (by decide +kernel)
open Classical in
theorem eR9{U:DSt}{G:DH}:Wp (JG U) G λfl _=>fl= .rt (.bl true):=by
 have r:=eT0
 refine o8<| bin_w<| K5<| j6<| aE7 (as:= [.str (ofL (shN 20 v4))]) (G1:=G) (by rw[<-eU1];rfl) rfl<| bR9 r.gv (by decide) (zu r.len (by decide)) λG1 j1=>?_
 refine b8 (a:= [v4]) (G':=G1) rfl<| N7.mpr ⟨rfl,(bS0 r.vl r.vl).mono ?_⟩
 rintro _ G2 ⟨rfl,g2⟩
 rw[decide_eq_true rfl]
 exact b8 (a:=.bl true) (G':=G2) rfl<| dI4.mpr rfl
theorem dL6(ns:List Int)(hn:ns.length<=63):Wp (dJ7 [.ref 0]) [.rol (ns.map D.int)] λd _=>d= .bl true:=by
 have e0:([DO.rol (ns.map D.int)]:DH)[0]? =some (.rol (ns.map D.int)):=rfl
 generalize hG:([DO.rol (ns.map D.int)]:DH)=G at *
 refine t8 (show Wp (cH7 [sRf 0,none,none,none,none,none,none,none,none,none,none,none]) G _ from ?_)
 rw[fC2]
 obtain⟨cs,ec,hc⟩:=eX4 ns
 refine f9.mpr<| aP0.mpr<| dC7.mpr<| j6<| J0.mpr<| b8 (a:=.ref 0) (G':=G) rfl<| b8 (a:=none) (G':=G) rfl<| b8 (a:=some 63) (G':=G) rfl<| (dQ9 e0).mpr<| j8.mpr<| (dB4 m8).mpr ?_
 simp only[ec]
 refine(cG3 (ns:=ns) cs 0 _ _ rfl (O9 e0) (by rw[<-ec];exact m8) (by lia)).mono ?_
 rintro _ G2 ⟨g2,U,rfl⟩
 refine eR9.mono ?_
 rintro _ G3 rfl
 exact o7 rfl
theorem pure_law:∀ns:List Int,ns.length<=63->∃G',dJ7 [.ref 0] [.rol (ns.map D.int)]=some (.ok (.bl true),G'):=λns hn=>by
 obtain⟨d,G',e,rfl⟩:=dL6 ns hn
 exact⟨G',e⟩
end W
namespace PySem.W.Fast
def tw1572276788270996704:=()
def tw11901317450997924449:=()
def tw6299892172264650277:=()
def tw8974880376422023298:=()
def tw7666754397935599792:=()
def tw17930825487595180227:=()
def tw1095806789907221371:=()
def tw1555430577824221240:=()
def tw17269872599564989897:=()
def tw2182337322631676338:=()
def tw15190087963817194672:=()
def tw8743030553224033668:=()
def tw12448441074265530252:=()
def tw8190111409177064533:=()
def tw4050363576666028896:=()
def tw12116729816317086807:=()
def tw1406742062424036164:=()
def tw9251930726871848399:=()
def tw8385769220473452303:=()
def tw13733277480709340772:=()
def tw11590172404332413456:=()
def tw17884084963924813632:=()
def tw7084693104738152400:=()
def tw3812012231924945310:=()
def tw5985168771496370667:=()
def tw7685510919142122091:=()
def tw16729836277383683317:=()
def tw161305437283976819:=()
def tw8850505661894643375:=()
def tw10184980811926177886:=()
def tw11203426943075797195:=()
def tw7579268377139621531:=()
def tw5438648964110811145:=()
def tw16306567984167624066:=()
def tw2140675240437333461:=()
def tw4155866493674791956:=()
def tw2055892631276541077:=()
def tw12199919118739433341:=()
def tw5717169127866611668:=()
def tw13584613691830341746:=()
def tw8138056983231039678:=()
def tw15456051556783904573:=()
def tw4806478728478036248:=()
def tw7944209620181883581:=()
end PySem.W.Fast
local macro_rules | `(tactic| walk_at "fh") => `(tactic| first | exact trivial | (refine DL.FHs.c ?q ?b; (case q => refine' DL.FH.of ?a ?l ?e ?k; (case a => k_is); (case l => k_is); (case e => k_is); (case k => k_is)); (case b => walk_at "fh")))
local macro_rules | `(tactic| walk_at "cr") => `(tactic| first | exact DL.cr_str | exact DL.cr_int | exact DL.cr_bl | exact DL.cr_non | (refine' DL.cr_tup ?l ?z ?h; (case l => k_is); (case z => rfl); (case h => walk_at "cs")))
local macro_rules | `(tactic| walk_at "cs") => `(tactic| first | exact DL.crl_nil | (refine' DL.crl_cons ?a ?b; (case a => walk_at "cr"); (case b => walk_at "cs")))
set_option maxRecDepth 100000 in
set_option maxHeartbeats 0 in
theorem PySem.Challenge.cw_allmeet_k07_whole_texts_and_values_holds : PySem.Challenge.rw_allmeet_k07_whole_texts_and_values.Holds := by
 w_on;o_law;k_head;(case hw=>w_witness2)
 k_fill
 refine DL.walk63 (l := PySem.Challenge.rw_allmeet_k07_whole_texts_and_values) 89 rfl rfl ⟨rfl, by decide, by decide, rfl⟩ (fun w h Y => PySem.W.kIn_of Y) ?F
 case F=>
  intro w mg fa h KX G hmg
  refine' W.all_mk KX G hmg ?Y0 ?Y25 ?_ ?_ ?x_NoValue ?z W.pure_law
  (case x_NoValue=>refine' DL.XI.of ?xe ?xq;(case xe=>k_is);(case xq=>k_exc))
  (case z=>intro b hb;simp only[DL.bltL,zi,zn,or_false]at hb;rcases hb with rfl|rfl|rfl|rfl|rfl|rfl|rfl|rfl|rfl|rfl|rfl|rfl|rfl|rfl|rfl|rfl|rfl|rfl|rfl|rfl<;>k_is)
  (case Y0=>walk_at "fh")
  (case Y25=>walk_at "fh")
  all_goals (refine' DL.CC.of ?g ?r;(case g=>k_is);(case r=>walk_at "cr"))
