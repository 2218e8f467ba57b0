import PyProof.Rows.All
import Wide.All
import OpenK.AllK
import Wide.FinOn
import Lean
import PyProof.EqAt
import PyProof.EqKinds
import PyProof.TupleCall
import PyProof.NeKinds
import PyProof.ZipIter
import PyProof.EnumFor
import PyProof.EnumMake
import PyProof.EnumStmt
import PyProof.Draws
import KE.KDictSum
import PyProof.Rows.SortStr
import PyProof.StrWalks
import KE.KRevIter
import KE.KDictList
import PyProof.CollectIter
import PyProof.SliceStr2
import PyProof.StrBlockI
import KE.KListMore
import PyProof.DictWalks
import PyProof.TupleOfSeq
import PyProof.AttrMissHeap
import PyProof.AttrMissSeq
import KE.KDictOf
import PyProof.WalksMore
import KE.KSortTup
import KE.KSortKey
import PyProof.Rows.StrJoin2
import PyProof.ListMulRoad
import PyProof.FactsAll.tuple_2
import PyProof.Rows.SortShell
import PyProof.WalkInts
import KE.KMinBuiltin
import KE.KIntText
import PyProof.CallStr
import PyProof.PureStr
import PyProof.Rows.SetFrom
import KE.KMinKey
import PyProof.DictItems
import PyProof.DictItemsLoops
import PyProof.ReprRoads
import PySem.Challenge.RW_allmeet_k14_what_is_a_set
set_option Elab.async false
set_option linter.all false
set_option maxRecDepth 100000
open PySem renaming wpAny_bind→za,Value→ze,sizeLine→zh,Shared→zm,wpAny_pure→zt,wpAny→zy,Program→zE,model→zH,starEach→zJ,Around→zK,compareOp→zL,World→zP,bootBuiltins→zR,wpAny_loadPart'→jg,mainGlobals→ji,wpAny_field→jj,FuncData→jm,wpAny_callSpecial?_slot→js,wpAny_newObj_type→jA,IsPair→jE,wpAny_call_entry→jH,wpAny_holding→jK,wpAny_seqItems→jS,binaryOp→jT,wpAny_mono→yb,wpAny_setField_rec→ym,mem_of_lookup→yp,cLine→yq,rawInt→yH,wpAny_truthy_bool→xi,wpAny_Call_Name_kw→xL,MulOk→Ze,wpAny_typeOf→Zi,richCompare_meets_room→Zj,wpAny_updateSeq→Zl,wpAny_execs_nil→Zm,codeAny_builtin→Zn,wpAny_updateSeq_pair→Zv,wpAny_onRaise→ZH,wpAny_attempt→ZI,plainId_quiet→ZJ,wpAny_rule→ZP,typeIs_str→ZQ,tupleKind_room_in1→ZR,wpAny_sequenceKey→Yb,wpAny_pyIter_list→Yc,slot_list_getitem→Yd,wpAny_pyIter_zip→Ys,noFill_tuple_add→Yt,wpAny_letGo→YE,wpAny_getItem_list_slice→Xi,seq_tuple_add→Xj,evalPart_none→Xk,call→Xl,wpAny_getItem_str_slice→Xu,seqIndex_neg→XD,concat_meets→XE,codeAny_mono→XF,builtinLookup_eq_fast→XM,sizeLine_eq→XY,seqIndex_of→XZ,wpAny_pyIter_tuple→Jk,wpAny_Name→Jl,call_meets→Jm,wpAny_pyIter_enum→Js,wpAny_pyIter_dict→Jt,wpAny_isInstance→Jw,wpAny_forIn_list→Jx,wpAny_execs_cons→Jy,wpAny_specialOf→JH,wpAny_passesOwn→JI,typeLookup_type→JJ
open List renaming mem_cons_self→zc,mem_cons_of_mem→zf,mem_cons→zi,all_eq_true→zn,length_map→zo,length_cons→zp,mem_singleton→zq,size_toArray→zr,not_mem_nil→zu,mem_map→zw,length_append→zx,all_cons→zB,getElem?_eq_getElem→zD,getElem?_set_self→zF,mem_append→zG,getElem?_cons_zero→zI,getElem?_append_left→zQ,map_cons→zS,mem_append_right→zV,append_assoc→zZ,replicate→jb,length_nil→jk,getElem?_map→jl,getElem?_eq_none→jn,map_append→jo,any_cons→jq,getElem?_eq_some_iff→ju,zip_cons_cons→jv,length_range→jy,range→jB,mem_of_getElem?→jC,nil_append→jJ,getElem?_set_ne→jM,getD_eq_getElem?_getD→jO,all_append→jR,getElem?_zip_eq_some→jU,all_nil→jW,mem_of_mem_drop→jY,mem_append_left→jZ,eq_nil_of_length_eq_zero→ya,lookup_cons→ye,length_drop→yf,pairwise_cons→yg,mem_iff_getElem?→yi,length_singleton→yj,drop_eq_getElem_cons→yk,append_nil→yn,mergeSort_perm→yr,length_take→yt,take_of_length_le→yB,of_mem_zip→yD,mem_of_mem_take→yG,all_map→yK,length_zip→yQ,find?_cons→yR,pairwise_singleton→yV,getElem?_cons_succ→yW,mem_range→yY,cons_lt_cons_iff→xg,pairwise_append→xm,mem_filter→xo,forIn_cons→xp,dropLast_concat_getLast→xq,length_reverse→xv,instMembership→xw,filterMap_cons→xx,getElem?_drop→xD,getElem?_append_right→xE,reverse_cons→xJ,prefix_refl→xQ,mem_flatMap→xR,map_nil→xT,drop_eq_nil_of_le→xU,nodup_cons→xX,dropLast_eq_take→Zc,length→Zg,forIn_nil→Zh,map_map→Zz,getElem?_set→ZB,flatMap_cons→ZC,zipIdx_cons→ZM,cons_append→ZN,any_eq_true→ZO,zipIdx_nil→ZZ,nodup_nil→Yq,lt_irrefl→Yr,pairwise_mergeSort→YL,getElem?_replicate→YM,filter_cons_of_pos→YN,filter_cons_of_neg→YO,range_succ_eq_map→YT,set_append_right→YY,getElem?_of_mem→Xh,getElem?_range→Xr,filter_sublist→Xs,set_cons_zero→XA,mem_filterMap→XB,take_sublist→XL,map_fst_zip→XU,getElem_mem→XV,drop_length→XW,append_inj'→XX,range_succ→Jd,length_set→Je,filter_map→Jf,drop_zero→Jj,map_take→Jq,elem_iff→Jr
open Nat renaming le_refl→zd,le_trans→zv,lt_of_lt_of_le→zO,ne_of_lt→zW,zero_le→je,le_succ→jh,le_add_right→jx,lt_irrefl→yd,succ_le_succ→yy,not_lt_zero→yE,mul_le_mul_right→yI,le_of_lt→yN,le_of_eq→yO,lt_succ_of_lt→yZ,lt_succ_self→xk,ne_of_gt→xA,min_eq_left→Zb,sub_succ_lt_self→Zk,lt_trans→ZE,lt_or_ge→ZG,min_eq_right→ZU,le_max_right→ZV,min_le_left→Yh,le_max_left→Yi,le_of_ble_eq_true→Xg,min_le_right→Jb,le_of_not_lt→Jc,le_antisymm→Ji,add_comm→JD
open Bool renaming and_eq_true→zg,true_and→zT,or_eq_false_iff→zU,not_eq_false'→zY,false_ne_true→jc,false_eq_true→jf,eq_false_iff→jr,and_true→jF,false_and→jP,and_false→yw,or_eq_true→yS,eq_iff_iff→yT,not_true→xl,not_not→xz,not_false→xF,and_assoc→xG,false_or→xK
open PySem.Heap renaming get?_push_of_some→zj,lt_size→zA,get?_push_size→zC,size_push→jX,get?_update_other→yc,get?_update_self→yh,SameBut→yJ,size_update→xN,get?_push_ne→XI,ExtBut→Jz
open PySem.W renaming Frag→zk,fnOf→jD,keepIn→jV,nsIn→yU,mg_of→xb,findIn→xr,codeIn→xt,methodObj→Zp,cellsFrom_some→Yu,specialIn→Xa,kitx_list→Xb,kitx_dict→Xc,instObj→Xv,WalkO→XO,isFn→Ja
open PySem.Builtin.SmallTypes renaming nextOf→zM,ownedTupleIsFree→ja,ownedTupleHandOut→xC
open Option.some renaming injEq→zN,inj→jd
open PyProof.Rows renaming slot_tuple_getitem→zX,callWith_type1→jw,slicePart_none→Zw,entry_tuple_getitem→ZD,args_tuple_getitem→ZS,tail_any→YX,tupleItemsOf_→Xq,subscriptTail_builtinR→XJ,Subscript_→Jp,Call_→Jv
open PySem.Builtin.Slice renaming slicePlaces→jp,sliceAdjust→jN,sliceApplied→yz,sliceFields→Zt,slicePartIndex→JB
open PySem.Builtin.Tuple renaming tupleExact→jt,tupleItemsOf→xf,tupleCompareSizes→Za,tupleIsExact→JA
open PySem.Str renaming ofString→jz,length_append→XR
open PySem.SeqAt renaming EqAt→jG,RcNeAt→xS,RcAt→Zq,ne_of_list_tuple→YJ,notIn_tupleAt→Xd,notIn_listAt→Xm,in_tupleAt→XG,in_listAt→XS
open PySem.Builtin.Str renaming occurrences→jI,subAt→YI
open PySem.Obj renaming mapSeq→jL,data_mapFields→XH
open Array renaming length_toList→jQ,getElem?_eq_getElem→yL,getElem?_toList→xc,toList→YQ,getElem?_eq_none→YR,toArray_toList→YZ,forIn_toList→Xt
open PySem.F renaming slot_zip_next→yo,slot_tuple_iterator_next→yM,plain_extend_loop→xB,args_tuple_add_2→xH,entry_tuple_add→xI,slot_tuple_add→xM,args_zip_next_1→xO,entry_zip_next→xV,slot_str_getitem→Yf,plainAttrs_list→Ym,args_tuple_iterator_next_1→YD,entry_tuple_iterator_next→YH,slot_list_extend→YV,slot_list_append→YW,slot_str_upper→Xo,slot_list_pop→Xw,entry_extend_loop→XT
open PySem.Builtin.List renaming listExtendWith→yx,listTooLong→xn,listSameRef→Zy,listItems→ZK
open False renaming elim→yA
open PySem.Paired renaming length→yC,snoc→Jo
open Classical renaming byContradiction→yF,choose→Zr,propDecidable→Ya
open Ne renaming symm→yP
open Int renaming emod_lt_of_pos→yX,toNat_natCast→xa,emod_nonneg→xy,eq_ofNat_of_zero_le→YU,ediv_one→JG
open PySem.Around renaming under_plainId→xh
open PySem.Unicode renaming upperOf→xj
open Membership renaming mem→xP
open Prod.mk renaming inj→xW
open PySem.SeqAt.EqAt renaming str_int→xY,int_str→xZ,same→Zs,none_bool→Yj,bool_none→Yk,bool_bool→Yl,str_none→Yv,str_bool→Yw,none_str→Yx,none_int→Yy,int_none→Yz,int_bool→YA,bool_str→YB,bool_int→YC,str_str→YF,int_int→YG
open List.cons renaming inj→Zd,injEq→Zx
open LawfulBEq renaming eq_of_beq→Zf
open Function renaming comp_def→Zo
open Option renaming isSome_map→Zu,map_some→ZL,isSome_iff_exists→Yo,map→Xf,getD_none→Xy,bind_some→Xz
open Iff renaming trans→ZW
open PySem.Heap.IsSliceOf renaming new→ZX
open PySem.AutoSeq1 renaming sub_tuple_tuple→ZY
open PySem.Heap.SameBut renaming update→Ye
open PySem.Calls renaming Name_function_global→Yg,call_function_entry→Yn,callWith_builtin→YK,spliced_cons→Xp,spliced_nil→Xx
open Nat.succ renaming inj→Yp
open PySem.Txt renaming slice→YS,mul→XQ
open PySem.PassesOwn renaming never→Xe
open PySem.PyData renaming hasDictAll→Xn
open LT renaming lt→Jg
open PySem.Value renaming isStrOf→Jh,isInt→Ju
open PySem.Shared renaming heap→Jn
open PySem.Builtin.Range renaming rangeSize→JC
open List.Pairwise renaming imp_of_mem→JE,and→JF
open PySem.SeqAt.RcNeAt renaming tuples→JK,tuple_list→JL,str_str→JM,str_none→JN,str_int→JO,str_bool→JP,none_str→JQ,none_none→JR,none_int→JS,none_bool→JT,lists_lengths→JU,lists→JV,list_tuple→JW,int_str→JX,int_none→JY,int_int→JZ
noncomputable section
abbrev VSP:=ze->zm->Prop
abbrev PNS:=List (PySem.Addr×PySem.Obj)
namespace L2
open PySem PySem.Spec PyProof.Rows
theorem J4{α:Type}{a:α}{P:Prop}(h:none=some a):P:=nomatch h
theorem eL1{α:Type}{a:α}{P:Prop}(h:some a=none):P:=nomatch h
theorem aN7{P:Prop}(h:false=true):P:=nomatch h
theorem bQ8{α:Type}{a:α}{l:List α}{P:Prop}(h: []=a::l):P:=nomatch h
theorem cH8{α:Type}{a:α}{l:List α}{P:Prop}(h:a::l= []):P:=nomatch h
noncomputable abbrev Key:=Sum Int Str
noncomputable def bY2:Key->ze->Bool
 | .inl k,v=>Ju k v
 | .inr x,v=>Jh x v
noncomputable def gA2(w:zP):Key->Int
 | .inl k=>hashInt k
 | .inr x=>hashStr w x
theorem S8:∀ {k:Key} {v:ze},bY2 k v=true->(∃i t,k=Sum.inl i/\v=Value.int i t)\/(∃x t,k=Sum.inr x/\v=Value.str x t)
 | .inl i,v,h=>by
   obtain⟨t,e⟩:=Value.isInt_shape (k:=i) (v:=v) h
   exact .inl ⟨i,t,rfl,e⟩
 | .inr x,v,h=>by
   obtain⟨t,e⟩:=Value.isStrOf_shape (x:=x) (v:=v) h
   exact .inr ⟨x,t,rfl,e⟩
theorem dP3(i:Int)(t:Tok):bY2 (.inl i) (.int i t)=true:=by simp[bY2,Ju]
theorem dJ6(x:Str)(t:Tok):bY2 (.inr x) (.str x t)=true:=by simp[bY2,Jh]
theorem fA7(a b:Int):decide ((Sum.inl a:Key)=Sum.inl b)= (a==b):=by
 by_cases e:a=b
 ·subst e;simp
 · have h:¬(Sum.inl a:Key)=Sum.inl b:=λq=>e (Sum.inl.inj q)
   rw[decide_eq_false h]
   exact(beq_eq_false_iff_ne.mpr e).symm
theorem fD0(a b:Str):decide ((Sum.inr a:Key)=Sum.inr b)=decide (a=b):=by
 by_cases e:a=b
 ·subst e;simp
 · have h:¬(Sum.inr a:Key)=Sum.inr b:=λq=>e (Sum.inr.inj q)
   rw[decide_eq_false h,decide_eq_false e]
theorem fD2(a:Int)(b:Str):decide ((Sum.inl a:Key)=Sum.inr b)=false:=decide_eq_false (λq=>nomatch q)
theorem eW9(a:Str)(b:Int):decide ((Sum.inr a:Key)=Sum.inl b)=false:=decide_eq_false (λq=>nomatch q)
def V5(prog:zE)(w:zP):PySem.KeyKind prog w Key where
 is:=bY2
 hash:=gA2 w
 inj:=λv a b ha hb=>by
  rcases S8 ha with⟨i,t,rfl,rfl⟩|⟨x,t,rfl,rfl⟩
  · rcases S8 hb with⟨j,u,rfl,e⟩|⟨y,u,rfl,e⟩
    ·injection e with e1 _;rw[e1]
    ·exact nomatch e
  · rcases S8 hb with⟨j,u,rfl,e⟩|⟨y,u,rfl,e⟩
    ·exact nomatch e
    ·injection e with e1 _;rw[e1]
 byValue:=λk v h=>by
  rcases S8 h with⟨i,t,rfl,rfl⟩|⟨x,t,rfl,rfl⟩<;>rfl
 pyHash:=λhv h=>by
  rcases S8 hv with⟨i,t,rfl,rfl⟩|⟨x,t,rfl,rfl⟩
  ·exact wpAny_pyHash_int h
  ·exact wpAny_pyHash_str h
 eqBool:=λhu hv h=>by
  rcases S8 hu with⟨i,t,rfl,rfl⟩|⟨x,t,rfl,rfl⟩
  · rcases S8 hv with⟨j,u,rfl,rfl⟩|⟨y,u,rfl,rfl⟩
    ·rw[fA7]at h;exact wpAny_eqBool_int h
    ·rw[fD2]at h;exact xZ i t y u _ _ _ _ h
  · rcases S8 hv with⟨j,u,rfl,rfl⟩|⟨y,u,rfl,rfl⟩
    ·rw[eW9]at h;exact xY x t j u _ _ _ _ h
    ·rw[fD0]at h;exact wpAny_eqBool_str h
 «strs»:=λk x t v h=>by
  rcases S8 h with⟨i,u,rfl,e⟩|⟨y,u,rfl,e⟩
  ·exact nomatch e
  · injection e with e1 _
    subst e1
    cases v<;>rfl
theorem cU0(prog:zE)(w:zP)(i:Int)(t:Tok):(V5 prog w).is (.inl i) (.int i t)=true:=dP3 i t
theorem cT0(prog:zE)(w:zP)(x:Str)(t:Tok):(V5 prog w).is (.inr x) (.str x t)=true:=dJ6 x t
inductive V where
 |non|bl (b:Bool)|int (i:Int)|str (x:Str)|byt (b:Array UInt8)|flt (b:UInt64)|ref (a:Addr)|ty (n:String)
 deriving DecidableEq
noncomputable def M3:V->ze->Prop
 | .non,u=>u=Value.none
 | .bl b,u=>u=Value.bool b
 | .int i,u=>∃t,u=Value.int i t
 | .str x,u=>∃t,u=Value.str x t
 | .byt b,u=>∃t,u=Value.bytes b t
 | .flt b,u=>∃t,u=Value.float b t
 | .ref a,u=>u=Value.ref a
 | .ty n,u=>u=Value.type n
abbrev J7:List V->List ze->Prop:=Paired M3
theorem J7.length{xs:List V}{us:List ze}(r:J7 xs us):xs.length=us.length:=yC r
theorem J7.get:∀ {xs:List V} {us:List ze} {i:Nat} {x:V},J7 xs us->xs[i]? =some x->∃u,us[i]? =some u/\M3 x u
 |_,_,_,_,.nil,e=>by simp at e
 |_,_,0,_,.cons r _,e=>by simp at e;subst e;exact⟨_,rfl,r⟩
 |_,_,i+1,x,.cons _ t,e=>by
   obtain⟨u,h1,h2⟩:=J7.get (i:=i) (x:=x) t (by simpa using e)
   exact⟨u,by simpa using h1,h2⟩
theorem J7.set{x:V}{u:ze}(r:M3 x u):∀ {xs:List V} {us:List ze} (i:Nat),J7 xs us->J7 (xs.set i x) (us.set i u)
 |_,_,_,.nil=>.nil
 |_,_,0,.cons _ t=>.cons r t
 |_,_,i+1,.cons q t=>.cons q (J7.set r i t)
theorem J7.append{xs ys:List V}{us ws:List ze}(h:J7 xs us)(k:J7 ys ws):J7 (xs++ys) (us++ws):=by
 induction h with
 |nil=>exact k
 |cons r t ih=>exact .cons r ih
theorem J7.take:∀ {xs:List V} {us:List ze} (n:Nat),J7 xs us->J7 (xs.take n) (us.take n)
 |_,_,0,_=>.nil
 |_,_,_+1,.nil=>.nil
 |_,_,n+1,.cons r t=>.cons r (J7.take n t)
theorem J7.drop:∀ {xs:List V} {us:List ze} (n:Nat),J7 xs us->J7 (xs.drop n) (us.drop n)
 |_,_,0,r=>r
 |_,_,_+1,.nil=>.nil
 |_,_,n+1,.cons _ t=>J7.drop n t
def dL2:Option V->Option ze->Prop
 |some v,some u=>M3 v u
 |none,none=>True
 |_,_=>False
def KV{κ:Type}:List (κ×V)->List (κ×ze)->Prop:=Paired fun(p:κ×V) (q:κ×ze)=>p.1=q.1/\M3 p.2 q.2
noncomputable def kV:Key->V
 | .inl i=>.int i
 | .inr x=>.str x
inductive HO where
 /-- a list -/
 |lst (xs:List V)
 /-- a tuple (never changes) -/
 |tup (xs:List V)
 /-- a dict whose keys are ints and texts;one whose keys are tuples of ints and texts (the empty one is both) -/
 |dK (kvs:List (Key×V))|dT (kvs:List (List Key×V))
 /-- a set of ints:its members,its size -/
 |set (S:Int->Bool) (n:Nat)
 /-- an instance of the class at C,its dict at dx,its attributes -/
 |ins (C dx:Addr) (fs:List (Str×V))
 /-- the dict of the instance at x -/
 |own (x:Addr)
 /-- the dict of an exception -/
 |xd (fs:List (Str×V))
 /-- a bound method,f of x -/
 |met (f x:Addr)
 /-- a range object lo,lo+1,.. below hi -/
 |rng (lo hi:Int)
 /-- a thing that is known to the object (the script;a dict while a loop walks it):read,never written while it is so -/
 |frz (o:Obj) (u:HO)
 /-- a code object's table -/
 |tbl (ps:Array ze)
 /-- any other thing,by what is true of its one object (a def of one's own:SetO a S n:=HO.ext λh=>..) -/
 |ext (φ:Heap->Prop)
noncomputable abbrev Hp:=Addr->Option HO
noncomputable def upd(H:Hp)(a:Addr)(o:HO):Hp:=λb=>if b=a then some o else H b
theorem T7{H:Hp}{a:Addr}{o:HO}:upd H a o a=some o:=by unfold upd;rw[if_pos rfl]
theorem K5{H:Hp}{a b:Addr}{o:HO}(h:b≠a):upd H a o b=H b:=by unfold upd;rw[if_neg h]
theorem fV5{H:Hp}{a b:Addr}{o u:HO}(h:H a=some o)(h':H b=some u)(d:o≠u):a≠b:=by
 intro e;subst e;rw[h]at h';exact d (jd h')
theorem K7{H:Hp}{a b:Addr}{o:HO}(h:H a=some o)(h':H b=none):a≠b:=by
 intro e;subst e;rw[h]at h';cases h'
section
variable(P:zE)(w:zP)
noncomputable def aJ7(h:Heap)(a:Addr)(items:Array ze):Prop:=∃o,h.get? a=some o/\o.cls= .type "tuple"/\∃n,(o.data,o.dict)= (Data.seq items n,none)
theorem aJ7.tup{h:Heap}{a:Addr}{items:Array ze}(x:aJ7 h a items):IsTup h a items:=by
 obtain⟨o,e,c,n,d⟩:=x
 exact⟨o,e,c,n,(xW d).1⟩
theorem aJ7.new(h:Heap)(items:Array ze):aJ7 (h.push {cls:=.type "tuple",data:=.seq items}) h.objs.size items:=⟨_,zC _ rfl,rfl,_,rfl⟩
def W7(H:Hp)(h:Heap)(a:Addr):HO->Prop
 | .lst xs=>xs.length<=zh/\∃(its:List ze) (n:Nat),J7 xs its/\h.get? a=some {cls:=.type "list",data:=.seq its.toArray n}
 | .tup xs=>xs.length<=zh/\∃its:List ze,J7 xs its/\aJ7 h a its.toArray
 | .dK kvs=>kvs.length<=zh/\(a==sysModules)=false/\∃vs,KV kvs vs/\h.DictOf (V5 P w) a vs
 | .dT kvs=>kvs.length<=zh/\(a==sysModules)=false/\∃xs:List (List Key×Addr×ze),
    Paired (fun(p:List Key×V) (q:List Key×Addr×ze)=>p.1=q.1/\H q.2.1=some (.tup (p.1.map kV))/\M3 p.2 q.2.2) kvs xs/\
    ∃o es ep,h.get? a=some o/\o.ExactDict/\o.data= .dict es ep/\es.toList=xs.map (entryOfKey (tupleKind (V5 P w)))/\(xs.map (·.1)).Nodup
 | .set S n=>h.SetOf (intKind P w) a S n
 | .ins C dx fs=>H dx=some (.own a)/\fs.length<=1000/\dx≠a/\h.get? a=some (Xv C dx)/\
    ∃mA,h.Ns1 dx mA/\(∀f,dL2 (fs.lookup f) (mA f))/\PySem.Within mA (fs.map (·.1))
 | .own _=>∃o,h.get? a=some o
 | .xd fs=>∃mA,h.Ns1 a mA/\∀f,dL2 (fs.lookup f) (mA f)
 | .rng lo hi=>∃t u v,h.get? a=some {cls:=.type "range",data:=.fields #[.int lo t,.int hi u,.int 1 v]}
 | .frz o u=>h.get? a=some o/\W7 H h a u
 | .tbl ps=>h.get? a=some {cls:=.none,data:=.fields ps}
 | .met f x=>h.get? a=some (Zp (.ref f) (.ref x))
 | .ext φ=>φ h/\(∃o,h.get? a=some o)/\∀h1 h2:Heap,φ h1->(∀o,h1.get? a=some o->h2.get? a=some o)->φ h2
def HOk(H:Hp)(h:Heap):Prop:=∀a o,H a=some o->W7 P w H h a o
end
section
variable{P:zE}{w:zP}{H H':Hp}{h h':Heap}{a:Addr}{o:HO}
theorem W7.lt(x:W7 P w H h a o):a<h.objs.size:=by
 cases o with
 |lst xs=>obtain⟨_,_,_,_,e⟩:=x;exact zA e
 |tup xs=>obtain⟨_,_,_,p⟩:=x;exact(aJ7.tup p).lt
 |dK kvs=>obtain⟨_,_,_,_,o,_,_,e,_⟩:=x;exact zA e
 |dT kvs=>obtain⟨_,_,_,_,o,_,_,e,_⟩:=x;exact zA e
 |set S n=>obtain⟨o,_,_,_,e,_⟩:=x;exact zA e
 |ins C dx fs=>obtain⟨_,_,_,e,_⟩:=x;exact zA e
 |own y=>obtain⟨_,e⟩:=x;exact zA e
 |xd fs=>obtain⟨_,⟨_,_,_,e,_⟩,_⟩:=x;exact zA e
 |rng lo hi=>obtain⟨_,_,_,e⟩:=x;exact zA e
 |frz ob u=>obtain⟨e,_⟩:=x;exact zA e
 |tbl ps=>exact zA (show h.get? a=some _ from x)
 |met f y=>exact zA (show h.get? a=some _ from x)
 |ext φ=>obtain⟨_,⟨_,e⟩,_⟩:=x;exact zA e
theorem Paired.mapP{α β:Type}{F G:α->β->Prop}{l₁:List α}{l₂:List β}(h:Paired F l₁ l₂)(f:∀a b,F a b->G a b):Paired G l₁ l₂:=by
 induction h with
 |nil=>exact .nil
 |cons r t ih=>exact .cons (f _ _ r) ih
theorem W7.stay(x:W7 P w H h a o)(k:∀b u,(b=a\/H b=some (.own a))->h.get? b=some u->h'.get? b=some u)
 (ho:∀b,H b=some (.own a)->H' b=some (.own a)) (ht:∀b xs,H b=some (.tup xs)->H' b=some (.tup xs)):W7 P w H' h' a o:=by
 induction o with
 |lst xs=>obtain⟨z,its,n,r,e⟩:=x;exact⟨z,its,n,r,k _ _ (.inl rfl) e⟩
 |tup xs=>obtain⟨z,its,r,ob,e,c⟩:=x;exact⟨z,its,r,ob,k _ _ (.inl rfl) e,c⟩
 |dK kvs=>obtain⟨z,y,vs,r,ob,es,ep,e,c⟩:=x;exact⟨z,y,vs,r,ob,es,ep,k _ _ (.inl rfl) e,c⟩
 |dT kvs=>
   obtain⟨z,y,xs,r,ob,es,ep,e,c⟩:=x
   exact⟨z,y,xs,Paired.mapP r λp q z=>⟨z.1,ht _ _ z.2.1,z.2.2⟩,ob,es,ep,k _ _ (.inl rfl) e,c⟩
 |set S n=>obtain⟨ob,es,ep,t,e,c⟩:=x;exact⟨ob,es,ep,t,k _ _ (.inl rfl) e,c⟩
 |ins C dx fs=>
   obtain⟨d,z,ne,e,mA,⟨od,es,ep,e2,c⟩,r⟩:=x
   exact⟨ho _ d,z,ne,k _ _ (.inl rfl) e,mA,⟨od,es,ep,k _ _ (.inr d) e2,c⟩,r⟩
 |own y=>obtain⟨ob,e⟩:=x;exact⟨ob,k _ _ (.inl rfl) e⟩
 |xd fs=>obtain⟨mA,⟨od,es,ep,e,c⟩,r⟩:=x;exact⟨mA,⟨od,es,ep,k _ _ (.inl rfl) e,c⟩,r⟩
 |rng lo hi=>obtain⟨t,u,v,e⟩:=x;exact⟨t,u,v,k _ _ (.inl rfl) e⟩
 |frz ob u ih=>obtain⟨e,q⟩:=x;exact⟨k _ _ (.inl rfl) e,ih q⟩
 |tbl ps=>
   have e:h.get? a=some {cls:=.none,data:=.fields ps}:=x
   show h'.get? a=some {cls:=.none,data:=.fields ps}
   exact k a _ (.inl rfl) e
 |met f y=>
   have e:h.get? a=some (Zp (.ref f) (.ref y)):=x
   show h'.get? a=some (Zp (.ref f) (.ref y))
   exact k a _ (.inl rfl) e
 |ext φ=>obtain⟨p,⟨o,e⟩,st⟩:=x;exact⟨st _ _ p λo q=>k _ _ (.inl rfl) q,⟨o,k _ _ (.inl rfl) e⟩,st⟩
theorem HOk.lt(x:HOk P w H h)(e:H a=some o):a<h.objs.size:=(x a o e).lt
theorem HOk.fresh(x:HOk P w H h)(e:h.objs.size<=a):H a=none:=by
 cases q:H a with
 |none=>rfl
 |some u=>exact absurd (zO (x.lt q) e) (yd _)
theorem HOk.kept(x:HOk P w H h)(k:∀b u,h.get? b=some u->h'.get? b=some u):HOk P w H h':=λa o e=>
 (x a o e).stay (λb u _ q=>k b u q) (λ_ q=>q) λ_ _ q=>q
theorem HOk.laid(x:HOk P w H h)(k:∀b u,h.get? b=some u->h'.get? b=some u)(hp:h.objs.size<=a)(new:W7 P w (upd H a o) h' a o):HOk P w (upd H a o) h':=λb u e=>by
 have hn:=x.fresh hp
 by_cases hb:b=a
 ·subst hb;rw[T7]at e;cases e;exact new
 · rw[K5 hb]at e
   exact(x b u e).stay (λc v _ q=>k c v q) (λc q=>by rw[K5 (K7 q hn)];exact q) λc xs q=>by rw[K5 (K7 q hn)];exact q
end
noncomputable def Rd(H:Hp)(a:Addr)(u:HO):Prop:=H a=some u\/∃o,H a=some (.frz o u)
theorem Rd.ok{P:zE}{w:zP}{H:Hp}{h:Heap}{a:Addr}{u:HO}(r:Rd H a u)(x:HOk P w H h):W7 P w H h a u:=by
 rcases r with r|⟨o,r⟩
 ·exact x a u r
 · obtain⟨_,q⟩:=x a _ r
   exact q
noncomputable def Mut:Option HO->Prop
 |some (.lst _)=>True
 |some (.dK _)=>True
 |some (.dT _)=>True
 |some (.set _ _)=>True
 |some (.ins _ _ _)=>True
 |some (.ext _)=>True
 |_=>False
section
variable{P:zE}{w:zP}{H:Hp}{h h':Heap}{x e:Addr}{o':HO}
theorem HOk.write(ok:HOk P w H h)(mu:Mut (H x))(he:e=x\/H e=some (.own x))(k:∀b u,b≠e->h.get? b=some u->h'.get? b=some u)(heo:∃u,h'.get? e=some u)
 (new:W7 P w (upd H x o') h' x o'):HOk P w (upd H x o') h':=λb u q=>by
 have nown:∀c y,H c=some (.own y)->c≠x:=λc y r z=>by subst z;rw[r]at mu;exact mu
 have ntup:∀c xs,H c=some (.tup xs)->c≠x:=λc xs r z=>by subst z;rw[r]at mu;exact mu
 by_cases hb:b=x
 ·subst hb;rw[T7]at q;cases q;exact new
 · rw[K5 hb]at q
   by_cases hbe:b=e
   · have q':H b=some (.own x):=by
      rcases he with z|z
      ·exact absurd (hbe.trans z) hb
      ·rw[hbe];exact z
     rw[q]at q';cases q'
     obtain⟨v,hv⟩:=heo
     exact⟨v,by rw[hbe];exact hv⟩
   · refine(ok b u q).stay (λc v hc r=>k c v ?_ r) (λc r=>by rw[K5 (nown c b r)];exact r) λc xs r=>by rw[K5 (ntup c xs r)];exact r
     rcases hc with rfl|hc
     ·exact hbe
     · rintro rfl
       rcases he with z|z
       ·exact nown c b hc z
       ·rw[hc]at z;cases z;exact hb rfl
end
structure Un(fs ex:List Addr)(H H':Hp)(h h':Heap):Prop where
 keep:∀b o,h.get? b=some o->H b=none->b∉fs->b∉ex->h'.get? b=some o
 slot:∀b o,h.get? b=some o->H b=none->b∈fs->b∉ex->∃sl,h'.get? b=some {o with slots:=sl}
 free:∀b o,h.get? b=some o->H b=none->b∉ex->H' b=none
 there:∀b o,h.get? b=some o->b∉ex->∃o',h'.get? b=some o'
 tups:∀b xs,H b=some (.tup xs)->H' b=some (.tup xs)
 frzs:∀b o u,H b=some (.frz o u)->H' b=some (.frz o u)
 tbls:∀b ps,H b=some (.tbl ps)->∃more,H' b=some (.tbl (ps++more))
section
variable{fs fs' ex ex':List Addr}{H H1 H2:Hp}{h h1 h2 h':Heap}{a x e:Addr}{o:HO}
theorem Un.any(u:Un fs ex H H1 h h1){b:Addr}{ob:Obj}(q:h.get? b=some ob)(n:H b=none)(hx:b∉ex):∃sl,h1.get? b=some {ob with slots:=sl}:=by
 by_cases hb:b∈fs
 ·exact u.slot b ob q n hb hx
 ·exact⟨ob.slots,u.keep b ob q n hb hx⟩
theorem Un.kept(k:∀b u,h.get? b=some u->h'.get? b=some u):Un fs ex H H h h':=
 ⟨λb ob q _ _ _=>k b ob q,λb ob q _ _ _=>⟨ob.slots,k b ob q⟩,λ_ _ _ n _=>n,λb ob q _=>⟨ob,k b ob q⟩,λ_ _ q=>q,λ_ _ _ q=>q,λ_ ps q=>⟨#[],by rw[q];simp⟩⟩
theorem Un.refl:Un fs ex H H h h:=Un.kept λ_ _ q=>q
theorem Un.laid(k:∀b u,h.get? b=some u->h'.get? b=some u)(hp:h.objs.size<=a)(hn:H a=none):Un fs ex H (upd H a o) h h' where
 keep:=λb u q _ _ _=>k b u q
 slot:=λb u q _ _ _=>⟨u.slots,k b u q⟩
 free:=λb u q n _=>by rw[K5 (zW (zO (zA q) hp))];exact n
 there:=λb u q _=>⟨u,k b u q⟩
 tups:=λb xs q=>by rw[K5 (K7 q hn)];exact q
 frzs:=λb u xs q=>by rw[K5 (K7 q hn)];exact q
 tbls:=λb ps q=>⟨#[],by rw[K5 (K7 q hn),q];simp⟩
theorem Un.write(mu:Mut (H x))(he:e=x\/H e=some (.own x))(k:∀b u,b≠e->h.get? b=some u->h'.get? b=some u)(heo:∃u,h'.get? e=some u):Un fs ex H (upd H x o) h h':=by
 have hx:∀b,H b=none->b≠x:=λb n z=>by subst z;rw[n]at mu;exact mu
 have hb:∀b,H b=none->b≠e:=λb n z=>by
  subst z
  rcases he with r|r
  ·exact hx b n r
  ·rw[n]at r;cases r
 have hm:∀b u,H b=some u->¬Mut (some u)->b≠x:=λb u q nm z=>by subst z;rw[q]at mu;exact nm mu
 refine⟨λb u q n _ _=>k b u (hb b n) q,λb u q n _ _=>⟨u.slots,k b u (hb b n) q⟩,λb u q n _=>by rw[K5 (hx b n)];exact n,λb u q _=>?_,
  λb xs q=>by rw[K5 (hm b _ q λz=>z)];exact q,λb u xs q=>by rw[K5 (hm b _ q λz=>z)];exact q,λb ps q=>⟨#[],by rw[K5 (hm b _ q λz=>z),q];simp⟩⟩
 by_cases hbe:b=e
 ·subst hbe;exact heo
 ·exact⟨u,k b u hbe q⟩
end
noncomputable def trk(h:Heap)(H:Hp):List Addr:=(jB h.objs.size).filter λa=>(H a).isSome
def cJ8(h:Heap)(H:Hp):Heap:=PySem.W.hideAll h (trk h H)
theorem dQ0(h:Heap)(H:Hp):(cJ8 h H).objs.size=h.objs.size:=PySem.W.hideAll_size _ _
theorem dQ6{h:Heap}{H:Hp}{b:Addr}{o:Obj}(e:h.get? b=some o)(n:H b=none):(cJ8 h H).get? b=some o:=
 PySem.W.hideAll_get _ e λhm=>by
  have q:(H b).isSome=true:=(xo.mp hm).2
  rw[n]at q;simp at q
theorem eF8{h:Heap}{H:Hp}{b:Addr}{o:Obj}(e:(cJ8 h H).get? b=some o):h.get? b=some o/\H b=none:=by
 have e':h.get? b=some o:=PySem.W.of_hideAll (trk h H) e
 refine⟨e',?_⟩
 cases q:H b with
 |none=>rfl
 |some x=>
   have hm:b∈trk h H:=xo.mpr ⟨yY.mpr (zA e'),by simp[q]⟩
   have z:(cJ8 h H).get? b=none:=PySem.W.hideAll_none (trk h H) hm
   rw[z]at e;cases e
noncomputable def eJ4(g h:Heap)(L:Addr):PNS:=(jB h.objs.size).filterMap λa=>if a=L\/(g.get? a).isSome=true then none else (h.get? a).map λo=>(a,o)
def W9(g h:Heap)(L d:Addr):PNS:=(eJ4 g h L).filter λp=>decide (p.1≠d)
structure Mod(K:zk)(mg:Str->Option ze)(base:Heap):Prop where
 kin:K.In base
 glob:base.Ns ji mg
 blt:∃mb,base.Ns builtinsNs mb/\∀x:Str,x≠ "__name__"->mb x=zR x
 nolimit:base.NoLimit
structure Cx where
 prog:zE
 w:zP
 K:zk
 mg:Str->Option ze
 base:Heap
 A:zK
 N:List Str
 WV:zm
 H₀:Hp
 env:Env
 outer:List Env
 stack:List Env
 ex:List Addr
 fn:Str->Bool
 calm:Bool
 pn:PNS
 xe:VSP
noncomputable def frs(l:List Env):List Addr:=l.filterMap (·.frame)
abbrev Cx.fs(X:Cx):List Addr:=frs X.outer
noncomputable def Vis(sc:Scope)(x:Str):Prop:=sc.names.lookup x=some .local\/sc.names.lookup x=some .cell\/sc.names.lookup x=some .free
noncomputable def Loc(sc:Scope)(x:Str):Prop:=sc.names.lookup x=some .local\/sc.names.lookup x=some .cell
noncomputable def gA8(env:Env)(h:Heap)(m:Str->Option ze)(x:Str)(u:ze):Prop:=
 (env.kindOf x=some .local/\m x=some u)\/((env.kindOf x=some .cell\/env.kindOf x=some .free)/\∃c,env.cells.lookup x=some c/\h.IsCell c (some u))
structure Cx.Ok(X:Cx):Prop where
 mod:Mod X.K X.mg X.base
 kind:X.env.scope.kind= .function
 glob:X.env.globals=ji
 blt:X.env.builtins=builtinsNs
 above:X.WV.heap.objs.size<=X.env.locals
 inj:∀x y c,X.env.cells.lookup x=some c->X.env.cells.lookup y=some c->x=y
 has:∀x,(X.env.kindOf x=some .cell\/X.env.kindOf x=some .free)->∃c,X.env.cells.lookup x=some c
 cab:∀x c,X.fn x=true->X.env.cells.lookup x=some c->X.WV.heap.objs.size<=c
 hd:X.calm=true->X.A.handled=none
 frames:X.A.frames=some X.stack
 stk:X.stack=X.outer\/(X.stack=X.env::X.outer/\X.env.frame=some X.env.locals)
 exf:∀b∈X.ex,b≠X.env.locals/\∀x c,X.env.cells.lookup x=some c->c≠b
 bs:∀b o,X.base.get? b=some o->X.WV.heap.get? b=some o/\X.H₀ b=none
 bsz:X.base.objs.size<=X.WV.heap.objs.size
 noex:∀b o,X.base.get? b=some o->b∉X.ex
 exfs:∀b∈X.ex,b∉X.fs
 funs:X.WV.heap.FunFrames X.base X.outer
 frf:∀b∈X.fs,X.H₀ b=none
 gd:X.A.guards=some []
structure Inv(X:Cx)(pins:PNS)(O:List (Option V))(H:Hp)(s:zm):Prop where
 ok:X.Ok
 os:s.os=X.WV.os
 bare:AllBare s.gens
 base:Un X.fs X.ex X.H₀ H X.WV.heap s.heap
 loc:∃m,s.heap.Ns X.env.locals m/\∀(i:Nat) (x:Str) (v:V),X.N[i]? =some x->O[i]? =some (some v)->Vis X.env.scope x->∃u,M3 v u/\gA8 X.env s.heap m x u
 cell:∀x c,X.env.cells.lookup x=some c->∃v,s.heap.IsCell c v
 free:H X.env.locals=none
 freeC:∀x c,X.env.cells.lookup x=some c->H c=none
 pin:∀p∈X.pn++pins,s.heap.get? p.1=some p.2/\H p.1=none/\p.1≠X.env.locals/\p.1∉X.fs/\∀v,p.2.data≠ .cell v
 hok:HOk X.prog X.w H s.heap
 len:O.length=X.N.length
section
variable{X:Cx}{pins:PNS}{O:List (Option V)}{H H':Hp}{s:zm}{h':Heap}
theorem Cx.Ok.nofr(ok:X.Ok){b:Addr}{o:Obj}(e:X.base.get? b=some o):b∉X.fs:=λhb=>by
 have:=(ok.funs.mem hb).1
 rw[e]at this;cases this
theorem Inv.bs(I:Inv X pins O H s):∀b o,X.base.get? b=some o->s.heap.get? b=some o/\H b=none:=λb o e=>
 ⟨I.base.keep b o (I.ok.bs b o e).1 (I.ok.bs b o e).2 (I.ok.nofr e) (I.ok.noex b o e),I.base.free b o (I.ok.bs b o e).1 (I.ok.bs b o e).2 (I.ok.noex b o e)⟩
theorem Inv.bk(I:Inv X pins O H s):∀b o,X.base.get? b=some o->s.heap.get? b=some o:=λb o e=>(I.bs b o e).1
theorem Inv.mod(I:Inv X pins O H s):Mod X.K X.mg X.base:=I.ok.mod
theorem Inv.kIn(I:Inv X pins O H s):X.K.In s.heap:=I.ok.mod.kin.keeps I.bk
theorem Inv.lt(I:Inv X pins O H s):X.env.locals<s.heap.objs.size:=let ⟨_,hn,_⟩:=I.loc;hn.lt
theorem Inv.sz(I:Inv X pins O H s):X.WV.heap.objs.size<=s.heap.objs.size:=zv I.ok.above (yN I.lt)
theorem Inv.nofs(I:Inv X pins O H s){a:Addr}(h:s.heap.objs.size<=a):a∉X.fs:=λhb=>by
 obtain⟨_,o,ho,_⟩:=I.ok.funs.mem hb
 exact absurd (zO (zA ho) (zv I.sz h)) (yd _)
theorem Inv.cne(I:Inv X pins O H s):∀x c,X.env.cells.lookup x=some c->c≠X.env.locals:=λx c e z=>by
 obtain⟨v,o,ho,hd⟩:=I.cell x c e
 obtain⟨m,⟨o',es,ep,ho',hd',_⟩,_⟩:=I.loc
 rw[z,ho']at ho;cases ho;rw[hd']at hd;cases hd
theorem Inv.funs(I:Inv X pins O H s):s.heap.FunFrames X.base X.outer:=by
 have all:∀(l:List Env),(∀b∈frs l,b∈X.fs)->X.WV.heap.FunFrames X.base l->s.heap.FunFrames X.base l:=by
  intro l
  induction l with
  |nil=>intro _ _;trivial
  |cons env r ih=>
    intro hs hl
    obtain⟨hk,⟨L,o,hf,hn,ho,hd⟩,hr⟩:=hl
    have hL:L∈X.fs:=hs L (by unfold frs;rw[xx,hf];exact zc)
    obtain⟨sl,e⟩:=I.base.slot L o ho (I.ok.frf L hL) hL λz=>I.ok.exfs L z hL
    exact⟨hk,⟨L,_,hf,hn,e,hd⟩,ih (λb hb=>hs b (by unfold frs;rw[xx,hf];exact zf _ hb)) hr⟩
 exact all X.outer (λ_ hb=>hb) I.ok.funs
theorem Inv.stack(I:Inv X pins O H s):s.heap.FunFrames X.base X.stack:=by
 rcases I.ok.stk with e|⟨e,hf⟩
 ·rw[e];exact I.funs
 · rw[e]
   obtain⟨m,hn,_⟩:=I.loc
   refine .cons (by rw[I.ok.kind];decide) hf hn ?_ I.funs
   exact Heap.get?_none_of_le (zv I.ok.bsz I.ok.above)
theorem Inv.stkSub(I:Inv X pins O H s):∀b∈frs X.stack,b∈X.env.locals::X.fs:=λb hb=>by
 rcases I.ok.stk with e|⟨e,hf⟩
 ·rw[e]at hb;exact zf _ hb
 · rw[e]at hb
   unfold frs at hb
   rw[xx,hf]at hb
   exact hb
theorem Inv.stkFree(I:Inv X pins O H s):∀b∈frs X.stack,H b=none:=λb hb=>by
 rcases zi.mp (I.stkSub b hb)with e|hb
 ·rw[e];exact I.free
 · obtain⟨_,o,ho,_⟩:=I.ok.funs.mem hb
   exact I.base.free b o ho (I.ok.frf b hb) λz=>I.ok.exfs b z hb
theorem Inv.step{g':Array GenState}{t':Nat}{d':Drawn}{ch:List Addr}(I:Inv X pins O H s)
 (hch:∀b∈ch,(b∈X.ex\/X.WV.heap.objs.size<=b)/\b≠X.env.locals/\(∀x c,X.env.cells.lookup x=some c->c≠b)/\∀p∈X.pn++pins,p.1≠b)
 (keep:∀b o,b≠X.env.locals->b∉X.fs->b∉ch->s.heap.get? b=some o->H b=none->h'.get? b=some o)
 (slot:∀b o,b≠X.env.locals->b∈X.fs->b∉ch->s.heap.get? b=some o->H b=none->∃sl,h'.get? b=some {o with slots:=sl}) (free:∀b o,b∉ch->s.heap.get? b=some o->H b=none->H' b=none)
 (there:∀b o,b∉ch->s.heap.get? b=some o->∃o',h'.get? b=some o')
 (tups:∀b xs,H b=some (.tup xs)->H' b=some (.tup xs)) (frzs:∀b o u,H b=some (.frz o u)->H' b=some (.frz o u)) (tbls:∀b ps,H b=some (.tbl ps)->∃more,H' b=some (.tbl (ps++more)))
 (ns:∀m,s.heap.Ns X.env.locals m->h'.Ns X.env.locals m) (hok:HOk X.prog X.w H' h') (hg:AllBare g'):
 Inv X pins O H' {s with heap:=h',gens:=g',drawn:=d',toks:=t'}:=by
 have neL:∀b o,X.WV.heap.get? b=some o->b≠X.env.locals:=λb o e=>zW (zO (zA e) I.ok.above)
 have neC:∀b o,X.WV.heap.get? b=some o->b∉X.ex->b∉ch:=λb o e hx hb=>by
  rcases (hch b hb).1 with z|z
  ·exact hx z
  ·exact absurd (zO (zA e) z) (yd _)
 have cellK:∀x c,X.env.cells.lookup x=some c->∀v,s.heap.IsCell c v->h'.IsCell c v:=λx c e v ⟨o,ho,hd⟩=>by
  have nch:c∉ch:=λz=>(hch c z).2.2.1 x c e rfl
  by_cases hc:c∈X.fs
  · obtain⟨sl,q⟩:=slot c o (I.cne x c e) hc nch ho (I.freeC x c e)
    exact⟨_,q,hd⟩
  ·exact⟨o,keep c o (I.cne x c e) hc nch ho (I.freeC x c e),hd⟩
 refine⟨I.ok,I.os,hg,⟨λb o e n hb hx=>?_,λb o e n hb hx=>?_,λb o e n hx=>?_,λb o e hx=>?_,λb xs e=>tups b xs (I.base.tups b xs e),λb o xs e=>frzs b o xs (I.base.frzs b o xs e),λb ps e=>?_⟩,?_,λx c e=>?_,?_,λx c e=>?_,λp hp=>?_,hok,I.len⟩
 ·exact keep b o (neL b o e) hb (neC b o e hx) (I.base.keep b o e n hb hx) (I.base.free b o e n hx)
 · obtain⟨sl,e1⟩:=I.base.slot b o e n hb hx
   obtain⟨sl',e2⟩:=slot b _ (neL b o e) hb (neC b o e hx) e1 (I.base.free b o e n hx)
   exact⟨sl',e2⟩
 · obtain⟨o',e1⟩:=I.base.there b o e hx
   exact free b o' (neC b o e hx) e1 (I.base.free b o e n hx)
 · obtain⟨o',e1⟩:=I.base.there b o e hx
   exact there b o' (neC b o e hx) e1
 · obtain⟨m1,e1⟩:=I.base.tbls b ps e
   obtain⟨m2,e2⟩:=tbls b _ e1
   exact⟨m1++m2,by rw[e2,Array.append_assoc]⟩
 · obtain⟨m,hn,hl⟩:=I.loc
   refine⟨m,ns m hn,λi x v e1 e2 e3=>?_⟩
   obtain⟨u,r,l⟩:=hl i x v e1 e2 e3
   refine⟨u,r,?_⟩
   rcases l with l|⟨k,c,e,z⟩
   ·exact .inl l
   ·exact .inr ⟨k,c,e,cellK x c e _ z⟩
 · obtain⟨v,z⟩:=I.cell x c e
   exact⟨v,cellK x c e v z⟩
 · obtain⟨m,⟨o,_,_,ho,_⟩,_⟩:=I.loc
   exact free _ o (λz=>(hch _ z).2.1 rfl) ho I.free
 · obtain⟨v,o,ho,hd⟩:=I.cell x c e
   exact free c o (λz=>(hch c z).2.2.1 x c e rfl) ho (I.freeC x c e)
 · obtain⟨e,n,ne,nf,d⟩:=I.pin p hp
   have nch:p.1∉ch:=λz=>(hch p.1 z).2.2.2 p hp rfl
   exact⟨keep p.1 p.2 ne nf nch e n,free p.1 p.2 nch e n,ne,nf,d⟩
theorem Inv.un{t':Nat}(I:Inv X pins O H s)(u:Un X.fs [] H H' s.heap h')(hok:HOk X.prog X.w H' h'):Inv X pins O H' {s with heap:=h',toks:=t'}:=by
 obtain⟨m,⟨o,es,ep,ho,r⟩,_⟩:=id I.loc
 obtain⟨sl,hL⟩:=u.any ho I.free (by simp)
 exact I.step (g':=s.gens) (d':=s.drawn) (ch:= []) (λ_ z=>nomatch z) (λb o _ hb _ e n=>u.keep b o e n hb (by simp)) (λb o _ hb _ e n=>u.slot b o e n hb (by simp)) (λb o _ e n=>u.free b o e n (by simp)) (λb o _ e=>u.there b o e (by simp)) u.tups u.frzs u.tbls (λm' hm=>by
  obtain⟨o',es',ep',ho',r'⟩:=hm
  rw[ho]at ho';cases ho'
  exact⟨_,es',ep',hL,r'⟩) hok I.bare
theorem Inv.call{g':Array GenState}{t':Nat}{d':Drawn}{ch:List Addr}(I:Inv X pins O H s)(u:Un (frs X.stack) ch H H' s.heap h')(hok:HOk X.prog X.w H' h')(hg:AllBare g')
 (hch:∀b∈ch,(b∈X.ex\/X.WV.heap.objs.size<=b)/\b≠X.env.locals/\(∀x c,X.env.cells.lookup x=some c->c≠b)/\∀p∈X.pn++pins,p.1≠b):
 Inv X pins O H' {s with heap:=h',gens:=g',drawn:=d',toks:=t'}:=by
 obtain⟨m,⟨o,es,ep,ho,r⟩,_⟩:=id I.loc
 obtain⟨sl,hL⟩:=u.any ho I.free λz=>(hch _ z).2.1 rfl
 exact I.step (ch:=ch) hch (λb o hL hb hc e n=>u.keep b o e n (λz=>(zi.mp (I.stkSub b z)).elim hL hb) hc) (λb o _ _ hc e n=>u.any e n hc) (λb o hc e n=>u.free b o e n hc) (λb o hc e=>u.there b o e hc) u.tups u.frzs u.tbls (λm' hm=>by
  obtain⟨o',es',ep',ho',r'⟩:=hm
  rw[ho]at ho';cases ho'
  exact⟨_,es',ep',hL,r'⟩) hok hg
theorem Inv.turned{t':Nat}{it:Addr}(I:Inv X pins O H s)(k:∀b o,b≠it->s.heap.get? b=some o->h'.get? b=some o)(hn:H it=none)(hL:it≠X.env.locals)
 (h1:it∈X.ex\/X.WV.heap.objs.size<=it) (h2:∀x c,X.env.cells.lookup x=some c->c≠it) (h3:∀p∈X.pn++pins,p.1≠it):Inv X pins O H {s with heap:=h',toks:=t'}:=by
 have nit:∀b u,H b=some u->b≠it:=λb u e z=>by rw[z,hn]at e;cases e
 refine I.step (g':=s.gens) (d':=s.drawn) (ch:= [it]) (λb hb=>?_) (λb o _ _ hc e _=>k b o (λz=>hc (by simp[z])) e) (λb o _ _ hc e _=>⟨o.slots,k b o (λz=>hc (by simp[z])) e⟩) (λ_ _ _ _ n=>n)
  (λb o hc e=>⟨o,k b o (λz=>hc (by simp[z])) e⟩) (λ_ _ e=>e) (λ_ _ _ e=>e) (λb ps e=>⟨#[],by rw[e];simp⟩) (λm hm=>?_) (λb u e=>?_) I.bare
 · have e:b=it:=by simpa using hb
   subst e
   exact⟨h1,hL,h2,h3⟩
 · obtain⟨o,es,ep,ho,r⟩:=hm
   exact⟨o,es,ep,k _ o (yP hL) ho,r⟩
 · refine(I.hok b u e).stay (λc v hc q=>k c v ?_ q) (λ_ q=>q) λ_ _ q=>q
   rcases hc with z|z
   ·rw[z];exact nit b u e
   ·exact nit c _ z
theorem Inv.tok(I:Inv X pins O H s)(t:Nat):Inv X pins O H {s with toks:=t}:=I.un (h':=s.heap) (t':=t) Un.refl I.hok
theorem Inv.kept{t':Nat}(I:Inv X pins O H s)(k:∀b u,s.heap.get? b=some u->h'.get? b=some u):Inv X pins O H {s with heap:=h',toks:=t'}:=I.un (Un.kept k) (I.hok.kept k)
theorem Inv.laid{a:Addr}{o:HO}{t':Nat}(I:Inv X pins O H s)(k:∀b u,s.heap.get? b=some u->h'.get? b=some u)(hp:s.heap.objs.size<=a)(new:W7 X.prog X.w (upd H a o) h' a o):
 Inv X pins O (upd H a o) {s with heap:=h',toks:=t'}:=I.un (Un.laid k hp (I.hok.fresh hp)) (I.hok.laid k hp new)
theorem Inv.write{x e:Addr}{o:HO}{t':Nat}(I:Inv X pins O H s)(mu:Mut (H x))(he:e=x\/H e=some (.own x))(k:∀b u,b≠e->s.heap.get? b=some u->h'.get? b=some u)(heo:∃u,h'.get? e=some u)
 (new:W7 X.prog X.w (upd H x o) h' x o):Inv X pins O (upd H x o) {s with heap:=h',toks:=t'}:=I.un (Un.write mu he k heo) (I.hok.write mu he k heo new)
theorem Inv.pins_of{pins':PNS}(I:Inv X pins O H s)(h:∀p∈pins',s.heap.get? p.1=some p.2/\H p.1=none/\p.1≠X.env.locals/\p.1∉X.fs/\∀v,p.2.data≠ .cell v):Inv X pins' O H s:=
 ⟨I.ok,I.os,I.bare,I.base,I.loc,I.cell,I.free,I.freeC,λp hp=>(zG.mp hp).elim (λz=>I.pin p (jZ _ z)) (h p),I.hok,I.len⟩
theorem cT3{N:List Str}(hN:N.Nodup){i j:Nat}{x:Str}(a:N[i]? =some x)(b:N[j]? =some x):i=j:=by
 obtain⟨h1,e1⟩:=ju.mp a
 obtain⟨h2,e2⟩:=ju.mp b
 exact(List.getElem_inj hN).mp (e1.trans e2.symm)
theorem dQ1{M:Model}{A:zK}{E:VSP}{i:Nat}{x:Str}{v:V}{u:ze}{Q:Unit->zm->Prop}(I:Inv X pins O H s)(hN:X.N.Nodup)(hi:X.N[i]? =some x)(hx:Loc X.env.scope x)(r:M3 v u)
 (h:∀s',Inv X pins (O.set i (some v)) H s'->(∃a,yJ a s.heap s'.heap/\(a=X.env.locals\/X.env.cells.lookup x=some a))->Q () s') (hf:X.fn x=true\/X.env.scope.names.lookup x=some .local):zy M A (storeName X.env x u) Q E s:=by
 obtain⟨m,hn,hl⟩:=id I.loc
 have hcls:(X.env.scope.kind == .class||(X.env.scope.kind == .module&&X.env.locals != X.env.globals))=false:=by rw[I.ok.kind];rfl
 have hiσ:i<O.length:=by rw[I.len];exact(ju.mp hi).1
 have cne:=I.cne
 have tracked:∀ {a:Addr} {h':Heap},(∃o,s.heap.get? a=some o/\H a=none)->yJ a s.heap h'->HOk X.prog X.w H h':=λ{a h'} ha hs b ob e=>by
  obtain⟨_,_,hfree⟩:=ha
  refine(I.hok b ob e).stay (λc w' hc q=>(hs.2 c ?_).trans q) (λ_ q=>q) λ_ _ q=>q
  rintro rfl
  rcases hc with rfl|hc
  ·rw[hfree]at e;cases e
  ·rw[hfree]at hc;cases hc
 rcases hx with hk|hk
 · refine wpAny_storeName_local hk hn (λh' hn' hs=>?_) hcls
   obtain⟨oL,_,_,hoL,_⟩:=id hn
   refine h _ ⟨I.ok,I.os,I.bare,⟨λb o e n hb hx=>?_,λb o e n hb hx=>?_,I.base.free,λb o e hx=>?_,I.base.tups,I.base.frzs,I.base.tbls⟩,⟨_,hn',λj y v' e1 e2 e3=>?_⟩,λy c e=>?_,I.free,I.freeC,λp hp=>?_,tracked ⟨oL,hoL,I.free⟩ hs,by simpa using I.len⟩ ⟨_,hs,.inl rfl⟩
   ·exact(hs.2 b (zW (zO (zA e) I.ok.above))).trans (I.base.keep b o e n hb hx)
   · obtain⟨sl,e1⟩:=I.base.slot b o e n hb hx
     exact⟨sl,(hs.2 b (zW (zO (zA e) I.ok.above))).trans e1⟩
   · obtain⟨o',e1⟩:=I.base.there b o e hx
     exact⟨o',(hs.2 b (zW (zO (zA e) I.ok.above))).trans e1⟩
   · by_cases hj:j=i
     · subst hj
       rw[hi]at e1;cases e1
       rw[zF hiσ]at e2
       cases e2
       exact⟨u,r,.inl ⟨hk,by simp⟩⟩
     · rw[jM (yP hj)]at e2
       obtain⟨u',r',q⟩:=hl j y v' e1 e2 e3
       refine⟨u',r',?_⟩
       rcases q with⟨k,e⟩|⟨k,c,e,z⟩
       · refine .inl ⟨k,?_⟩
         have:y≠x:=λe=>hj (cT3 hN e1 (e▸hi))
         simp[this,e]
       ·exact .inr ⟨k,c,e,z.sameBut hs (cne y c e)⟩
   · obtain⟨w',z⟩:=I.cell y c e
     exact⟨w',z.sameBut hs (cne y c e)⟩
   · obtain⟨e,n,ne,nf,d⟩:=I.pin p hp
     exact⟨(hs.2 p.1 ne).trans e,n,ne,nf,d⟩
 · have hfn:X.fn x=true:=by
    rcases hf with z|z
    ·exact z
    ·rw[z]at hk;cases hk
   obtain⟨c,hc⟩:=I.ok.has x (.inl hk)
   obtain⟨w',z⟩:=I.cell x c hc
   refine wpAny_storeName_cell I.ok.kind hk hc z (λh' hc' hs=>?_)
   obtain⟨oc,hoc,hocd⟩:=id z
   refine h {s with heap:=h'} ⟨I.ok,I.os,I.bare,⟨λb o e n hb hx=>?_,λb o e n hb hx=>?_,I.base.free,λb o e hx=>?_,I.base.tups,I.base.frzs,I.base.tbls⟩,⟨m,hn.sameBut hs (yP (cne x c hc)),λj y v' e1 e2 e3=>?_⟩,λy c' e=>?_,I.free,I.freeC,λp hp=>?_,tracked ⟨oc,hoc,I.freeC x c hc⟩ hs,by simpa using I.len⟩ ⟨c,hs,.inr hc⟩
   ·exact(hs.2 b (zW (zO (zA e) (I.ok.cab x c hfn hc)))).trans (I.base.keep b o e n hb hx)
   · obtain⟨sl,e1⟩:=I.base.slot b o e n hb hx
     exact⟨sl,(hs.2 b (zW (zO (zA e) (I.ok.cab x c hfn hc)))).trans e1⟩
   · obtain⟨o',e1⟩:=I.base.there b o e hx
     exact⟨o',(hs.2 b (zW (zO (zA e) (I.ok.cab x c hfn hc)))).trans e1⟩
   · by_cases hj:j=i
     · subst hj
       rw[hi]at e1;cases e1
       rw[zF hiσ]at e2
       cases e2
       exact⟨u,r,.inr ⟨.inl hk,c,hc,hc'⟩⟩
     · rw[jM (yP hj)]at e2
       obtain⟨u',r',q⟩:=hl j y v' e1 e2 e3
       refine⟨u',r',?_⟩
       rcases q with q|⟨k,c',e,z'⟩
       ·exact .inl q
       · refine .inr ⟨k,c',e,z'.sameBut hs ?_⟩
         rintro rfl
         exact hj (cT3 hN e1 (I.ok.inj _ _ _ e hc▸hi))
   · by_cases hcc:c'=c
     ·subst hcc;exact⟨_,hc'⟩
     · obtain⟨w2,z2⟩:=I.cell y c' e
       exact⟨w2,z2.sameBut hs hcc⟩
   · obtain⟨e,n,ne,nf,d⟩:=I.pin p hp
     refine⟨(hs.2 p.1 ?_).trans e,n,ne,nf,d⟩
     intro q
     rw[q,hoc]at e
     have q':oc=p.2:=jd e
     exact d w' (by rw[<-q'];exact hocd)
theorem dZ4{M:Model}{A:zK}{E:VSP}{i:Nat}{x:Str}{v:V}{u:ze}{Q:Unit->zm->Prop}(I:Inv X pins O H s)(hN:X.N.Nodup)(hi:X.N[i]? =some x)(hx:Loc X.env.scope x)(r:M3 v u)
 (h:∀s',Inv X pins (O.set i (some v)) H s'->Q () s') (hf:X.fn x=true\/X.env.scope.names.lookup x=some .local):zy M A (storeName X.env x u) Q E s:=
 dQ1 I hN hi hx r (λs' I' _=>h s' I') hf
end
noncomputable abbrev XK:=ze->Option Addr->Hp->Prop
noncomputable abbrev St:=List (Option V)
noncomputable abbrev VK:=V->Hp->Prop
noncomputable abbrev TE:=St->Hp->VK->Prop
noncomputable abbrev TT:=St->Hp->(Bool->Hp->Prop)->Prop
noncomputable abbrev TA:=St->Hp->(List V->Hp->Prop)->Prop
structure cB4 where
 nx:St->Hp->Prop
 rt:VK
 bk:St->Hp->Prop:=λ_ _=>False
 ct:St->Hp->Prop:=λ_ _=>False
noncomputable abbrev TS:=cB4->St->Hp->Prop
def EP(X:Cx)(pins:PNS)(O:St)(Q:VK)(u:ze)(s':zm):Prop:=∃v H',Inv X pins O H' s'/\M3 v u/\Q v H'
noncomputable def TP(X:Cx)(pins:PNS)(O:St)(Q:Bool->Hp->Prop)(b:Bool)(s':zm):Prop:=∃H',Inv X pins O H' s'/\Q b H'
noncomputable def AP(X:Cx)(pins:PNS)(O:St)(Q:List V->Hp->Prop)(us:List ze)(s':zm):Prop:=∃vs H',Inv X pins O H' s'/\J7 vs us/\Q vs H'
theorem EP.elim{X:Cx}{pins:PNS}{O:St}{Q:VK}{u:ze}{s:zm}{P:Prop}(h:EP X pins O Q u s)(k:∀v H,Inv X pins O H s->M3 v u->Q v H->P):P:=by
 obtain⟨a,b,c,d,e⟩:=h
 exact k a b c d e
theorem TP.elim{X:Cx}{pins:PNS}{O:St}{Q:Bool->Hp->Prop}{u:Bool}{s:zm}{P:Prop}(h:TP X pins O Q u s)(k:∀H,Inv X pins O H s->Q u H->P):P:=by
 obtain⟨b,c,e⟩:=h
 exact k b c e
theorem AP.elim{X:Cx}{pins:PNS}{O:St}{Q:List V->Hp->Prop}{u:List ze}{s:zm}{P:Prop}(h:AP X pins O Q u s)(k:∀v H,Inv X pins O H s->J7 v u->Q v H->P):P:=by
 obtain⟨a,b,c,d,e⟩:=h
 exact k a b c d e
def SP(X:Cx)(pins:PNS)(D:cB4)(f:Flow)(s':zm):Prop:=
 match f with
 | .next=>∃ X1 H',Inv X pins X1 H' s'/\D.nx X1 H'
 | .brk=>∃ X1 H',Inv X pins X1 H' s'/\D.bk X1 H'
 | .cont=>∃ X1 H',Inv X pins X1 H' s'/\D.ct X1 H'
 | .ret u=>∃v X1 H',Inv X pins X1 H' s'/\M3 v u/\D.rt v H'
def PE(X:Cx)(e:Expr)(t:TE):Prop:=
 ∀(pins:PNS) (s:zm) (O:St) (H:Hp) (Q:VK),Inv X pins O H s->t O H Q->zy (zH X.prog X.w) X.A (eval e X.env) (EP X pins O Q) X.xe s
def PT(X:Cx)(e:Expr)(t:TT):Prop:=
 ∀(pins:PNS) (s:zm) (O:St) (H:Hp) (Q:Bool->Hp->Prop),Inv X pins O H s->t O H Q->zy (zH X.prog X.w) X.A (isTrue e X.env (eval e X.env)) (TP X pins O Q) X.xe s
def PW(X:Cx)(e:Expr)(t:TT):Prop:=
 ∀(whole:Sem ze) (pins:PNS) (s:zm) (O:St) (H:Hp) (Q:Bool->Hp->Prop),Inv X pins O H s->t O H Q->zy (zH X.prog X.w) X.A (isTrue e X.env whole) (TP X pins O Q) X.xe s
def PA(X:Cx)(es:List Expr)(t:TA):Prop:=
 ∀(pos:Pos) (pins:PNS) (s:zm) (O:St) (H:Hp) (Q:List V->Hp->Prop),Inv X pins O H s->t O H Q->zy (zH X.prog X.w) X.A (spliced (backTo pos (zJ es X.env))) (AP X pins O Q) X.xe s
def PS(X:Cx)(st:Stmt)(t:TS):Prop:=
 ∀(pins:PNS) (s:zm) (O:St) (H:Hp) (D:cB4),Inv X pins O H s->t D O H->zy (zH X.prog X.w) X.A (exec st X.env) (SP X pins D) X.xe s
def PSs(X:Cx)(st:List Stmt)(t:TS):Prop:=
 ∀(pins:PNS) (s:zm) (O:St) (H:Hp) (D:cB4),Inv X pins O H s->t D O H->zy (zH X.prog X.w) X.A (execs st X.env) (SP X pins D) X.xe s
theorem thn{α:Type}{t:Sem α}{Q Q':α->zm->Prop}{M:Model}{A:zK}{E:VSP}{s:zm}(h:zy M A t Q E s)(hQ:∀a s,Q a s->Q' a s):zy M A t Q' E s:=yb h hQ λ_ _ x=>x
section
variable{X:Cx}
noncomputable def fT4(i:Nat):TE:=λO H Q=>∃v,O[i]? =some (some v)/\Q v H
noncomputable def tC(v:V):TE:=λ_ H Q=>Q v H
theorem eW2{i:Nat}{x:Str}{pos:Pos}(hN:X.N[i]? =some x)(hv:Vis X.env.scope x)(hd:(x==("__debug__" :Str))=false)(hcd:(x==("__classdict__" :Str))=false):PE X (.Name x pos) (fT4 i):=by
 intro pins s O H Q I h
 obtain⟨v,e,h⟩:=h
 obtain⟨m,hn,hl⟩:=I.loc
 obtain⟨u,r,l⟩:=hl i x v hN e hv
 have fin:EP X pins O Q u s:=⟨v,H,I,r,h⟩
 rcases l with⟨hk,hm⟩|⟨hk,c,hc,hcell⟩
 ·exact Jl (wpAny_loadName_local I.ok.kind hk hn hm fin) hd
 · rcases hk with hk|hk
   ·exact Jl (wpAny_loadName_cell I.ok.kind hk hc hcell fin) hd
   ·exact Jl (wpAny_loadName_free I.ok.kind hk hc hcell fin hcd) hd
theorem cX9{i j pos}:PE X (.Constant (.int i) j pos) (tC (.int i)):=λ_ _ _ H _ I h=>wpAny_Constant_int ⟨.int i,H,I.tok _,⟨_,rfl⟩,h⟩
theorem fN7{b j pos}:PE X (.Constant (.bool b) j pos) (tC (.bl b)):=λ_ _ _ H _ I h=>Constant_bool ⟨.bl b,H,I,rfl,h⟩
theorem eW3{j pos}:PE X (.Constant .none j pos) (tC .non):=λ_ _ _ H _ I h=>Constant_none ⟨.non,H,I,rfl,h⟩
theorem fK7{x j pos}:PE X (.Constant (.str x) j pos) (tC (.str x)):=λ_ _ _ H _ I h=>Calls.Constant_str ⟨.str x,H,I.tok _,⟨_,rfl⟩,h⟩
noncomputable def Gl(X:Cx)(x:Str):Prop:=X.env.kindOf x=some .globalImplicit
theorem cO1{E:VSP}{pins:PNS}{s:zm}{O:St}{H:Hp}{x:Str}{u:ze}{pos:Pos}{Q:VSP}(I:Inv X pins O H s)(hg:Gl X x)(hm:X.mg x=some u)(h:Q u s)
 (hd:(x==("__debug__" :Str))=false):zy (zH X.prog X.w) X.A (eval (.Name x pos) X.env) Q E s:=
 Yg I.ok.kind hg (Calls.loadGlobal_global (by rw[I.ok.glob];exact I.mod.glob.keeps I.bk) hm h) hd
theorem aW2{E:VSP}{pins:PNS}{s:zm}{O:St}{H:Hp}{x:Str}{u:ze}{pos:Pos}{Q:VSP}(I:Inv X pins O H s)(hg:Gl X x)(hm:X.mg x=none)(hv:zR x=some u)(h:Q u s)
 (hn:x≠ "__name__":=by decide) (hd:(x==("__debug__" :Str))=false:=by decide):zy (zH X.prog X.w) X.A (eval (.Name x pos) X.env) Q E s:=by
 obtain⟨mb,h1,h2⟩:=I.mod.blt
 exact Yg I.ok.kind hg (Calls.loadGlobal_builtin (by rw[I.ok.glob];exact I.mod.glob.keeps I.bk) hm (by rw[I.ok.blt];exact h1.keeps I.bk) ((h2 x hn).trans hv) h) hd
theorem eH2{x:Str}{v:V}{u:ze}{pos:Pos}(hg:Gl X x)(hm:X.mg x=none)(hv:zR x=some u)(r:M3 v u)(hn:x≠ "__name__")(hd:(x==("__debug__" :Str))=false):PE X (.Name x pos) (tC v):=
 λ_ _ _ H _ I h=>aW2 I hg hm hv ⟨v,H,I,r,h⟩ hn hd
variable{a b:Expr}{ta tb:TE}{pos:Pos}
variable{tA tB':TT}{W9:List Expr}
noncomputable def gB4(t u:TT):TT:=λO H Q=>t O H λc H1=>if c=true then u O H1 Q else Q false H1
noncomputable def tOr(t u:TT):TT:=λO H Q=>t O H λc H1=>if c=true then Q true H1 else u O H1 Q
noncomputable def gB8(t:TT):TT:=λO H Q=>t O H λc H1=>Q (!c) H1
theorem eO3(ha:PT X a tA):PW X (.BoolOp .And [a] pos) tA:=by
 intro wh pins s O H Q I h
 refine isTrue_and (thn (ha pins s O H Q I h) λc s1 e=>?_)
 cases c with
 |true=>exact isTrue_and_nil e
 |false=>exact e
theorem fG8(ha:PT X a tA):PW X (.BoolOp .Or [a] pos) tA:=by
 intro wh pins s O H Q I h
 refine isTrue_or (thn (ha pins s O H Q I h) λc s1 e=>?_)
 cases c with
 |false=>exact isTrue_or_nil e
 |true=>exact e
theorem fL4(ha:PT X a tA)(hb:PW X (.BoolOp .And (b::W9) pos) tB'):PW X (.BoolOp .And (a::b::W9) pos) (gB4 tA tB'):=by
 intro wh pins s O H Q I h
 refine isTrue_and (thn (ha pins s O H _ I h) λc s1 hE1=>hE1.elim λH1 I1 q1=>?_)
 cases c with
 |true=>exact hb wh pins s1 O H1 Q I1 q1
 |false=>exact⟨H1,I1,q1⟩
theorem fU5(ha:PT X a tA)(hb:PW X (.BoolOp .Or (b::W9) pos) tB'):PW X (.BoolOp .Or (a::b::W9) pos) (tOr tA tB'):=by
 intro wh pins s O H Q I h
 refine isTrue_or (thn (ha pins s O H _ I h) λc s1 hE1=>hE1.elim λH1 I1 q1=>?_)
 cases c with
 |true=>exact⟨H1,I1,q1⟩
 |false=>exact hb wh pins s1 O H1 Q I1 q1
theorem fK3(ha:PT X a tA):PT X (.UnaryOp .Not a pos) (gB8 tA):=by
 intro pins s O H Q I h
 exact isTrue_not (ha pins s O H (λc H1=>Q (!c) H1) I h)
noncomputable def fT7(ta:TE):TE:=λO H Q=>ta O H λx H1=>∃c,x= .bl c/\Q (.bl (!c)) H1
theorem fG3{op}{t:TE}(h:PE X a t):PE X (.BoolOp op [a] pos) t:=λpins s O H Q I hw=>BoolOp_one (h pins s O H Q I hw)
theorem fM0(ha:PE X a ta):PE X (.UnaryOp .Not a pos) (fT7 ta):=by
 intro pins s O H Q I h
 refine UnaryOp_ (thn (ha pins s O H _ I h) λv s1 hE1=>hE1.elim λx H1 I1 r1 q1=>?_)
 obtain⟨c,rfl,q1⟩:=q1
 cases r1
 exact not_of (xi ⟨.bl (!c),H1,I1,rfl,q1⟩)
noncomputable def tIf(t:TT)(ta tb:TE):TE:=λO H Q=>t O H λc H1=>if c=true then ta O H1 Q else tb O H1 Q
theorem dW6{c:Expr}(hc:PT X c tA)(ha:PE X a ta)(hb:PE X b tb):PE X (.IfExp c a b pos) (tIf tA ta tb):=by
 intro pins s O H Q I h
 refine wpAny_IfExp (thn (hc pins s O H _ I h) λd s1 hE1=>hE1.elim λH1 I1 q1=>?_)
 cases d with
 |true=>exact ha pins s1 O H1 Q I1 q1
 |false=>exact hb pins s1 O H1 Q I1 q1
end
def SqL(K:zk)(H:Hp)(a:Addr)(xs:List V):Prop:=
 Rd H a (.lst xs)\/
  ∃(o:Obj) (its:Array ze) (n:Nat),K.lookup a=some o/\o.cls= .type "list"/\o.dict=none/\o.data= .seq its n/\its.size<=zh/\J7 xs its.toList
def SqT(K:zk)(H:Hp)(a:Addr)(xs:List V):Prop:=
 Rd H a (.tup xs)\/
  ∃(o:Obj) (its:Array ze) (n:Nat),K.lookup a=some o/\o.cls= .type "tuple"/\(o.data,o.dict)= (Data.seq its n,none)/\its.size<=zh/\J7 xs its.toList
noncomputable def gA3:ze->Option V
 | .none=>some .non
 | .bool b=>some (.bl b)
 | .int i _=>some (.int i)
 | .str x _=>some (.str x)
 | .bytes b _=>some (.byt b)
 | .float b _=>some (.flt b)
 | .ref a=>some (.ref a)
 | .type n=>some (.ty n)
 |_=>none
theorem M3.abs{x:V}{u:ze}(r:M3 x u):gA3 u=some x:=by
 cases x with
 |non=>cases r;rfl
 |bl _=>cases r;rfl
 |int _=>obtain⟨t,rfl⟩:=r;rfl
 |str _=>obtain⟨t,rfl⟩:=r;rfl
 |byt _=>obtain⟨t,rfl⟩:=r;rfl
 |flt _=>obtain⟨t,rfl⟩:=r;rfl
 |ref _=>cases r;rfl
 |ty _=>cases r;rfl
theorem M3.inj{x y:V}{u:ze}(r:M3 x u)(q:M3 y u):x=y:=jd (r.abs.symm.trans q.abs)
theorem J7.inj{xs ys:List V}{us:List ze}(h:J7 xs us)(k:J7 ys us):xs=ys:=by
 induction h generalizing ys with
 |nil=>cases k;rfl
 |cons r t ih=>cases k with
   |cons r' t'=>rw[r.inj r',ih t']
section
variable{X:Cx}{pins:PNS}{O:St}{H:Hp}{s:zm}{a:Addr}{xs ys:List V}
theorem SqL.of{K:zk}(h:H a=some (.lst xs)):SqL K H a xs:=.inl (.inl h)
theorem SqT.of{K:zk}(h:H a=some (.tup xs)):SqT K H a xs:=.inl (.inl h)
theorem Inv.list(I:Inv X pins O H s)(h:SqL X.K H a xs):∃its:List ze,J7 xs its/\PlainL s.heap a its.toArray/\xs.length<=zh:=by
 rcases h with h|⟨o,its,n,hk,hc,hd,hs,hz,r⟩
 · obtain⟨z,its,n,r,e⟩:=h.ok I.hok
   exact⟨its,r,⟨_,n,e,rfl,rfl,rfl⟩,z⟩
 · refine⟨its.toList,r,⟨o,n,I.kIn a o hk,hc,hd,by simpa using hs⟩,?_⟩
   have e:=r.length
   simp only[jQ]at e
   lia
theorem Inv.tuple(I:Inv X pins O H s)(h:SqT X.K H a xs):∃its:List ze,J7 xs its/\IsTup s.heap a its.toArray/\xs.length<=zh:=by
 rcases h with h|⟨o,its,n,hk,hc,hs,hz,r⟩
 · obtain⟨z,its,r,p⟩:=h.ok I.hok
   exact⟨its,r,aJ7.tup p,z⟩
 · refine⟨its.toList,r,⟨o,I.kIn a o hk,hc,n,by simpa using (xW hs).1⟩,?_⟩
   have e:=r.length
   simp only[jQ]at e
   lia
theorem Inv.list_inj(I:Inv X pins O H s)(h:SqL X.K H a xs)(h':SqL X.K H a ys):xs=ys:=by
 obtain⟨its,r,⟨o,n,e,_,_,d⟩,_⟩:=I.list h
 obtain⟨its',r',⟨o',n',e',_,_,d'⟩,_⟩:=I.list h'
 rw[e]at e';cases e'
 rw[d]at d'
 injection d' with d1 _
 have:its=its':=by simpa using congrArg YQ d1
 subst this
 exact r.inj r'
theorem Inv.tuple_inj(I:Inv X pins O H s)(h:SqT X.K H a xs)(h':SqT X.K H a ys):xs=ys:=by
 obtain⟨its,r,⟨o,e,_,n,d⟩,_⟩:=I.tuple h
 obtain⟨its',r',⟨o',e',_,n',d'⟩,_⟩:=I.tuple h'
 rw[e]at e';cases e'
 rw[d]at d'
 injection d' with d1 _
 have:its=its':=by simpa using congrArg YQ d1
 subst this
 exact r.inj r'
end
noncomputable abbrev Cx.wish(X:Cx)(E:VSP):Cx:={X with xe:=E}
noncomputable abbrev Cx.nox(X:Cx):Cx:=X.wish λ_ _=>False
theorem Cx.Ok.wish{X:Cx}(ok:X.Ok)(E:VSP):(X.wish E).Ok:=
 ⟨ok.mod,ok.kind,ok.glob,ok.blt,ok.above,ok.inj,ok.has,ok.cab,ok.hd,ok.frames,ok.stk,ok.exf,ok.bs,ok.bsz,ok.noex,ok.exfs,ok.funs,ok.frf,ok.gd⟩
theorem Cx.Ok.unwish{X:Cx}{E:VSP}(ok:(X.wish E).Ok):X.Ok:=
 ⟨ok.mod,ok.kind,ok.glob,ok.blt,ok.above,ok.inj,ok.has,ok.cab,ok.hd,ok.frames,ok.stk,ok.exf,ok.bs,ok.bsz,ok.noex,ok.exfs,ok.funs,ok.frf,ok.gd⟩
section
variable{X:Cx}{pins:PNS}{O:St}{H:Hp}{s:zm}{E:VSP}
theorem Inv.wish(I:Inv X pins O H s)(E:VSP):Inv (X.wish E) pins O H s:=⟨I.ok.wish E,I.os,I.bare,I.base,I.loc,I.cell,I.free,I.freeC,I.pin,I.hok,I.len⟩
theorem Inv.unwish(I:Inv (X.wish E) pins O H s):Inv X pins O H s:=⟨I.ok.unwish,I.os,I.bare,I.base,I.loc,I.cell,I.free,I.freeC,I.pin,I.hok,I.len⟩
theorem SP.unwish{D:cB4}{f:Flow}{s':zm}(h:SP (X.wish E) pins D f s'):SP X pins D f s':=by
 cases f with
 |next=>obtain⟨X1,H',I,q⟩:=h;exact⟨X1,H',I.unwish,q⟩
 |brk=>obtain⟨X1,H',I,q⟩:=h;exact⟨X1,H',I.unwish,q⟩
 |cont=>obtain⟨X1,H',I,q⟩:=h;exact⟨X1,H',I.unwish,q⟩
 |ret u=>obtain⟨v,X1,H',I,r,q⟩:=h;exact⟨v,X1,H',I.unwish,r,q⟩
theorem PSs.nox{st:List Stmt}{t:TS}(h:PSs X.nox st t):PSs X st t:=λpins s O H D I hw=>
 yb (h pins s O H D (I.wish _) hw) (λ_ _ q=>q.unwish) λ_ _ z=>yA z
end
section
variable{X:Cx}{st:Stmt}{W9:List Stmt}{t u:TS}{e:Expr}{te:TE}{pos:Pos}
noncomputable def fN4:TS:=λD O H=>D.nx O H
noncomputable def gC1(t u:TS):TS:=λD O H=>t {D with nx:=u D} O H
theorem eL2:PSs X [] fN4:=λ_ _ O H _ I h=>Zm ⟨O,H,I,h⟩
theorem dZ8(h1:PS X st t)(h2:PSs X W9 u):PSs X (st::W9) (gC1 t u):=by
 intro pins s O H D I h
 refine Jy (thn (h1 pins s O H {D with nx:=u D} I h) λf s1 q=>?_)
 cases f with
 |next=>
   obtain⟨X1,H',I',q⟩:=q
   exact h2 pins s1 X1 H' D I' q
 |ret v=>exact q
 |brk=>exact q
 |cont=>exact q
theorem eG9(h1:PS X st t):PSs X [st] t:=by
 intro pins s O H D I h
 refine Jy (thn (h1 pins s O H D I h) λf s1 q=>?_)
 cases f with
 |next=>exact Zm q
 |ret v=>exact q
 |brk=>exact q
 |cont=>exact q
theorem Inv.quiet{pins:PNS}{O:St}{H:Hp}{s:zm}(I:Inv X pins O H s):interactive X.env=false:=by simp[interactive,I.ok.kind]
noncomputable def fU1(te:TE):TS:=λD O H=>te O H λ_ H1=>D.nx O H1
theorem eF0(he:PE X e te)(hs:swapsWith e none pos.line X.env=pure false):PS X (.Expr e pos) (fU1 te):=by
 intro pins s O H D I h
 exact wpAny_Expr_any (thn (he pins s O H _ I h) λv s1 hE1=>hE1.elim λx H1 I1 r1 q1=>⟨O,H1,I1,q1⟩) I.quiet hs
noncomputable def gE0(te:TE):TS:=λD O H=>te O H D.rt
theorem fJ1(he:PE X e te):PS X (.Return (some e) pos) (gE0 te):=by
 intro pins s O H D I h
 exact wpAny_Return_some (thn (he pins s O H _ I h) λv s1 hE1=>hE1.elim λx H1 I1 r1 q1=>⟨x,O,H1,I1,r1,q1⟩)
noncomputable def gB6(c:TT)(t u:TS):TS:=λD O H=>c O H λb H1=>if b=true then t D O H1 else u D O H1
theorem fT8{c:Expr}{a b:List Stmt}{tc:TT}(hc:PT X c tc)(ha:PSs X a t)(hb:PSs X b u):PS X (.If c a b pos) (gB6 tc t u):=by
 intro pins s O H D I h
 refine wpAny_If (thn (hc pins s O H _ I h) λd s1 hE1=>hE1.elim λH1 I1 q1=>?_)
 cases d with
 |true=>exact ha pins s1 O H1 D I1 q1
 |false=>exact hb pins s1 O H1 D I1 q1
end
noncomputable abbrev TG:=V->St->Hp->(St->Hp->Prop)->Prop
noncomputable abbrev TGs:=List V->St->Hp->(St->Hp->Prop)->Prop
def PG(X:Cx)(target:Expr)(t:TG):Prop:=
 ∀(pins:PNS) (s:zm) (O:St) (H:Hp) (v:V) (u:ze) (Q:St->Hp->Prop),Inv X pins O H s->M3 v u->t v O H Q->
  zy (zH X.prog X.w) X.A (assign target X.env u) (λ_ s'=>∃ X1 H',Inv X pins X1 H' s'/\Q X1 H') X.xe s
noncomputable def PGs(X:Cx)(ts:List Expr)(t:TGs):Prop:=
 ∀(pins:PNS) (s:zm) (O:St) (H:Hp) (vs:List V) (us:List ze) (Q:St->Hp->Prop),Inv X pins O H s->J7 vs us->t vs O H Q->
  zy (zH X.prog X.w) X.A (assignInOrder ((assignEach ts X.env).map (·.2)) us) (λ_ s'=>∃ X1 H',Inv X pins X1 H' s'/\Q X1 H') X.xe s
noncomputable abbrev eF4:=V->V->V->Hp->(Hp->Prop)->Prop
def fF7(X:Cx)(t:eF4):Prop:=
 ∀(pins:PNS) (s:zm) (O:St) (H:Hp) (o i v:V) (ov iv u:ze) (Q:Hp->Prop),Inv X pins O H s->M3 o ov->M3 i iv->M3 v u->t o i v H Q->
  zy (zH X.prog X.w) X.A (setItem ov iv u) (λ_ s'=>∃H',Inv X pins O H' s'/\Q H') X.xe s
section
variable{X:Cx}{pos:Pos}
noncomputable def fU4(i:Nat):TG:=λv O H Q=>Q (O.set i (some v)) H
theorem eH9{i:Nat}{x:Str}(hN:X.N.Nodup)(hi:X.N[i]? =some x)(hx:Loc X.env.scope x)(hf:X.fn x=true\/X.env.scope.names.lookup x=some .local):PG X (.Name x pos) (fU4 i):=by
 intro pins s O H v u Q I r h
 exact wpAny_assign_Name (dZ4 I hN hi hx r (λs' I'=>⟨_,H,I',h⟩) hf)
noncomputable def gA4:TGs:=λvs O H Q=>vs= []/\Q O H
noncomputable def fV4(t:TG)(u:TGs):TGs:=λvs O H Q=>∃v r,vs=v::r/\t v O H λX1 H'=>u r X1 H' Q
theorem eD7:PGs X [] gA4:=by
 intro pins s O H vs us Q I r h
 obtain⟨e,h⟩:=h
 subst e
 cases r
 exact assignInOrder_nil ⟨O,H,I,h⟩
theorem dS7{e:Expr}{es:List Expr}{t:TG}{u:TGs}(h1:PG X e t)(h2:PGs X es u)
 (hs:(assignEach (e::es) X.env).map (·.2)=assign e X.env::(assignEach es X.env).map (·.2)):PGs X (e::es) (fV4 t u):=by
 intro pins s O H vs us Q I r h
 obtain⟨v,vr,e1,h⟩:=h
 subst e1
 cases r with
 |cons r rr=>
   rw[hs]
   refine assignInOrder_cons (thn (h1 pins s O H _ _ _ I r h) λ_ s1 ⟨W1,H1,I1,q1⟩=>?_)
   exact h2 pins s1 W1 H1 _ _ Q I1 rr q1
def gA1(K:zk)(n:Nat)(t:TGs):TG:=λv O H Q=>∃a xs,v= .ref a/\SqT K H a xs/\xs.length=n/\t xs O H Q
theorem fI8{es:List Expr}{k:Nat}{t:TGs}{n:Nat}(hc:X.calm=true)(h:PGs X es t)
 (hn:(assignEach es X.env).length=n) (hst:(assignEach es X.env).findIdx? (·.1)=none):PG X (.Tuple es k pos) (gA1 X.K n t):=by
 intro pins s O H v u Q I r hw
 obtain⟨a,xs,e1,hq,hl,hw⟩:=hw
 subst e1
 cases r
 obtain⟨its,rv,ht,hz⟩:=I.tuple hq
 refine assign_Tuple_tuple (I.ok.hd hc) ht (by simp[hn,<-hl,rv.length]) hst λh' hx=>?_
 have I1:Inv X pins O H {s with heap:=h'}:=I.kept (t':=s.toks) λb o e=>hx b o (zW (zA e)) e
 exact h pins _ O H xs _ Q I1 (by simpa using rv) hw
noncomputable def gD1(to ti:TE)(t:eF4):TG:=λv O H Q=>to O H λo H1=>ti O H1 λi H2=>t o i v H2 λH3=>Q O H3
theorem fA1{o i:Expr}{to ti:TE}{t:eF4}(ho:PE X o to)(hi:PE X i ti)(hs:fF7 X t)
 (ha:∀v,assign (.Subscript o i pos) X.env v= (do
   let ov <-holding [v] (eval o X.env)
   let iv <-holding [v,ov] (eval i X.env)
   standAt pos
   holding [v,ov,iv] (setItem ov iv v)
   release [v,ov,iv] [])):PG X (.Subscript o i pos) (gD1 to ti t):=by
 intro pins s O H v u Q I r h
 rw[ha]
 refine za (jK (thn (ho pins s O H _ I h) λov s1 ⟨x,H1,I1,r1,q1⟩=>?_))
 refine za (jK (thn (hi pins s1 O H1 _ I1 q1) λiv s2 ⟨y,H2,I2,r2,q2⟩=>?_))
 refine za (wpAny_standAt (za (jK (thn (hs pins s2 O H2 x y v ov iv u _ I2 r1 r2 r q2) λ_ s3 ⟨H3,I3,q3⟩=>?_))))
 exact wpAny_release ⟨O,H3,I3,q3⟩
noncomputable def gD2(te:TE)(g:TG):TS:=λD O H=>te O H λx H1=>g x O H1 D.nx
theorem fF1{tg e:Expr}{te:TE}{g:TG}(he:PE X e te)(hg:PG X tg g)(hs:swapsWithSole [tg] e pos.line X.env=pure false)(hw:swappedStores [tg] e X.env=pure none)
 (h1:(assignEach [tg] X.env).map (·.2)= [assign tg X.env]):PS X (.Assign [tg] e pos) (gD2 te g):=by
 intro pins s O H D I h
 refine wpAny_Assign_stores (thn (he pins s O H _ I h) λv s1 hE1=>hE1.elim λx H1 I1 r1 q1=>?_) hs hw
 rw[h1]
 exact thn (hg pins s1 O H1 x v _ I1 r1 q1) λ_ s2 q=>q
end
section
variable{X:Cx}{pos:Pos}
noncomputable def fK9(c:TT)(tb:TS):TS:=λD O H=>∃W:Nat->St->Hp->Prop,(∃m,W m O H)/\∀m O H,W m O H->
 c O H λb H1=>if b=true then ∃N:St->Hp->Prop,(∀ X1 H',N X1 H'->∃m',m'<m/\W m' X1 H')/\tb {D with nx:=N,ct:=N,bk:=D.nx} O H1 else D.nx O H1
theorem eB0{c:Expr}{body:List Stmt}{tc:TT}{tb:TS}(hp:PassesOwn (zH X.prog X.w) X.A X.env X.xe)(hc:PT X c tc)(hb:PSs X body tb):PS X (.While c body [] pos) (fK9 tc tb):=by
 intro pins s O H D I h
 obtain⟨W,⟨m0,w0⟩,turn⟩:=h
 refine wpAny_While (codeAny_whileLoop (λn s'=>∃ X1 H',Inv X pins X1 H' s'/\W n X1 H') ?_ m0 ⟨O,H,I,w0⟩)
 rintro n s1 ⟨W1,H1,I1,w1⟩
 refine JI hp (thn (hc pins s1 W1 H1 _ I1 (turn n W1 H1 w1)) λb s2 hE1=>hE1.elim λH2 I2 q2=>?_)
 cases b with
 |true=>
   obtain⟨N,hN,q2⟩:=q2
   rw[if_pos rfl]
   refine JI hp (thn (hb pins s2 W1 H2 _ I2 q2) λf s3 q3=>?_)
   cases f with
   |next=>
     obtain⟨WH,H3,I3,n3⟩:=q3
     obtain⟨m',hm,w3⟩:=hN WH H3 n3
     exact⟨m',hm,WH,H3,I3,w3⟩
   |cont=>
     obtain⟨WH,H3,I3,n3⟩:=q3
     obtain⟨m',hm,w3⟩:=hN WH H3 n3
     exact⟨m',hm,WH,H3,I3,w3⟩
   |brk=>exact q3
   |ret v=>exact q3
 |false=>
   rw[if_neg jc]
   exact Zm ⟨W1,H2,I2,q2⟩
end
structure It where
 go:Nat->Hp->Prop
 yld:Nat->Hp->V->Hp->Prop
 stop:Nat->Hp->Prop
noncomputable def bB9(X:Cx)(pins:PNS)(H:Hp)(b:Addr):Prop:=
 H b=none/\b≠X.env.locals/\b∉X.fs/\(b∈X.ex\/X.WV.heap.objs.size<=b)/\(∀x c,X.env.cells.lookup x=some c->c≠b)/\∀p∈X.pn++pins,p.1≠b
theorem Inv.fpOk{X:Cx}{pins:PNS}{O:St}{H H':Hp}{s:zm}{b:Addr}(I:Inv X pins O H s)(hb:s.heap.objs.size<=b)(hn:H' b=none):bB9 X pins H' b:=by
 refine⟨hn,xA (zO I.lt hb),I.nofs hb,.inr (zv I.sz hb),λx c e z=>?_,λp hp z=>?_⟩
 · obtain⟨v,q⟩:=I.cell x c e
   exact absurd (zO q.lt (by rw[z];exact hb)) (yd _)
 ·exact absurd (zO (zA (I.pin p hp).1) (by rw[z];exact hb)) (yd _)
inductive TIt(X:Cx)(pins:PNS)(O:St)(J:It)(fp:List Addr)(tn:Nat->Heap->Prop)(i:Nat)(H:Hp)(u:ze)(s2:zm):Prop
 |mk (x:V) (H':Hp) (I:Inv X pins O H' s2) (r:M3 x u) (y:J.yld i H x H') (st:tn (i+1) s2.heap) (fr:∀b∈fp,H' b=none)
structure bZ7(P:zE)(w:zP)(K:zk)(tg:Expr)(J:It)(fp:List Addr)(it:Addr)(tn:Nat->Heap->Prop):Prop where
 mem:it∈fp
 obj:∀i h,tn i h->∀b∈fp,∃o,h.get? b=some o/\∀v,o.data≠ .cell v
 keep:∀i h h',tn i h->(∀b∈fp,∀o,h.get? b=some o->h'.get? b=some o)->tn i h'
 item:∀(X:Cx),X.prog=P->X.w=w->X.K=K->X.calm=true->∀(i:Nat) (pins:PNS) (s:zm) (O:St) (H:Hp) (E:VSP),Inv X pins O H s->(∀b∈fp,bB9 X pins H b)->tn i s.heap->J.go i H->
  zy (zH P w) X.A (pyNext (.ref it)) (λr s1=>∃u,r=some u/\
   zy (zH P w) X.A (letOwnedTupleGo tg (.ref it) u) (λ_ s2=>TIt X pins O J fp tn i H u s2) E s1) E s
 done:∀(X:Cx),X.prog=P->X.w=w->X.K=K->X.calm=true->∀(i:Nat) (pins:PNS) (s:zm) (O:St) (H:Hp) (E:VSP),Inv X pins O H s->(∀b∈fp,bB9 X pins H b)->tn i s.heap->J.stop i H->
  zy (zH P w) X.A (pyNext (.ref it)) (λr s1=>r=none/\Inv X pins O H s1) E s
 self:∀(A:zK) (i:Nat) (s:zm) (Q:VSP) (E:VSP),tn i s.heap->Q (.ref it) s->zy (zH P w) A (pyIter (.ref it)) Q E s
noncomputable abbrev TI:=St->Hp->(It->Hp->Prop)->Prop
inductive PIE(X:Cx)(pins:PNS)(O:St)(tg:Expr)(R:It->Hp->Prop)(itv:ze)(s2:zm):Prop
 |mk (it:Addr) (fp:List Addr) (tn:Nat->Heap->Prop) (J:It) (H':Hp) (e:itv= .ref it) (I:Inv X pins O H' s2) (T:bZ7 X.prog X.w X.K tg J fp it tn) (st:tn 0 s2.heap) (f:∀b∈fp,bB9 X pins H' b) (r:R J H')
noncomputable def PI(X:Cx)(tg iter:Expr)(wi:TI):Prop:=
 ∀(pins:PNS) (s:zm) (O:St) (H:Hp) (R:It->Hp->Prop),Inv X pins O H s->wi O H R->
  zy (zH X.prog X.w) X.A (eval iter X.env) (λv s1=>zy (zH X.prog X.w) X.A (pyIter v) (PIE X pins O tg R) X.xe s1) X.xe s
theorem cD5{M:Model}{A:zK}{E:VSP}{s:zm}{tg:Expr}{it:Addr}{u:ze}{o:Obj}{n:String}{vs:Array ze}{Q:Unit->zm->Prop}(ho:s.heap.get? it=some o)(hc:o.cls= .type n)(hd:o.data= .fields vs)
 (hn: ["enumerate", "zip", "dict_itemiterator", "dict_reverseitemiterator", "odict_iterator", "itertools.zip_longest", "itertools.pairwise"].contains n=false) (hQ:Q () s):zy M A (letOwnedTupleGo tg (.ref it) u) Q E s:=by
 unfold letOwnedTupleGo
 cases tg<;>first
  |exact zt hQ
  | (cases u <;> first
      |exact zt hQ
      | (refine za (wpAny_load ho ?_)
         rw[hc,hd]
         show zy M A (if (["enumerate", "zip", "dict_itemiterator", "dict_reverseitemiterator", "odict_iterator", "itertools.zip_longest", "itertools.pairwise"].contains n&&vs[0]? == some (yH _))=true then _ else _) Q E s
         rw[if_neg (by intro h;rw[hn,jP]at h;cases h)]
         exact zt hQ))
def Itl(K:zk)(a:Addr):It:=
 ⟨λi H=>∃xs x,SqL K H a xs/\xs[i]? =some x,λi H x H'=>H'=H/\∀xs,SqL K H a xs->xs[i]? =some x,λi H=>∃xs,SqL K H a xs/\xs.length<=i⟩
def Itt(K:zk)(a:Addr):It:=
 ⟨λi H=>∃xs x,SqT K H a xs/\xs[i]? =some x,λi H x H'=>H'=H/\∀xs,SqT K H a xs->xs[i]? =some x,λi H=>∃xs,SqT K H a xs/\xs.length<=i⟩
noncomputable def Itr(lo:Int)(n:Nat):It:=⟨λi _=>i<n,λi H x H'=>H'=H/\x= .int (lo+i),λi _=>n<=i⟩
theorem dM0{P:zE}{w:zP}{K:zk}{tg:Expr}(a it:Addr):bZ7 P w K tg (Itl K a) [it] it (λi h=>h.IsListIter it a i) where
 mem:=by simp
 obj:=λi h st b hb=>by
  have e:b=it:=by simpa using hb
  subst e
  obtain⟨o,e,c,d⟩:=st
  exact⟨o,e,λv z=>by rw[d]at z;cases z⟩
 keep:=λi h h' st k=>st.at λo e=>k it (by simp) o e
 item:=by
  intro X hP hw hK hc i pins s O H E I hf st hg
  subst hP hw hK
  obtain⟨xs,x,hq,hx⟩:=hg
  obtain⟨its,rv,p,hz⟩:=I.list hq
  obtain⟨u,hu,ru⟩:=rv.get hx
  obtain⟨f0,f1,f2,f3,f4,f5⟩:=hf it (by simp)
  refine wpAny_pyNext_list_item st p.isList (x:=u) (by simpa using hu) λh' st' sb=>?_
  have I1:Inv X pins O H {s with heap:=h'}:=I.turned (t':=s.toks) (λb o hb e=>(sb.2 b hb).trans e) f0 f1 f3 f4 f5
  obtain⟨o,e,c,d⟩:=id st'
  exact⟨u,rfl,cD5 (s:={s with heap:=h'}) e c d (by decide) ⟨x,H,I1,ru,⟨rfl,λys hy=>by rw[I.list_inj hy hq];exact hx⟩,st',λb hb=>(hf b hb).1⟩⟩
 done:=by
  intro X hP hw hK hc i pins s O H E I hf st hg
  subst hP hw hK
  obtain⟨xs,hq,hx⟩:=hg
  obtain⟨its,rv,p,hz⟩:=I.list hq
  obtain⟨f0,f1,f2,f3,f4,f5⟩:=hf it (by simp)
  have hl:=rv.length
  exact wpAny_pyNext_list_end (I.ok.hd hc) st p.isList (by simp;lia) λh' eb=>⟨rfl,I.turned (t':=s.toks) (λb o hb e=>eb b o hb e) f0 f1 f3 f4 f5⟩
 self:=λ_ _ _ _ _ st h=>wpAny_pyIter_listiter st h
theorem dC0{P:zE}{w:zP}{K:zk}{tg:Expr}(a it:Addr):bZ7 P w K tg (Itt K a) [it] it (λi h=>h.IsTupleIter it a i) where
 mem:=by simp
 obj:=λi h st b hb=>by
  have e:b=it:=by simpa using hb
  subst e
  obtain⟨o,e,c,d⟩:=st
  exact⟨o,e,λv z=>by rw[d]at z;cases z⟩
 keep:=λi h h' st k=>st.at λo e=>k it (by simp) o e
 item:=by
  intro X hP hw hK hc i pins s O H E I hf st hg
  subst hP hw hK
  obtain⟨xs,x,hq,hx⟩:=hg
  obtain⟨its,rv,p,hz⟩:=I.tuple hq
  obtain⟨u,hu,ru⟩:=rv.get hx
  obtain⟨f0,f1,f2,f3,f4,f5⟩:=hf it (by simp)
  refine wpAny_pyNext_tuple_item st (show s.heap.IsTuple a its.toArray from p) (x:=u) (by simpa using hu) λh' st' sb=>?_
  have I1:Inv X pins O H {s with heap:=h'}:=I.turned (t':=s.toks) (λb o hb e=>(sb.2 b hb).trans e) f0 f1 f3 f4 f5
  obtain⟨o,e,c,d⟩:=id st'
  exact⟨u,rfl,cD5 (s:={s with heap:=h'}) e c d (by decide) ⟨x,H,I1,ru,⟨rfl,λys hy=>by rw[I.tuple_inj hy hq];exact hx⟩,st',λb hb=>(hf b hb).1⟩⟩
 done:=by
  intro X hP hw hK hc i pins s O H E I hf st hg
  subst hP hw hK
  obtain⟨xs,hq,hx⟩:=hg
  obtain⟨its,rv,p,hz⟩:=I.tuple hq
  obtain⟨f0,f1,f2,f3,f4,f5⟩:=hf it (by simp)
  have hl:=rv.length
  exact wpAny_pyNext_tuple_end (I.ok.hd hc) st (show s.heap.IsTuple a its.toArray from p) (by simp;lia) λh' eb=>⟨rfl,I.turned (t':=s.toks) (λb o hb e=>eb b o hb e) f0 f1 f3 f4 f5⟩
 self:=λ_ _ _ _ _ st h=>wpAny_pyIter_tupleiter st h
theorem dB8{P:zE}{w:zP}{K:zk}{tg:Expr}(it:Addr)(lo:Int)(n:Nat):bZ7 P w K tg (Itr lo n) [it] it (λi h=>IsRangeIter h it (lo+(i:Nat)*1) ((n:Int)-(i:Nat)) 1) where
 mem:=by simp
 obj:=λi h st b hb=>by
  have e:b=it:=by simpa using hb
  subst e
  exact⟨_,st,λv z=>by
   have z':Data.fields _=Data.cell v:=z
   cases z'⟩
 keep:=λi h h' st k=>k it (by simp) _ st
 item:=by
  intro X hP hw hK hc i pins s O H E I hf st hg
  subst hP hw hK
  obtain⟨f0,f1,f2,f3,f4,f5⟩:=hf it (by simp)
  have W:=Walks.range (prog:=X.prog) (w:=X.w) (I.ok.hd hc) it lo 1 n
  refine W.item i s _ _ hg st λv h' tk hv st' kk=>?_
  obtain⟨t,rfl⟩:=hv
  have I1:Inv X pins O H {s with heap:=h',toks:=tk}:=I.turned (λb o hb e=>kk b o (by simpa using hb) e) f0 f1 f3 f4 f5
  refine⟨_,rfl,cD5 (s:={s with heap:=h',toks:=tk}) (n:= "range_iterator") st' rfl rfl (by decide) ⟨.int (lo+i),H,I1,⟨t,?_⟩,⟨rfl,rfl⟩,st',λb hb=>(hf b hb).1⟩⟩
  rw[Int.mul_one]
 done:=by
  intro X hP hw hK hc i pins s O H E I hf st hg
  subst hP hw hK
  obtain⟨f0,f1,f2,f3,f4,f5⟩:=hf it (by simp)
  exact wpAny_pyNext_range_end (I.ok.hd hc) st (by have:n<=i:=hg;lia) λh' eb=>⟨rfl,I.turned (t':=s.toks) (λb o hb e=>eb b o hb e) f0 f1 f3 f4 f5⟩
 self:=λ_ _ _ _ _ st h=>wpAny_pyIter_rangeiter st h
section
variable{X:Cx}{tg:Expr}
theorem cR3{pins:PNS}{O:St}{H:Hp}{s:zm}{R:It->Hp->Prop}{E:VSP}{lo hi:Int}{t u v:Tok}{tk:Nat}(I:Inv X pins O H s)(h1: -(2 ^ 62)<=lo)(h2:lo<2 ^ 62)(h3: -(2 ^ 62)<=hi)(h4:hi<2 ^ 62)
 (q:R (Itr lo (hi-lo).toNat) H):zy (zH X.prog X.w) X.A (pyIter (.ref s.heap.objs.size)) (PIE X pins O tg R) E {s with heap:=s.heap.push {cls:=.type "range",data:=.fields #[.int lo t,.int hi u,.int 1 v]},toks:=tk}:=by
 refine wpAny_pyIter_range (IsRange.new ..) (small_one h1 h2 h3 h4) ?_
 have I1:Inv X pins O H {s with heap:=s.heap.push {cls:=.type "range",data:=.fields #[.int lo t,.int hi u,.int 1 v]},toks:=tk}:=I.kept λb o e=>zj _ e
 refine⟨(s.heap.push {cls:=.type "range",data:=.fields #[.int lo t,.int hi u,.int 1 v]}).objs.size, [(s.heap.push {cls:=.type "range",data:=.fields #[.int lo t,.int hi u,.int 1 v]}).objs.size],_,_,H,rfl,
  I1.kept (t':=tk) λb o e=>zj _ e,dB8 _ lo (hi-lo).toNat,?_,λb hb=>?_,q⟩
 · have e1:lo+((0:Nat):Int)*1=lo:=by simp
   have e2:(((hi-lo).toNat:Nat):Int)-((0:Nat):Int)=JC lo hi 1:=by rw[rangeSize_one];split<;>lia
   show IsRangeIter _ _ (lo+((0:Nat):Int)*1) ((((hi-lo).toNat:Nat):Int)-((0:Nat):Int)) 1
   rw[e1,e2]
   exact zC _ rfl
 · have e:b= (s.heap.push {cls:=.type "range",data:=.fields #[.int lo t,.int hi u,.int 1 v]}).objs.size:=by simpa using hb
   subst e
   exact I1.fpOk (zd _) (I1.hok.fresh (zd _))
def fO9(ta:TA):TI:=λO H R=>ta O H λvs H1=>∃j:Int,vs= [.int j]/\ -(2 ^ 62)<=j/\j<2 ^ 62/\R (Itr 0 j.toNat) H1
def fV8(ta:TA):TI:=λO H R=>ta O H λvs H1=>∃i j:Int,vs= [.int i,.int j]/\(-(2 ^ 62)<=i/\i<2 ^ 62/\ -(2 ^ 62)<=j/\j<2 ^ 62)/\R (Itr i (j-i).toNat) H1
theorem dM3{a:Expr}{ta:TA}{p pos:Pos}(hg:Gl X "range")(hm:X.mg "range" =none)(ha:PA X [a] ta)(hs:zJ [a] X.env= [(false,eval a X.env)]):PI X tg (.Call (.Name "range" p) [a] [] pos) (fO9 ta):=by
 intro pins s O H R I h
 refine Jv (aW2 I hg hm boot_range (jw (thn (ha pos pins s O H _ I h) λus s1 hE1=>hE1.elim λvs H1 I1 r1 q1=>?_) hs rfl))
 obtain⟨j,e,q1,q2,q⟩:=q1
 subst e
 cases r1 with
 |cons r rr=>
   cases rr
   obtain⟨t,rfl⟩:=r
   exact call_range_1 (cR3 I1 (by lia) (by lia) q1 q2 (by simpa using q))
theorem dL1{a b:Expr}{ta:TA}{p pos:Pos}(hg:Gl X "range")(hm:X.mg "range" =none)(ha:PA X [a,b] ta)(hs:zJ [a,b] X.env= [(false,eval a X.env),(false,eval b X.env)])(hs2:zJ [b] X.env= [(false,eval b X.env)]):
 PI X tg (.Call (.Name "range" p) [a,b] [] pos) (fV8 ta):=by
 intro pins s O H R I h
 refine Jv (aW2 I hg hm boot_range (jw (thn (ha pos pins s O H _ I h) λus s1 hE1=>hE1.elim λvs H1 I1 r1 q1=>?_) (by rw[hs,hs2]) (by rw[hs2];rfl)))
 obtain⟨i,j,e,⟨q1,q2,q3,q4⟩,q⟩:=q1
 subst e
 cases r1 with
 |cons r rr=>
   cases rr with
   |cons r' rr=>
     cases rr
     obtain⟨t,rfl⟩:=r
     obtain⟨t',rfl⟩:=r'
     exact call_range_2 (cR3 I1 q1 q2 q3 q4 q)
noncomputable def fZ7(wi:TI)(g:TG)(tb:TS):TS:=λD O H=>wi O H λJ H1=>∃W:Nat->Nat->St->Hp->Prop,(∃m,W 0 m O H1)/\∀i m O H,W i m O H->
 (J.stop i H/\D.nx O H)\/(J.go i H/\∃N:St->Hp->Prop,(∀ X1 H',N X1 H'->∃m',m'<m/\W (i+1) m' X1 H')/\∀x H',J.yld i H x H'->g x O H' λσ2 H2=>tb {D with nx:=N,ct:=N,bk:=D.nx} σ2 H2)
noncomputable def bY4(fp:List Addr)(h:Heap):PNS:=fp.filterMap λb=>(h.get? b).map λo=>(b,o)
theorem aV2{fp:List Addr}{h:Heap}{b:Addr}{o:Obj}(hb:b∈fp)(e:h.get? b=some o):(b,o)∈bY4 fp h:=XB.mpr ⟨b,hb,by rw[e];rfl⟩
theorem dK2{fp:List Addr}{h:Heap}{p:Addr×Obj}(hp:p∈bY4 fp h):p.1∈fp/\h.get? p.1=some p.2:=by
 obtain⟨b,hb,e⟩:=XB.mp hp
 cases q:h.get? b with
 |none=>rw[q]at e;cases e
 |some o=>
   rw[q]at e
   have e':(b,o)=p:=jd e
   subst e'
   exact⟨hb,q⟩
theorem Inv.pinned{pins:PNS}{O:St}{H:Hp}{s:zm}{fp:List Addr}(I:Inv X pins O H s)(hf:∀b∈fp,bB9 X pins H b)(ho:∀b∈fp,∃o,s.heap.get? b=some o/\∀v,o.data≠ .cell v):Inv X (pins++bY4 fp s.heap) O H s:=
 I.pins_of λp hp=>(zG.mp hp).elim (λz=>I.pin p (zV _ z)) λz=>by
  obtain⟨hb,e⟩:=dK2 z
  obtain⟨f0,f1,f2,_⟩:=hf p.1 hb
  obtain⟨o,e',d⟩:=ho p.1 hb
  rw[e]at e';cases e'
  exact⟨e,f0,f1,f2,d⟩
theorem Inv.unpinned{pins pl:PNS}{O:St}{H:Hp}{s:zm}(I:Inv X (pins++pl) O H s):Inv X pins O H s:=I.pins_of λp hp=>I.pin p (zV _ (jZ _ hp))
inductive fB4(X:Cx)(pins:PNS)(fp:List Addr)(tn:Nat->Heap->Prop)(W:Nat->Nat->St->Hp->Prop)(n:Nat)(s':zm):Prop
 |mk (i:Nat) (X1:St) (H':Hp) (I:Inv X pins X1 H' s') (st:tn i s'.heap) (fr:∀b∈fp,H' b=none) (w:W i n X1 H')
theorem eJ9{body:List Stmt}{g:TG}{tb:TS}{pins:PNS}{D:cB4}{it:Addr}{fp:List Addr}{tn:Nat->Heap->Prop}{J:It}{W:Nat->Nat->St->Hp->Prop}{EE:VSP}(hp:∀e s,X.xe e s->EE e s)(hc:X.calm=true)(hg:PG X tg g)(hb:PSs X body tb)
 (T:bZ7 X.prog X.w X.K tg J fp it tn) (stat:∀ {H':Hp},(∀b∈fp,H' b=none)->∀b∈fp,bB9 X pins H' b)
 (turn:∀i m O H,W i m O H->
 (J.stop i H/\D.nx O H)\/(J.go i H/\∃N:St->Hp->Prop,(∀ X1 H',N X1 H'->∃m',m'<m/\W (i+1) m' X1 H')/\∀x H',J.yld i H x H'->g x O H' λσ2 H2=>tb {D with nx:=N,ct:=N,bk:=D.nx} σ2 H2))
   {n:Nat} {s3:zm} (h3:fB4 X pins fp tn W n s3) {NX:zm->Prop} (nx:∀m s,m<n->fB4 X pins fp tn W m s->NX s):
   zy (zH X.prog X.w) X.A (pyNext (.ref it)) (λr s1=>match r with
    |none=>zy (zH X.prog X.w) X.A (execs [] X.env) (λf s2=>SP X pins D f s2) EE s1
    | some v => zy (zH X.prog X.w) X.A (letOwnedTupleGo tg (.ref it) v) (λ_ s2 => zy (zH X.prog X.w) X.A (assign tg X.env v) (λ_ s4 => zy (zH X.prog X.w) X.A (execs body X.env) (λf s5 => match f with
       | .next| .cont=>NX s5
       | .brk=>SP X pins D .next s5
       | .ret v=>SP X pins D (.ret v) s5) EE s4) EE s2) EE s1) EE s3:=by
 obtain⟨i,WH,H3,I3,st3,fr3,w3⟩:=h3
 rcases turn i n WH H3 w3 with⟨stop,qn⟩|⟨go,N,hN,step⟩
 · refine yb (T.done X rfl rfl rfl hc i pins s3 WH H3 X.xe I3 (stat fr3) st3 stop) (λr s4 z1=>?_) hp
   obtain⟨hr,I4⟩:=z1
   subst hr
   exact Zm ⟨WH,H3,I4,qn⟩
 · refine yb (T.item X rfl rfl rfl hc i pins s3 WH H3 X.xe I3 (stat fr3) st3 go) (λr s4 z2=>?_) hp
   obtain⟨u,hr,h4⟩:=z2
   subst hr
   refine yb h4 (λ_ s5 z3=>?_) hp
   obtain⟨x,H5,I5,r5,y5,st5,fr5⟩:=z3
   have I5':=I5.pinned (stat fr5) (T.obj _ _ st5)
   refine yb (hg _ s5 WH H5 x u _ I5' r5 (step x H5 y5)) (λ_ s6 z4=>?_) hp
   obtain⟨WL,H6,I6,q6⟩:=z4
   refine yb (hb _ s6 WL H6 _ I6 q6) (λf s7 q7=>?_) hp
   have again:∀ {WJ:St} {H7:Hp},Inv X (pins++bY4 fp s5.heap) WJ H7 s7->N WJ H7->NX s7:=λ{WJ H7} I7 n7=>by
    obtain⟨m',hm,w7⟩:=hN WJ H7 n7
    refine nx m' _ hm ⟨i+1,WJ,H7,I7.unpinned,T.keep _ _ _ st5 λb hb o e=>(I7.pin (b,o) (zV _ (zV _ (aV2 hb e)))).1,λb hb=>?_,w7⟩
    obtain⟨o,e,d⟩:=T.obj _ _ st5 b hb
    exact(I7.pin (b,o) (zV _ (zV _ (aV2 hb e)))).2.1
   cases f with
   |next=>obtain⟨WJ,H7,I7,n7⟩:=q7;exact again I7 n7
   |cont=>obtain⟨WJ,H7,I7,n7⟩:=q7;exact again I7 n7
   |brk=>obtain⟨WJ,H7,I7,q7⟩:=q7;exact⟨WJ,H7,I7.unpinned,q7⟩
   |ret v=>obtain⟨x7,WJ,H7,I7,r7,q7⟩:=q7;exact⟨x7,WJ,H7,I7.unpinned,r7,q7⟩
theorem fL5{iter:Expr}{body:List Stmt}{wi:TI}{g:TG}{tb:TS}{pos:Pos}(hp:PassesOwn (zH X.prog X.w) X.A X.env X.xe)(hc:X.calm=true)(hi:PI X tg iter wi)(hg:PG X tg g)(hb:PSs X body tb)
 (hs:∀x,foldedSetIterable iter X.env x=pure x):PS X (.For tg iter body [] pos) (fZ7 wi g tb):=by
 intro pins s O H D I h
 refine wpAny_For (thn (hi pins s O H _ I h) λv s1 h1=>thn h1 λitv s2 h2=>?_) hs
 obtain⟨it,fp,tn,J,H2,e,I2,T,st2,f2,W,⟨m0,w0⟩,turn⟩:=h2
 subst e
 -- what stays true of the iterator's objects through the loop
 have stat:∀ {H':Hp},(∀b∈fp,H' b=none)->∀b∈fp,bB9 X pins H' b:=λhn b hb=>⟨hn b hb,(f2 b hb).2⟩
 exact codeAny_forLoop_any (fB4 X pins fp tn W) (λn s3 h3=>eJ9 hp hc hg hb T stat turn h3 λm s h1 h2=>⟨m,h1,h2⟩) m0 ⟨0,O,H2,I2,st2,λb hb=>(f2 b hb).1,w0⟩
end
noncomputable abbrev R2:=V->V->Hp->VK->Prop
def OpR(X:Cx)(f:ze->ze->Sem ze)(r:R2):Prop:=
 ∀(pins:PNS) (s:zm) (O:St) (H:Hp) (x y:V) (v u:ze) (Q:VK),Inv X pins O H s->M3 x v->M3 y u->r x y H Q->
  zy (zH X.prog X.w) X.A (f v u) (EP X pins O Q) X.xe s
def UnR(X:Cx)(f:ze->Sem ze)(r:V->Hp->VK->Prop):Prop:=
 ∀(pins:PNS) (s:zm) (O:St) (H:Hp) (x:V) (v:ze) (Q:VK),Inv X pins O H s->M3 x v->r x H Q->
  zy (zH X.prog X.w) X.A (f v) (EP X pins O Q) X.xe s
def aE5(X:Cx)(f:ze)(r:List V->Hp->VK->Prop):Prop:=
 ∀(pins:PNS) (s:zm) (O:St) (H:Hp) (xs:List V) (us:List ze) (Q:VK),Inv X pins O H s->J7 xs us->r xs H Q->
  zy (zH X.prog X.w) X.A (call f us) (EP X pins O Q) X.xe s
def gB3(X:Cx)(r:V->Hp->(Bool->Hp->Prop)->Prop):Prop:=
 ∀(pins:PNS) (s:zm) (O:St) (H:Hp) (x:V) (v:ze) (Q:Bool->Hp->Prop),Inv X pins O H s->M3 x v->r x H Q->
  zy (zH X.prog X.w) X.A (truthy v) (TP X pins O Q) X.xe s
noncomputable def tOp(r:R2)(ta tb:TE):TE:=λO H Q=>ta O H λx H1=>tb O H1 λy H2=>r x y H2 Q
noncomputable def tUn(r:V->Hp->VK->Prop)(ta:TE):TE:=λO H Q=>ta O H λx H1=>r x H1 Q
noncomputable def rI(C:Int->Int->Prop)(g:Int->Int->V):R2:=λx y H Q=>∃i j,x= .int i/\y= .int j/\C i j/\Q (g i j) H
noncomputable def rI0(g:Int->Int->V):R2:=λx y H Q=>∃i j,x= .int i/\y= .int j/\Q (g i j) H
noncomputable def rU(g:Int->V):V->Hp->VK->Prop:=λx H Q=>∃i,x= .int i/\Q (g i) H
section
variable{X:Cx}{a b c:Expr}{ta tb tc:TE}{pos:Pos}
theorem eX0(ha:PE X a ta)(hb:PE X b tb){pins:PNS}{s:zm}{O:St}{H:Hp}{R:V->V->Hp->Prop}(I:Inv X pins O H s)
 (h:ta O H λx H1=>tb O H1 λy H2=>R x y H2) {Q:VSP} {f:ze->ze->Sem ze}
 (hf:∀v u s2 x y H2,Inv X pins O H2 s2->M3 x v->M3 y u->R x y H2->zy (zH X.prog X.w) X.A (f v u) Q X.xe s2):
 zy (zH X.prog X.w) X.A (eval a X.env) (λv WZ=>zy (zH X.prog X.w) X.A (eval b X.env) (λu s₂=>zy (zH X.prog X.w) X.A (f v u) Q X.xe s₂) X.xe WZ) X.xe s:=by
 refine thn (ha pins s O H _ I h) λv s1 hE1=>hE1.elim λx H1 I1 r1 q1=>?_
 refine thn (hb pins s1 O H1 _ I1 q1) λu s2 hE1=>hE1.elim λy H2 I2 r2 q2=>?_
 exact hf v u s2 x y H2 I2 r1 r2 q2
theorem eD1{op:Operator}{r:R2}(ho:OpR X (jT op) r)(ha:PE X a ta)(hb:PE X b tb):PE X (.BinOp a op b pos) (tOp r ta tb):=by
 intro pins s O H Q I h
 exact wpAny_BinOp (eX0 ha hb I h λv u s2 x y H2 I2 rx ry q=>ho pins s2 O H2 x y v u Q I2 rx ry q)
theorem eS8{op:UnaryOp}{r:V->Hp->VK->Prop}(ho:UnR X (unaryOp op) r)(ha:PE X a ta):PE X (.UnaryOp op a pos) (tUn r ta):=by
 intro pins s O H Q I h
 exact UnaryOp_ (thn (ha pins s O H _ I h) λv s1 hE1=>hE1.elim λx H1 I1 r1 q1=>ho pins s1 O H1 x v Q I1 r1 q1)
theorem opI{f:ze->ze->Sem ze}{C:Int->Int->Prop}{g:Int->Int->Int}
 (rule:∀(i j:Int) (t u:Tok) (s:zm) (Q:VSP) (E:VSP),C i j->Q (.int (g i j) s.toks) {s with toks:=s.toks+1}->zy (zH X.prog X.w) X.A (f (.int i t) (.int j u)) Q E s):
 OpR X f (rI C λi j=>.int (g i j)):=by
 intro pins s O H x y v u Q I rx ry h
 obtain⟨i,j,rfl,rfl,hc,q⟩:=h
 obtain⟨t,rfl⟩:=rx
 obtain⟨t',rfl⟩:=ry
 exact rule i j t t' s _ _ hc ⟨.int (g i j),H,I.tok _,⟨_,rfl⟩,q⟩
theorem fW3{f:ze->ze->Sem ze}{g:Int->Int->Int}
 (rule:∀(i j:Int) (t u:Tok) (s:zm) (Q:VSP) (E:VSP),Q (.int (g i j) s.toks) {s with toks:=s.toks+1}->zy (zH X.prog X.w) X.A (f (.int i t) (.int j u)) Q E s):
 OpR X f (rI0 λi j=>.int (g i j)):=by
 intro pins s O H x y v u Q I rx ry h
 obtain⟨i,j,rfl,rfl,q⟩:=h
 obtain⟨t,rfl⟩:=rx
 obtain⟨t',rfl⟩:=ry
 exact rule i j t t' s _ _ ⟨.int (g i j),H,I.tok _,⟨_,rfl⟩,q⟩
theorem fW5{f:ze->ze->Sem ze}{g:Int->Int->Bool}
 (rule:∀(i j:Int) (t u:Tok) (s:zm) (Q:VSP) (E:VSP),Q (.bool (g i j)) s->zy (zH X.prog X.w) X.A (f (.int i t) (.int j u)) Q E s):
 OpR X f (rI0 λi j=>.bl (g i j)):=by
 intro pins s O H x y v u Q I rx ry h
 obtain⟨i,j,rfl,rfl,q⟩:=h
 obtain⟨t,rfl⟩:=rx
 obtain⟨t',rfl⟩:=ry
 exact rule i j t t' s _ _ ⟨.bl (g i j),H,I,rfl,q⟩
noncomputable def dM8(i j:Int):Prop:=0<=j/\j<=1000000/\i.natAbs<2 ^ 64
noncomputable def cB6(i j:Int):Prop:=(-(2 ^ 64)<i/\i<2 ^ 64)\/(-(2 ^ 64)<j/\j<2 ^ 64)
theorem cB6.ok{i j:Int}(h:cB6 i j):IntMulOk i j:=by
 rcases h with⟨h1,h2⟩|⟨h1,h2⟩
 ·exact .of_left (intBits_le_64 h1 h2)
 ·exact .of_right (intBits_le_64 h1 h2)
theorem fK0:OpR X (jT .Add) (rI0 λi j=>.int (i+j)):=fW3 λ_ _ _ _ _ _ _ q=>add_int q
theorem dX2:OpR X (jT .Sub) (rI0 λi j=>.int (i-j)):=fW3 λ_ _ _ _ _ _ _ q=>sub_int q
theorem fI0:OpR X (jT .Mult) (rI cB6 λi j=>.int (i*j)):=opI λ_ _ _ _ _ _ _ hc q=>mul_int q hc.ok
theorem fA4:OpR X (jT .Mod) (rI (λ_ j=>0<j) λi j=>.int (i % j)):=opI λi j _ _ _ _ _ hc q=>by
 have h1:(0:Int)<j:=hc
 exact mod_int' (by lia) (by rw[Int.fmod_eq_emod_of_nonneg i (by lia)];exact q)
theorem dQ8:OpR X (jT .Pow) (rI dM8 λi j=>.int (i ^ j.toNat)):=opI λ_ _ _ _ _ _ _ hc q=>pow_int_small hc.1 hc.2.1 hc.2.2 q
theorem unI{f:ze->Sem ze}{g:Int->Int}
 (rule:∀(i:Int) (t:Tok) (s:zm) (Q:VSP) (E:VSP),Q (.int (g i) s.toks) {s with toks:=s.toks+1}->zy (zH X.prog X.w) X.A (f (.int i t)) Q E s):
 UnR X f (rU λi=>.int (g i)):=by
 intro pins s O H x v Q I rx h
 obtain⟨i,rfl,q⟩:=h
 obtain⟨t,rfl⟩:=rx
 exact rule i t s _ _ ⟨.int (g i),H,I.tok _,⟨_,rfl⟩,q⟩
theorem dT3:UnR X (unaryOp .USub) (rU λi=>.int (-i)):=unI λ_ _ _ _ _ q=>neg_int q
end
section
variable{X:Cx}{a b c:Expr}{ta tb tc:TE}{pos:Pos}
theorem cY7{pins:PNS}{O:St}{H:Hp}{s:zm}{Q:VK}{k k':Bool}(I:Inv X pins O H s)(q:Q (.bl k) H)(e:k=k'):EP X pins O Q (.bool k') s:=by
 subst e
 exact⟨.bl k,H,I,rfl,q⟩
theorem fS6:OpR X (zL .LtE) (rI0 λi j=>.bl (decide (i<=j))):=fW5 λ_ _ _ _ _ _ _ q=>le_int q
theorem fS5:OpR X (zL .Gt) (rI0 λi j=>.bl (decide (j<i))):=fW5 λ_ _ _ _ _ _ _ q=>gt_int q
theorem dP2:OpR X (zL .In) (λx y H Q=>∃i j,x= .str i/\y= .str j/\Q (.bl (!(jI j i 0 j.length 1).isEmpty)) H):=by
 intro pins s O H x y v u Q I rx ry h
 obtain⟨i,j,rfl,rfl,q⟩:=h
 obtain⟨t,rfl⟩:=rx
 obtain⟨t',rfl⟩:=ry
 exact in_str (cY7 I q rfl)
theorem fE7:OpR X (zL .Is) (λx y H Q=>y= .non/\Q (.bl (decide (x= .non))) H):=by
 intro pins s O H x y v u Q I rx ry h
 obtain⟨rfl,q⟩:=h
 cases ry
 refine is_none_gen (cY7 I q ?_)
 cases x<;>first
  |(cases rx;rfl)
  |(obtain⟨t,rfl⟩:=rx;rfl)
theorem eI5:OpR X (zL .IsNot) (λx y H Q=>y= .non/\Q (.bl (!decide (x= .non))) H):=by
 intro pins s O H x y v u Q I rx ry h
 obtain⟨rfl,q⟩:=h
 cases ry
 refine isnot_none_gen (cY7 I q ?_)
 cases x<;>first
  |(cases rx;rfl)
  |(obtain⟨t,rfl⟩:=rx;rfl)
theorem OpR.or{f:ze->ze->Sem ze}{r r':R2}(h:OpR X f r)(h':OpR X f r'):OpR X f (λx y H Q=>r x y H Q\/r' x y H Q):=by
 intro pins s O H x y v u Q I rx ry q
 rcases q with q|q
 ·exact h pins s O H x y v u Q I rx ry q
 ·exact h' pins s O H x y v u Q I rx ry q
theorem eL9{op:CmpOp}{r:R2}(ho:OpR X (zL op) r)(ha:PE X a ta)(hb:PE X b tb)(hm:behindInMarks op b=false):PE X (.Compare a [op] [b] pos) (tOp r ta tb):=by
 intro pins s O H Q I h
 exact wpAny_Compare1 (eX0 ha hb I h λv u s2 x y H2 I2 rx ry q=>ho pins s2 O H2 x y v u Q I2 rx ry q) hm
noncomputable def fQ1(t:TE):TT:=λO H Q=>t O H λx H'=>∃k,x= .bl k/\Q k H'
theorem eF9{op:CmpOp}{r:R2}(ho:OpR X (zL op) r)(ha:PE X a ta)(hb:PE X b tb)(hm:behindInMarks op b=false):PT X (.Compare a [op] [b] pos) (fQ1 (tOp r ta tb)):=by
 intro pins s O H Q I h
 refine wpAny_isTrue_Compare1 (thn (ha pins s O H _ I h) λv s1 hE1=>hE1.elim λx H1 I1 r1 q1=>thn (hb pins s1 O H1 _ I1 q1) λu s2 hE1=>hE1.elim λy H2 I2 r2 q2=>
  thn (ho pins s2 O H2 x y v u _ I2 r1 r2 q2) λc s3 ⟨z,H3,I3,r3,k,e,q3⟩=>?_) hm
 subst e
 cases r3
 exact xi ⟨H3,I3,q3⟩
noncomputable def fL8(r r':R2)(ta tb tc:TE):TE:=λO H Q=>ta O H λx H1=>tb O H1 λy H2=>r x y H2 λz H3=>∃k,z= .bl k/\
 (if k=true then tc O H3 λw' H4=>r' y w' H4 Q else Q (.bl false) H3)
theorem dS1{op op':CmpOp}{r r':R2}(ho:OpR X (zL op) r)(ho':OpR X (zL op') r')(ha:PE X a ta)(hb:PE X b tb)(hc:PE X c tc)
 (hm:lastMarks [op,op'] [b,c]=false):PE X (.Compare a [op,op'] [b,c] pos) (fL8 r r' ta tb tc):=by
 intro pins s O H Q I h
 refine Compare_chain (thn (ha pins s O H _ I h) λv s1 hE1=>hE1.elim λx H1 I1 r1 q1=>chain_link (thn (hb pins s1 O H1 _ I1 q1) λu s2 hE1=>hE1.elim λy H2 I2 r2 q2=>
  thn (ho pins s2 O H2 x y v u _ I2 r1 r2 q2) λd s3 ⟨z,H3,I3,r3,k,e,q3⟩=>?_)) hm
 subst e
 cases r3
 refine xi ?_
 cases k with
 |false=>exact ite_ff ⟨.bl false,H3,I3,rfl,q3⟩
 |true=>exact ite_tt (chain_last (thn (hc pins s3 O H3 _ I3 q3) λw' s4 ⟨z',H4,I4,r4,q4⟩=>ho' pins s4 O H4 y z' u w' Q I4 r2 r4 q4))
def fF8(K:zk)(x:V)(H:Hp)(k:Bool):Prop:=
 match x with
 | .non=>k=false
 | .bl b=>k=b
 | .int i=>k= (i != 0)
 | .str y=>y.length<=zh/\k= ((y.length:Int) != 0)
 | .byt y=>y.size<=zh/\k= ((y.size:Int) != 0)
 | .ref p=>(∃xs,SqL K H p xs/\k= !xs.isEmpty)\/(∃xs,SqT K H p xs/\k= !xs.isEmpty)\/∃kvs,H p=some (.dK kvs)/\k= !kvs.isEmpty
 |_=>False
theorem dB3{κ:Type}{kvs:List (κ×V)}{vs:List (κ×ze)}(r:KV kvs vs):(!vs.isEmpty)= !kvs.isEmpty:=by
 cases r<;>rfl
theorem bZ5{xs:List V}{its:List ze}(r:J7 xs its):(!its.toArray.isEmpty)= !xs.isEmpty:=by
 cases r<;>simp
theorem bF6:(zh:Nat)<2 ^ 63:=by rw[XY];decide
theorem cZ7:gB3 X (λx H Q=>∃k,fF8 X.K x H k/\Q k H):=by
 intro pins s O H x v Q I rx h
 obtain⟨k,e,q⟩:=h
 have hl:=bF6
 have hs:zh=16777216:=XY
 cases x with
 |non=>
   cases rx
   have e':k=false:=e
   subst e'
   exact truthy_none ⟨H,I,q⟩
 |bl b=>
   cases rx
   have e':k=b:=e
   subst e'
   exact xi ⟨H,I,q⟩
 |int i=>
   obtain⟨t,rfl⟩:=rx
   have e':k= (i != 0):=e
   subst e'
   exact PySem.P.truthy_int ⟨H,I,q⟩
 |str y=>
   obtain⟨t,rfl⟩:=rx
   obtain⟨hy,e'⟩:y.length<=zh/\k= ((y.length:Int) != 0):=e
   subst e'
   exact PySem.P.truthy_str (by lia) ⟨H,I.tok _,q⟩
 |byt y=>
   obtain⟨t,rfl⟩:=rx
   obtain⟨hy,e'⟩:y.size<=zh/\k= ((y.size:Int) != 0):=e
   subst e'
   exact PySem.W.truthy_bytes (by lia) ⟨H,I.tok _,q⟩
 |ref p=>
   cases rx
   have e':(∃xs,SqL X.K H p xs/\k= !xs.isEmpty)\/(∃xs,SqT X.K H p xs/\k= !xs.isEmpty)\/∃kvs,H p=some (.dK kvs)/\k= !kvs.isEmpty:=e
   rcases e' with⟨xs,hx,e'⟩|⟨xs,hx,e'⟩|⟨kvs,hx,e'⟩
   · subst e'
     obtain⟨its,r,pl,hz⟩:=I.list hx
     have hlen:=r.length
     exact wpAny_truthy_list pl.isList (by simp only[zr];lia) ⟨H,I.tok _,by rw[bZ5 r];exact q⟩
   · subst e'
     obtain⟨its,r,pl,hz⟩:=I.tuple hx
     have hlen:=r.length
     exact truthy_tuple pl (by simp only[zr];lia) ⟨H,I.tok _,by rw[bZ5 r];exact q⟩
   · subst e'
     obtain⟨hz,hS,vs,r,m⟩:kvs.length<=zh/\(p==sysModules)=false/\∃vs,KV kvs vs/\s.heap.DictOf (V5 X.prog X.w) p vs:=I.hok p _ hx
     have hlen:kvs.length=vs.length:=yC r
     exact wpAny_truthy_dict hS m (by lia) ⟨H,I.tok _,by rw[dB3 r];exact q⟩
 |_=>exact(show False from e).elim
theorem dT0(ha:PE X a ta)(he:∀whole,isTrue a X.env whole= (do let v <-whole;standAt a.pos;holding [v] (truthy v))):
 PT X a (λO H Q=>ta O H λx H'=>∃k,fF8 X.K x H' k/\Q k H'):=by
 intro pins s O H Q I h
 exact isTrue_plain (thn (ha pins s O H _ I h) λv s1 hE1=>hE1.elim λx H1 I1 r1 q1=>cZ7 pins s1 O H1 x v Q I1 r1 q1) (he _)
theorem dA5:OpR X (jT .Add) (λx y H Q=>∃i j,x= .str i/\y= .str j/\i.length+j.length<=zh/\Q (.str (i++j)) H):=by
 intro pins s O H x y v u Q I rx ry h
 obtain⟨i,j,rfl,rfl,hz,q⟩:=h
 obtain⟨t,rfl⟩:=rx
 obtain⟨t',rfl⟩:=ry
 exact add_str (λt' tk=>⟨.str (i++j),H,I.tok _,⟨_,rfl⟩,q⟩) hz
theorem aT1{x:V}{us:List ze}(r:J7 [x] us):∃u,us= [u]/\M3 x u:=by
 cases r with
 |cons r1 r2=>cases r2;exact⟨_,rfl,r1⟩
theorem bV5{x y:V}{us:List ze}(r:J7 [x,y] us):∃u w',us= [u,w']/\M3 x u/\M3 y w':=by
 cases r with
 |cons r1 r2=>
   cases r2 with
   |cons r3 r4=>cases r4;exact⟨_,_,rfl,r1,r3⟩
theorem dP7(hc:X.calm=true):aE5 X (.builtin "min") (λxs H Q=>∃i j,xs= [.int i,.int j]/\Q (.int (if j<i then j else i)) H):=by
 intro pins s O H xs us Q I r h
 obtain⟨i,j,rfl,q⟩:=h
 obtain⟨u,w',rfl,⟨t,rfl⟩,⟨t',rfl⟩⟩:=bV5 r
 refine min_two_ints (I.ok.hd hc) λh' tk k=>⟨_,H,I.kept k,?_,q⟩
 by_cases hj:j<i
 ·rw[if_pos hj,if_pos hj];exact⟨_,rfl⟩
 ·rw[if_neg hj,if_neg hj];exact⟨_,rfl⟩
theorem dJ3:aE5 X (.type "int") (λxs H Q=>(∃i,xs= [.int i]/\Q (.int i) H)\/∃k,xs= [.bl k]/\Q (.int (if k then 1 else 0)) H):=by
 intro pins s O H xs us Q I r h
 rcases h with⟨i,rfl,q⟩|⟨k,rfl,q⟩
 · obtain⟨u,rfl,t,rfl⟩:=aT1 r
   exact call_int_int ⟨.int i,H,I,⟨_,rfl⟩,q⟩
 · obtain⟨u,rfl,r1⟩:=aT1 r
   cases r1
   exact call_int_bool ⟨.int (if k then 1 else 0),H,I.tok _,⟨_,rfl⟩,q⟩
end
structure ObjM(h:Heap)(x dx C:Addr)(mA:Str->Option ze):Prop where
 obj:h.get? x=some (Xv C dx)
 ns:h.Ns1 dx mA
 ne:dx≠x
section
variable{prog:zE}{w:zP}{A:zK}{E:VSP}{s:zm}{K:zk}{x dx C f:Addr}{mA:Str->Option ze}{name:Str}{v:ze}
end
section
variable{P:zE}{w:zP}{H H':Hp}{h h':Heap}{a C dx:Addr}{fs fs':List (Str×V)}
end
structure Cls(K:zk)(C:Addr):Prop where
 pg:PySem.W.plainGet K C Str.empty=true
 hd:PySem.W.hasDictIn K C=true
 po:PySem.W.plainOver K C=true
 sa:xr K (.ref C) "__setattr__" =some (some (.builtin "object.__setattr__"))
structure Con(K:zk)(C:Addr)(f:Str)(v:V)(u:ze):Prop where
 at_:xr K (.ref C) f=some (some u)
 rel:M3 v u
 get:Xa K u "__get__" =some none
 cp:PySem.W.copiedNames.contains f=false
structure Meth(K:zk)(C:Addr)(m:Str)(f:Addr):Prop where
 at_:xr K (.ref C) m=some (some (.ref f))
 fn:Ja K (.ref f)=true
 kp:jV K (.ref f)=true
section
variable{X:Cx}{pins:PNS}{O:St}{H:Hp}{s:zm}{a C dx:Addr}{fs:List (Str×V)}{f:Str}{v:V}{A:zK}{E:VSP}
end
section
variable{X:Cx}{o e value:Expr}{f:Str}{pos pos' tpos:Pos}{ta tv:TE}
end
section
variable{X:Cx}{pins:PNS}{O:St}{H:Hp}{s:zm}{A:zK}{E:VSP}{Q:VSP}{c:ze}{b:Bool}
inductive bV4(K:zk)(H:Hp):V->ze->Prop where
 |non:bV4 K H .non (.type "NoneType")
 |bl (x:Bool):bV4 K H (.bl x) (.type "bool")
 |int (i:Int):bV4 K H (.int i) (.type "int")
 |str (x:Str):bV4 K H (.str x) (.type "str")
 |flt (x:UInt64):bV4 K H (.flt x) (.type "float")
 |lst {a:Addr} {xs:List V} (e:H a=some (.lst xs)):bV4 K H (.ref a) (.type "list")
 |frz {a:Addr} {o:Obj} {xs:List V} (e:H a=some (.frz o (.lst xs))):bV4 K H (.ref a) (.type "list")
 |tup {a:Addr} {xs:List V} (e:H a=some (.tup xs)):bV4 K H (.ref a) (.type "tuple")
 |dK {a:Addr} {kvs:List (Key×V)} (e:H a=some (.dK kvs)):bV4 K H (.ref a) (.type "dict")
 |dT {a:Addr} {kvs:List (List Key×V)} (e:H a=some (.dT kvs)):bV4 K H (.ref a) (.type "dict")
 |ins {a C dx:Addr} {fs:List (Str×V)} (e:H a=some (.ins C dx fs)) (cl:Cls K C) (ha:xr K (.ref C) "__class__" =some (some (.builtin "object.__class__")))
    (hn:Xa K (.builtin "object.__class__") "__get__" =some (some (.builtin "getset_descriptor.__get__"))) (htk:PySem.W.takesIn K (.builtin "object.__class__")=some true)
    (hm:PySem.W.mroIn K C (.type "object")=some true):bV4 K H (.ref a) (.ref C)
end
structure aG6(k:Nat)(A:zK):Prop where
 hd:A.handled=none
 dp:A.depth+3*k+5<recursionLimit
 un:A.units+16*k+200<yq
 gd:A.guards=some []
theorem aG6.mono{j k:Nat}{A:zK}(r:aG6 k A)(h:j<=k):aG6 j A:=⟨r.hd,by have:=r.dp;lia,by have:=r.un;lia,r.gd⟩
theorem aG6.deeper{k:Nat}{A:zK}(r:aG6 (k+1) A)(env:Env):aG6 k (A.deeper env):=
 ⟨r.hd,by have:=r.dp;show A.depth+1+3*k+5<_;lia,by have:=r.un;show A.units+3+16*k+200<_;lia,r.gd⟩
theorem aG6.depth{k:Nat}{A:zK}(r:aG6 k A):A.depth<recursionLimit:=by have:=r.dp;lia
theorem aG6.units{k:Nat}{A:zK}(r:aG6 k A):A.units+64<yq:=by have:=r.un;lia
noncomputable def fQ9:TA:=λ_ H Q=>Q [] H
noncomputable def fQ6(ta:TE)(tr:TA):TA:=λO H Q=>ta O H λx H1=>tr O H1 λxs H2=>Q (x::xs) H2
section
variable{X:Cx}{e:Expr}{es:List Expr}{te:TE}{t:TA}{pos:Pos}
theorem fB8:PA X [] fQ9:=λ_ _ _ _ H Q I h=>Xx ⟨[],H,I,.nil,h⟩
theorem eP9(ha:PE X e te)(hr:PA X es t)(hs:zJ (e::es) X.env= (false,eval e X.env)::zJ es X.env):PA X (e::es) (fQ6 te t):=by
 intro pos pins s O H Q I h
 rw[hs]
 show zy _ _ (spliced ((false,eval e X.env)::backTo pos (zJ es X.env))) _ _ s
 refine Xp (thn (ha pins s O H _ I h) λu s1 hE1=>hE1.elim λx H1 I1 r1 q1=>?_)
 exact thn (hr pos pins s1 O H1 _ I1 q1) λus s2 hE1=>hE1.elim λxs H2 I2 r2 q2=>⟨x::xs,H2,I2,.cons r1 r2,q2⟩
def gC0(t:TA):TE:=λO H Q=>t O H λxs H1=>xs.length<=zh/\∀p,H1 p=none->Q (.ref p) (upd H1 p (.tup xs))
def gC8(t:TA):TE:=λO H Q=>t O H λxs H1=>xs.length<=zh/\∀p,H1 p=none->Q (.ref p) (upd H1 p (.lst xs))
theorem fF0{x1}(h:PA X es t):PE X (.Tuple es x1 pos) (gC0 t):=by
 intro pins s O H Q I hq
 refine wpAny_Tuple_spliced (thn (h pos pins s O H _ I hq) λus s1 ⟨xs,H1,I1,r,z,q⟩=>⟨by rw[<-r.length];exact z,?_⟩)
 have hf:H1 s1.heap.objs.size=none:=I1.hok.fresh (zd _)
 refine⟨.ref s1.heap.objs.size,upd H1 s1.heap.objs.size (.tup xs),I1.laid (t':=s1.toks) (λb u e=>zj _ e) (zd _) ?_,rfl,q _ hf⟩
 exact⟨z,us,r,⟨_,zC _ rfl,rfl,_,rfl⟩⟩
theorem fA6(h:PA X es t):PE X (.List es pos) (gC8 t):=by
 intro pins s O H Q I hq
 refine wpAny_List_spliced (thn (h pos pins s O H _ I hq) λus s1 ⟨xs,H1,I1,r,z,q⟩=>⟨by rw[<-r.length];exact z,?_⟩)
 have hf:H1 s1.heap.objs.size=none:=I1.hok.fresh (zd _)
 refine⟨.ref s1.heap.objs.size,upd H1 s1.heap.objs.size (.lst xs),I1.laid (t':=s1.toks) (λb u e=>zj _ e) (zd _) ?_,rfl,q _ hf⟩
 exact⟨z,us,0,r,zC _ rfl⟩
end
noncomputable abbrev Sp:=List V->Hp->VK->XK->Prop
noncomputable abbrev CXT:=List Env->Hp->zm->XK->VSP
structure eI2(P:zE)(w:zP)(K:zk)(mg:Str->Option ze)(base:Heap)(A:zK)(outer:List Env)(s:zm)(H:Hp):Prop where
 frames:A.frames=some outer
 mod:Mod K mg base
 bs:∀b o,base.get? b=some o->s.heap.get? b=some o/\H b=none
 bsz:base.objs.size<=s.heap.objs.size
 funs:s.heap.FunFrames base outer
 frf:∀b∈frs outer,H b=none
 hok:HOk P w H s.heap
 bare:AllBare s.gens
def CE(outer:List Env)(P:zE)(w:zP)(H:Hp)(s:zm)(Q:VK)(u:ze)(s':zm):Prop:=
 ∃v H',s'.os=s.os/\AllBare s'.gens/\Un (frs outer) [] H H' s.heap s'.heap/\HOk P w H' s'.heap/\M3 v u/\Q v H'
def CR(CX:CXT)(outer:List Env)(P:zE)(w:zP)(H:Hp)(s:zm)(Q:VK)(E:XK)(r:Result)(s':zm):Prop:=
 match r with
 | .ok (.ret u)=>CE outer P w H s Q u s'
 | .ok _=>False
 | .error e=>CX outer H s E e s'
structure M4(P:zE)(w:zP)(K:zk)(mg:Str->Option ze)(base:Heap)(CX:CXT)(k:Nat)(f:Addr)(fd:jm)(ps:List Str)(sp:Sp):Prop where
 len:∀vs H Q E,sp vs H Q E->vs.length=ps.length
 run:∀(A:zK) (outer:List Env) (s:zm) (H:Hp) (args:Args) (us:List ze) (vs:List V) (Q:VK) (E:XK),aG6 k A->eI2 P w K mg base A outer s H->BindsTo s fd args (ps.zip us)->J7 vs us->sp vs H Q E->
  codeAny (zH P w) A (.call (.ref f) args) (CR CX outer P w H s Q E) s
theorem M4.imp{P:zE}{w:zP}{K:zk}{mg:Str->Option ze}{base:Heap}{CX:CXT}{k:Nat}{f:Addr}{fd:jm}{ps:List Str}{sp sp':Sp}(F:M4 P w K mg base CX k f fd ps sp)
 (h:∀vs H Q E,sp' vs H Q E->sp vs H Q E):M4 P w K mg base CX k f fd ps sp':=
 ⟨λvs H Q E q=>F.len vs H Q E (h _ _ _ _ q),λA outer s H args us vs Q E hr he hb hv hs=>F.run A outer s H args us vs Q E hr he hb hv (h _ _ _ _ hs)⟩
section
variable{X:Cx}{pins:PNS}{O:St}{H:Hp}{s s':zm}
theorem Inv.env0(I:Inv X pins O H s):eI2 X.prog X.w X.K X.mg X.base X.A X.stack s H:=
 ⟨I.ok.frames,I.ok.mod,I.bs,zv I.ok.bsz I.sz,I.stack,I.stkFree,I.hok,I.bare⟩
theorem Inv.after{Q:VK}{u:ze}(I:Inv X pins O H s)(h:CE X.stack X.prog X.w H s Q u s'):EP X pins O Q u s':=by
 obtain⟨v,H',os,bare,un,hok,r,q⟩:=h
 obtain⟨hh,g,d,t,os'⟩:=s'
 obtain rfl:os'=s.os:=os
 exact⟨v,H',I.call (h':=hh) (g':=g) (d':=d) (t':=t) (ch:= []) un hok bare (λb z=>absurd z (by simp)),r,q⟩
end
noncomputable def eT8(sp:Sp)(dvs:List V)(E:XK)(t:TA):TE:=λO H Q=>t O H λvs H1=>sp (vs++dvs) H1 Q E
noncomputable def bK6(K:zk)(fd:jm)(ps:List Str)(ds:List ze):Prop:=
 ∀(s:zm) (us:List ze),K.In s.heap->(us++ds).length=ps.length->BindsTo s fd ⟨us, []⟩ (ps.zip (us++ds))
theorem bK6.all{K:zk}{fd:jm}{ps:List Str}(h:∀us:List ze,us.length=ps.length->bindArgs fd ⟨us, []⟩=pure (ps.zip us)):bK6 K fd ps []:=λs us _ hl=>by
 rw[yn]at hl ⊢
 exact .of_eq (h us hl)
noncomputable def cM4(CX:CXT)(X:Cx)(E:XK):Prop:=∀(pins:PNS) (O:St) (H:Hp) (s:zm) (e:ze) (s':zm),Inv X pins O H s->CX X.stack H s E e s'->X.xe e s'
section
variable{X:Cx}{CX:CXT}{k:Nat}{f C:Addr}{fd:jm}{ps:List Str}{sp:Sp}{dvs:List V}{ds:List ze}{E:XK}{x m:Str}{p pos apos:Pos}{e o:Expr}{es:List Expr}{ta:TE}{t:TA}
theorem dZ3{pins:PNS}{O:St}{H:Hp}{s:zm}{Q:VK}{us:List ze}{vs:List V}(F:M4 X.prog X.w X.K X.mg X.base CX k f fd ps sp)(hr:aG6 k X.A)(hb:bK6 X.K fd ps ds)(hd:J7 dvs ds)(hx:cM4 CX X E)
 (I:Inv X pins O H s) (r:J7 vs us) (h:sp (vs++dvs) H Q E):zy (zH X.prog X.w) X.A (call (.ref f) us) (EP X pins O Q) X.xe s:=by
 have r2:J7 (vs++dvs) (us++ds):=r.append hd
 have hl:(us++ds).length=ps.length:=by rw[<-r2.length];exact F.len _ _ _ _ h
 refine wpAny_call (XF (F.run X.A X.stack s H ⟨us, []⟩ (us++ds) (vs++dvs) Q E hr I.env0 (hb s us I.kIn hl) r2 h) λr s' hq=>?_)
 cases r with
 |error e=>exact hx pins O H s e s' I hq
 |ok fl=>
   cases fl with
   |ret u=>exact I.after hq
   |next=>exact yA hq
   |brk=>exact yA hq
   |cont=>exact yA hq
theorem eP4(F:M4 X.prog X.w X.K X.mg X.base CX k f fd ps sp)(hr:aG6 k X.A)(hg:Gl X x)(hm:X.mg x=some (.ref f))(hk:jV X.K (.ref f)=true)(hb:bK6 X.K fd ps ds)(hd:J7 dvs ds)(hx:cM4 CX X E)
 (ha:PA X (e::es) t) (hdb:(x==("__debug__" :Str))=false) (he:zJ (e::es) X.env= (false,eval e X.env)::zJ es X.env) (hpl:(backTo pos (zJ es X.env)).any (·.1)=false):
 PE X (.Call (.Name x p) (e::es) [] pos) (eT8 sp dvs E t):=by
 intro pins s O H Q I h
 refine xL (cO1 I hg hm ?_ hdb)
 refine PySem.W.callWith_K (h₀:=X.base) I.ok.mod.kin hk (thn (ha pos pins s O H _ I h) λus s1 hE1=>hE1.elim λvs H1 I1 r q=>⟨I1.kIn,?_⟩) he hpl
 exact dZ3 F hr hb hd hx I1 r q
theorem dW8(F:M4 X.prog X.w X.K X.mg X.base CX k f fd ps sp)(hr:aG6 k X.A)(hg:Gl X x)(hm:X.mg x=some (.ref f))(hk:jV X.K (.ref f)=true)(hb:bK6 X.K fd ps ds)(hd:J7 dvs ds)(hx:cM4 CX X E)
 (hdb:(x==("__debug__" :Str))=false):PE X (.Call (.Name x p) [] [] pos) (eT8 sp dvs E fQ9):=by
 intro pins s O H Q I h
 refine xL (cO1 I hg hm ?_ hdb)
 exact PySem.W.callWith_K0 I.kIn hk (dZ3 (us:= []) F hr hb hd hx I .nil h)
structure Mk(K:zk)(C f:Addr):Prop where
 makes:PySem.W.makesIn K C=true
 init:xr K (.ref C) "__init__" =some (some (.ref f))
 fn:Ja K (.ref f)=true
 kp:jV K (.ref C)=true
end
section
variable{X:Cx}{CX:CXT}{k:Nat}{f C:Addr}{fd:jm}{ps ks:List Str}{sp:Sp}{E:XK}{x m:Str}{p pos apos kpos:Pos}{e o:Expr}{es:List Expr}{kws:List Keyword}{te ta:TE}{t tk:TA}{nm:Option Str}
structure KBinds(K:zk)(fd:jm)(ps ks:List Str)(g:List ze->List ze->List ze)(gV:List V->List V->List V):Prop where
 to:∀(s:zm) (us ws:List ze),K.In s.heap->(g us ws).length=ps.length->BindsTo s fd ⟨us,ks.zip ws⟩ (ps.zip (g us ws))
 rel:∀ {vs:List V} {us:List ze} {zs:List V} {ws:List ze},J7 vs us->J7 zs ws->J7 (gV vs zs) (g us ws)
variable{g:List ze->List ze->List ze}{gV:List V->List V->List V}
end
structure u9(N P:List Str)(sc:Scope):Prop where
 kind:sc.kind= .function
 co:sc.isCoroutine=false
 gen:sc.isGenerator=false
 nd:N.Nodup
 pre:N.take P.length=P
 par:∀x∈P,sc.names.lookup x=some .local\/sc.names.lookup x=some .cell
 nofree:∀y∈sc.names,y.2≠ .free
theorem cH6{kindOf:Str->Option NameKind}{x:Str}:∀ {binds:List (Str×ze)} {m:Str->Option ze},(∀v,(x,v)∉binds)->bindL kindOf binds m x=m x
 |[],_,_=>rfl
 |(n,v)::r,m,h=>by
  unfold bindL
  rw[cH6 λw hw=>h w (zf _ hw)]
  split
  · have:x≠n:=by rintro rfl;exact h v zc
    simp[this]
  ·rfl
theorem cD6{kindOf:Str->Option NameKind}{x:Str}:∀ {binds:List (Str×ze)} {m:Str->Option ze},(∀v,(x,v)∉binds)->bindC kindOf binds m x=m x
 |[],_,_=>rfl
 |(n,v)::r,m,h=>by
  unfold bindC
  rw[cD6 λw hw=>h w (zf _ hw)]
  split
  ·rfl
  · have:x≠n:=by rintro rfl;exact h v zc
    simp[this]
theorem cE7{kindOf:Str->Option NameKind}{x:Str}{v:ze}:∀ {P:List Str} {vs:List ze} {i:Nat} {m:Str->Option ze},P.Nodup->P[i]? =some x->vs[i]? =some v->kindOf x=some .local->
 bindL kindOf (P.zip vs) m x=some v
 |[],_,_,_,_,h,_,_=>by simp at h
 |_::_, [],_,_,_,_,h,_=>by simp at h
 |p::P,w::vs,0,m,nd,h1,h2,hk=>by
   simp at h1 h2;subst h1;subst h2
   show bindL kindOf ((p,w)::P.zip vs) m p=_
   unfold bindL
   rw[cH6 λv hv=>(xX.mp nd).1 (yD hv).1,if_pos hk]
   simp
 |p::P,w::vs,i+1,m,nd,h1,h2,hk=>by
   show bindL kindOf ((p,w)::P.zip vs) m x=_
   unfold bindL
   exact cE7 (i:=i) (xX.mp nd).2 (by simpa using h1) (by simpa using h2) hk
theorem cI4{kindOf:Str->Option NameKind}{x:Str}{v:ze}:∀ {P:List Str} {vs:List ze} {i:Nat} {m:Str->Option ze},P.Nodup->P[i]? =some x->vs[i]? =some v->kindOf x≠some .local->
 bindC kindOf (P.zip vs) m x=some v
 |[],_,_,_,_,h,_,_=>by simp at h
 |_::_, [],_,_,_,_,h,_=>by simp at h
 |p::P,w::vs,0,m,nd,h1,h2,hk=>by
   simp at h1 h2;subst h1;subst h2
   show bindC kindOf ((p,w)::P.zip vs) m p=_
   unfold bindC
   rw[cD6 λv hv=>(xX.mp nd).1 (yD hv).1,if_neg hk]
   simp
 |p::P,w::vs,i+1,m,nd,h1,h2,hk=>by
   show bindC kindOf ((p,w)::P.zip vs) m x=_
   unfold bindC
   exact cI4 (i:=i) (xX.mp nd).2 (by simpa using h1) (by simpa using h2) hk
noncomputable def start(N:List Str)(vs:List V):St:=vs.map some++jb (N.length-vs.length) none
noncomputable def cW3(CX:CXT)(P:zE)(w:zP)(K:zk)(mg:Str->Option ze)(base:Heap)(N:List Str)(qual:Str)(scope:Scope)(f:Addr)(cd:ze)(A:zK)(outer:List Env)(s:zm)(H:Hp)(E:XK):Cx where
 prog:=P
 w:=w
 K:=K
 mg:=mg
 base:=base
 A:=A.deeper (envOfC qual scope s.heap.objs.size f cd)
 N:=N
 WV:=s
 H₀:=H
 env:=envOfC qual scope s.heap.objs.size f cd
 outer:=outer
 stack:=envOfC qual scope s.heap.objs.size f cd::outer
 ex:= []
 calm:=true
 fn:=λ_=>true
 pn:= []
 xe:=λe s'=>zy (zH P w) (A.deeper (envOfC qual scope s.heap.objs.size f cd)) (leaving (envOfC qual scope s.heap.objs.size f cd) e) (λ_ s''=>CX outer H s E e s'') (λe' s''=>CX outer H s E e' s'') s'
theorem cP5{sc:Scope}{n:Nat}{x:Str}(h:sc.names.lookup x=some .cell):∃c,(cellsFrom n sc.names []).lookup x=some c:=by
 have q:=Yu sc.names n [] (.inl h)
 exact Yo.mp q
theorem dK9{CX:CXT}{P:zE}{w:zP}{K:zk}{mg:Str->Option ze}{base:Heap}{N ps:List Str}{qual:Str}{scope:Scope}{f:Addr}{cd:ze}{A:zK}{outer:List Env}{s s1:zm}{H:Hp}{E:XK}{us:List ze}{vs:List V}
 (S:u9 N ps scope) (hd:A.handled=none) (gd:A.guards=some []) (e0:eI2 P w K mg base A outer s H) (hl:vs.length=ps.length) (r:J7 vs us)
 (x:InCallC s s.heap.objs.size (bindL (envOfC qual scope s.heap.objs.size f cd).kindOf (ps.zip us) λ_=>none) (cellsFrom (s.heap.objs.size+1) scope.names []) (bindC (envOfC qual scope s.heap.objs.size f cd).kindOf (ps.zip us) λ_=>none) s1):
 Inv (cW3 CX P w K mg base N qual scope f cd A outer s H E) [] (start N vs) H s1:=by
 have hpl:ps.length<=N.length:=by have:=congrArg Zg S.pre;rw[yt]at this;lia
 obtain⟨h1,tk,rfl,hk⟩:=x.done
 have noA:∀b:Addr,b∉(cW3 CX P w K mg base N qual scope f cd A outer s H E).ex:=λb z=>absurd (show b∈([]:List Addr)from z) (by simp)
 refine⟨⟨e0.mod,S.kind,rfl,rfl,zd _,λy z c h1 h2=>?_,λy hy=>?_,λy c _ h=>?_,λ_=>hd,Around.frames_deeper e0.frames,.inr ⟨rfl,rfl⟩,λb z=>absurd z (noA b),e0.bs,e0.bsz,λb _ _=>noA b,λb z=>absurd z (noA b),e0.funs,e0.frf,gd⟩,
  rfl,e0.bare,Un.kept hk,⟨_,x.toInCall.ns,λi y v h1 h2 h3=>?_⟩,λy c h=>⟨_,x.cell y c h⟩,e0.hok.fresh (zd _),λy c h=>?_,λp hp=>absurd (show p∈([]:PNS)from hp) (by simp),e0.hok.kept hk,?_⟩
 ·exact name_of_addr x.apart (yp h1) (yp h2)
 · have hy:scope.names.lookup y=some .cell\/scope.names.lookup y=some .free:=hy
   rcases hy with hy|hy
   ·exact cP5 hy
   ·exact absurd rfl (S.nofree _ (yp hy))
 ·exact yN (x.above y c (yp h))
 · have hi:i<vs.length:=by
    unfold start at h2
    by_cases hi:i<vs.length
    ·exact hi
    · rw[xE (by simpa using hi)]at h2
      rw[YM]at h2
      split at h2<;>cases h2
   have ha:vs[i]? =some v:=by
    unfold start at h2
    rw[zQ (by simpa using hi),jl]at h2
    cases e:vs[i]? with
    |none=>rw[e]at h2;cases h2
    |some a=>rw[e]at h2;cases h2;rfl
   obtain⟨u,hu,rv⟩:=r.get ha
   have hp:ps[i]? =some y:=by
    rw[<-S.pre,List.getElem?_take_of_lt (by lia)];exact h1
   have ndP:ps.Nodup:=by rw[<-S.pre];exact S.nd.sublist (XL _ _)
   refine⟨u,rv,?_⟩
   rcases S.par y (jC hp)with k|k
   ·exact .inl ⟨k,cE7 ndP hp hu k⟩
   · obtain⟨c,e⟩:=cP5 (n:=s.heap.objs.size+1) k
     refine .inr ⟨.inl k,c,e,?_⟩
     have q:=x.cell y c e
     rw[cI4 ndP hp hu (by show scope.names.lookup y≠_;rw[k];decide)]at q
     exact q
 ·exact e0.hok.fresh (yN (x.above y c (yp h)))
 · unfold start
   show _=N.length
   rw[zx,zo,List.length_replicate]
   lia
theorem fN2{CX:CXT}{P:zE}{w:zP}{K:zk}{mg:Str->Option ze}{base:Heap}{k:Nat}{f:Addr}{name qual:Str}{params:Arguments}{body:List Stmt}{scope:Scope}{dV kV doc pm cdv ct oc:ze}{an od:Option Addr}
 {osl:Array (Option ze)} {N ps:List Str} {sp:Sp} (lk:K.lookup f=some ⟨oc,od,.func (jD name qual params body scope dV kV doc pm an cdv ct),osl⟩) (hcd:xt K cdv qual=true) (S:u9 N ps scope)
 (len:∀vs H Q E,sp vs H Q E->vs.length=ps.length)
 (hbody:∀(A:zK) (outer:List Env) (s:zm) (H:Hp) (vs:List V) (Q:VK) (E:XK),aG6 k (A.deeper (envOfC qual scope s.heap.objs.size f cdv))->sp vs H Q E->
   ∃t,PSs (cW3 CX P w K mg base N qual scope f cdv A outer s H E) body t/\t {nx:=λ_ H'=>Q .non H',rt:=Q} (start N vs) H):
 M4 P w K mg base CX (k+1) f (jD name qual params body scope dV kV doc pm an cdv ct) ps sp:=by
 refine⟨len,λA outer s H args us vs Q E hr e0 hb r hsp=>?_⟩
 have hl:=len _ _ _ _ hsp
 have KX:K.In s.heap:=e0.mod.kin.keeps λb o e=>(e0.bs b o e).1
 have lim:s.heap.NoLimit:=e0.mod.nolimit.keeps λb o e=>(e0.bs b o e).1
 have hkind:∀y∈ps.zip us,scope.names.lookup y.1=some .local\/(scope.names.lookup y.1=some .cell/\((cellsFrom (s.heap.objs.size+1) scope.names []).lookup y.1).isSome=true):=fun⟨n,v⟩ hy=>by
  rcases S.par n (yD hy).1 with q|q
  ·exact .inl q
  ·exact .inr ⟨q,Yu _ _ _ (.inl q)⟩
 refine codeAny_call_function hr.depth (KX _ _ lk) rfl S.co S.gen rfl (PySem.W.codeRec_of KX hcd) (hb _ _ _ _ ?_)
 refine wpAny_newFunctionEnv_cells S.kind hkind λenv he s1 x=>?_
 subst he
 refine⟨lim.keeps x.toInCall.keep,codeAny_func ?_⟩
 obtain⟨t,ht,hq⟩:=hbody A outer s H vs Q E (hr.deeper _) hsp
 have I:Inv (cW3 CX P w K mg base N qual scope f cdv A outer s H E) [] (start N vs) H s1:=dK9 S hr.hd hr.gd e0 hl r x
 refine yb (ht [] s1 (start N vs) H _ I hq) (λfl s' hs=>?_) λe s' hs=>hs
 have fin:∀ {X1:St} {H':Hp} {v:V} {u:ze},Inv (cW3 CX P w K mg base N qual scope f cdv A outer s H E) [] X1 H' s'->M3 v u->Q v H'->CE outer P w H s Q u s':=
  λ{X1 H' v u} J rv q=>⟨v,H',J.os,J.bare,J.base,J.hok,rv,q⟩
 cases fl with
 |ret u=>
   obtain⟨v,X1,H',J,rv,q⟩:=hs
   exact fin J rv q
 |next=>
   obtain⟨X1,H',J,q⟩:=hs
   exact fin (v:=V.non) (u:=Value.none) J rfl q
 |brk=>
   obtain⟨_,_,_,q⟩:=hs
   exact yA q
 |cont=>
   obtain⟨_,_,_,q⟩:=hs
   exact yA q
section
variable{X:Cx}{x:Str}{p pos:Pos}{e:Expr}{es:List Expr}{t:TA}{id T:String}{r:List V->Hp->VK->Prop}
noncomputable def tCB(r:List V->Hp->VK->Prop)(t:TA):TE:=λO H Q=>t O H λvs H1=>r vs H1 Q
theorem eC0(hc:aE5 X (.builtin id) r)(hg:Gl X x)(hm:X.mg x=none)(hv:zR x=some (.builtin id))(ha:PA X (e::es) t)(hn:x≠ "__name__")(hdb:(x==("__debug__" :Str))=false)
 (he:zJ (e::es) X.env= (false,eval e X.env)::zJ es X.env) (hpl:(backTo pos (zJ es X.env)).any (·.1)=false):PE X (.Call (.Name x p) (e::es) [] pos) (tCB r t):=by
 intro pins s O H Q I h
 refine xL (aW2 I hg hm hv ?_ hn hdb)
 exact PyProof.Rows.callWith_builtin1 (thn (ha pos pins s O H _ I h) λus s1 hE1=>hE1.elim λvs H1 I1 r1 q1=>hc pins s1 O H1 vs us Q I1 r1 q1) he hpl
theorem dO6(hc:aE5 X (.type T) r)(hg:Gl X x)(hm:X.mg x=none)(hv:zR x=some (.type T))(ha:PA X (e::es) t)(hn:x≠ "__name__")(hdb:(x==("__debug__" :Str))=false)
 (he:zJ (e::es) X.env= (false,eval e X.env)::zJ es X.env) (hpl:(backTo pos (zJ es X.env)).any (·.1)=false):PE X (.Call (.Name x p) (e::es) [] pos) (tCB r t):=by
 intro pins s O H Q I h
 refine xL (aW2 I hg hm hv ?_ hn hdb)
 exact jw (thn (ha pos pins s O H _ I h) λus s1 hE1=>hE1.elim λvs H1 I1 r1 q1=>hc pins s1 O H1 vs us Q I1 r1 q1) he hpl
end
end L2
namespace HT
open PySem PyProof.Rows
section
open PySem.SeqAt
open PySem.AutoSeq1 (wpAny_loadPart')
open PySem.MeetsSeq PySem.MeetsSeq2 PySem.MeetsSeq3
end
section
variable{prog:zE}{w:zP}{A:zK}{E:VSP}{s:zm}
theorem cat_tup{t b:Addr}{vs ws:List ze}{Q:VSP}(ht:IsTup s.heap t vs.toArray)(hb:IsTup s.heap b ws.toArray)(hv:vs≠ [])
 (h1:ws= []->Q (.ref t) s) (h2:ws≠ []->Q (.ref s.heap.objs.size) {s with heap:=s.heap.push {cls:=.type "tuple",data:=.seq (vs++ws).toArray}})
 (hsz:vs.length+ws.length<=zh):zy (zH prog w) A (jT .Add (.ref t) (.ref b)) Q E s:=by
 obtain⟨⟨cls,dd,data,sl⟩,ho,hc,n,hd⟩:=id ht
 obtain⟨⟨cls2,dd2,data2,sl2⟩,ho2,hc2,n2,hd2⟩:=id hb
 simp only at hc hd hc2 hd2
 subst hc hd hc2 hd2
 have e:vs.toArray++ws.toArray= (vs++ws).toArray:=by simp
 by_cases hw:ws= []
 · exact XE ⟨_,ho,rfl⟩ ⟨_,ho2,rfl⟩ Yt Xj xM xI (xH _ _)
    (tuple_addW1 t b vs.toArray ws.toArray n n2 dd dd2 sl sl2 (by simpa using hv) (by simp[hw])) ⟨ho,ho2,h1 hw⟩
 · refine XE ⟨_,ho,rfl⟩ ⟨_,ho2,rfl⟩ Yt Xj xM xI (xH _ _)
    (tuple_addW2 t b vs.toArray ws.toArray n n2 dd dd2 sl sl2 (by simpa using hv) (by simpa using hw) (by rw[zr,zr];exact hsz)) ⟨ho,ho2,?_⟩
   rw[e]
   exact h2 hw
noncomputable def sIx(n d:Nat):Option Int->Nat
 |none=>d
 |some v=>if v<0 then (v+(n:Int)).toNat else min v.toNat n
theorem sIx_none(n d:Nat):sIx n d none=d:=rfl
theorem sIx_nat(n d k:Nat):sIx n d (some (k:Int))=min k n:=by
 show (if (k:Int)<0 then ((k:Int)+(n:Int)).toNat else min (k:Int).toNat n)=min k n
 rw[if_neg (by lia),xa]
theorem fK5(n d:Nat)(hd:d<=n)(o:Option Int):sIx n d o<=n:=by
 cases o with
 |none=>exact hd
 |some v=>
   show (if v<0 then (v+(n:Int)).toNat else min v.toNat n)<=n
   by_cases hv:v<0
   ·rw[if_pos hv];lia
   ·rw[if_neg hv];exact Jb _ _
theorem dI1(v:Int)(n d:Nat):(if v<0 then max (v+(n:Int)) 0 else min v (n:Int))= ((sIx n d (some v):Nat):Int):=by
 show (if v<0 then max (v+(n:Int)) 0 else min v (n:Int))= (((if v<0 then (v+(n:Int)).toNat else min v.toNat n):Nat):Int)
 by_cases hv:v<0
 ·simp only[if_pos hv];lia
 ·simp only[if_neg hv];lia
theorem cZ4(lo hi:Option Int)(n:Nat):jN lo hi 1 (n:Int)= (((sIx n 0 lo:Nat):Int),((sIx n n hi:Nat):Int)):=by
 have h1:¬((1:Int)<0):=by lia
 unfold jN
 simp only[h1,if_false]
 refine Prod.ext ?_ ?_
 · cases lo with
   |none=>rfl
   |some v=>exact dI1 v n 0
 · cases hi with
   |none=>rfl
   |some v=>exact dI1 v n n
theorem dC4(i j:Nat):jp (i:Int) (j:Int) 1=j-i:=by
 unfold jp
 have h1:(1:Int)>0:=by lia
 simp only[h1,if_true,JG]
 split<;>lia
theorem bW5{v:ze}{o:Option Int}{Q:Option Int->zm->Prop}(p:IsPart v o)(h:Q o s):zy (zH prog w) A (JB v) Q E s:=by
 cases p with
 |none=>exact Zw h
 |int i t=>exact slicePart_int h
theorem sliceApplied_gen{sl:Addr}{vl vu:ze}{lo hi:Option Int}{n:Nat}{Q:Int×Int×Nat->zm->Prop}(hs:s.heap.IsSliceOf sl vl vu .none)(pl:IsPart vl lo)(pu:IsPart vu hi)
 (h:Q (((sIx n 0 lo:Nat):Int),1,sIx n n hi-sIx n 0 lo) s):zy (zH prog w) A (yz (.ref sl) (pure (n:Int))) Q E s:=by
 obtain⟨os,hos,hcs,hds⟩:=id hs
 unfold yz Zt
 refine za (za (jj hos hds (x:=vl) rfl (za (jj hos hds (x:=vu) rfl (za (jj hos hds (x:=.none) rfl (zt ?_)))))))
 refine za (Zw ?_)
 show zy _ _ (if ((1:Int)==0)=true then _ else _) _ _ s
 rw[if_neg (by decide)]
 refine za (bW5 pl (za (bW5 pu (za (zt ?_)))))
 show zy _ _ (match jN lo hi 1 (n:Int) with|(lo,hi)=>pure (lo,(1:Int),jp lo hi 1)) _ _ s
 rw[cZ4 lo hi n]
 show zy _ _ (pure (((sIx n 0 lo:Nat):Int),(1:Int),jp ((sIx n 0 lo:Nat):Int) ((sIx n n hi:Nat):Int) 1)) _ _ s
 rw[dC4]
 exact zt h
theorem dU7(xs:Array ze)(i k:Nat):((jB k).filterMap fun(m:Nat)=>xs[((i:Int)+(m:Int)*1).toNat]?).toArray= ((xs.toList.drop i).take k).toArray:=by
 have e:(fun(m:Nat)=>xs[((i:Int)+(m:Int)*1).toNat]?)=λm=>xs[i+m]? :=by
  funext m
  have:((i:Int)+(m:Int)*1).toNat=i+m:=by lia
  rw[this]
 rw[e]
 have:=pick_run xs i k
 rw[List.filterMap_map]at this
 have e2:((λx=>xs[x]?)∘λx=>i+x)=λm=>xs[i+m]? :=rfl
 rw[e2]at this
 rw[this]
theorem getItem_tuple_cut{t sl:Addr}{items:Array ze}{vl vu:ze}{lo hi:Option Int}{Q:VSP}(ht:IsTup s.heap t items)(hs:s.heap.IsSliceOf sl vl vu .none)(pl:IsPart vl lo)(pu:IsPart vu hi)
 (hw:¬(sIx items.size 0 lo=0/\sIx items.size items.size hi=items.size))
 (h:Q (.ref s.heap.objs.size) {s with heap:=s.heap.push {cls:=.type "tuple",data:=.seq ((items.toList.drop (sIx items.size 0 lo)).take (sIx items.size items.size hi-sIx items.size 0 lo)).toArray}})
 (hsz:items.size<=zh):zy (zH prog w) A (getItem (.ref t) (.ref sl)) Q E s:=by
 have htake:sizeOk (.seq ((items.toList.drop (sIx items.size 0 lo)).take (sIx items.size items.size hi-sIx items.size 0 lo)).toArray):=by
  show ((items.toList.drop (sIx items.size 0 lo)).take (sIx items.size items.size hi-sIx items.size 0 lo)).toArray.size<=zh
  rw[zr,yt,yf,jQ]
  lia
 have hj:sIx items.size items.size hi<=items.size:=fK5 _ _ (zd _) hi
 obtain⟨os,hos,hcs,hds⟩:=id hs
 have hTs:s.TypeIs (.ref sl) "slice":=⟨os,hos,hcs⟩
 unfold getItem
 try with_reducible refine jK ?_
 first|refine za (zt ?_)|skip
 refine za (Yb ht.typeIs (by decide) ?_)
 refine za (js (name:=jz "__getitem__") ht.typeIs zX
  (jH zX ht.typeIs ZD ?_ (ZS _ _)))
 show zy _ _ (xf (.ref t) >>= _) _ _ s
 refine za (Xq ht ?_)
 refine za (Zi hTs ?_)
 rw[if_pos (by decide)]
 refine za (sliceApplied_gen hs pl pu ?_)
 have hno:¬((((sIx items.size 0 lo:Nat):Int)==0&&(1:Int)==1&&(sIx items.size items.size hi-sIx items.size 0 lo)==items.size)=true):=by
  intro q
  rw[zg,zg]at q
  have q1:((sIx items.size 0 lo:Nat):Int)=0:=Zf q.1.1
  have q2:sIx items.size items.size hi-sIx items.size 0 lo=items.size:=Zf q.2
  exact hw ⟨by lia,by lia⟩
 show zy _ _ (if (((sIx items.size 0 lo:Nat):Int)==0&&(1:Int)==1&&(sIx items.size items.size hi-sIx items.size 0 lo)==items.size)=true then _ else _) _ _ s
 rw[if_neg hno,dU7]
 first
  |exact za (m:=jt _) (jA (zt ⟨_,rfl,zt h⟩) htake)
  |exact za (m:=jt _) (jA (za (zt (zt ⟨_,rfl,zt h⟩))) htake)
  |exact za (za (m:=jt _) (jA (zt (zt ⟨_,rfl,zt h⟩)) htake))
  |exact za (za (m:=jt _) (jA (zt ⟨_,rfl,zt h⟩) htake))
end
end HT
namespace L2
open PySem PySem.Spec PyProof.Rows
noncomputable abbrev TO:=St->Hp->(Option Int->Hp->Prop)->Prop
noncomputable def PO(X:Cx)(e:Option Expr)(t:TO):Prop:=
 ∀(pins:PNS) (s:zm) (O:St) (H:Hp) (Q:Option Int->Hp->Prop),Inv X pins O H s->t O H Q->
  zy (zH X.prog X.w) X.A (evalPart e X.env) (λu s'=>∃o H',Inv X pins O H' s'/\IsPart u o/\Q o H') X.xe s
noncomputable def eK9:TO:=λ_ H Q=>Q none H
noncomputable def fN0(t:TE):TO:=λO H Q=>t O H λx H1=>∃i,x= .int i/\Q (some i) H1
section
variable{X:Cx}{e:Expr}{te:TE}{lo hi:Option Expr}{tl th:TO}{pos p2:Pos}
theorem eN4:PO X none eK9:=by
 intro pins s O H Q I h
 rw[Xk]
 exact zt ⟨none,H,I,.none,h⟩
theorem eK5(h:PE X e te):PO X (some e) (fN0 te):=by
 intro pins s O H Q I hw
 rw[evalPart_some]
 refine thn (h pins s O H _ I hw) λu s1 hE1=>hE1.elim λx H1 I1 r1 q1=>?_
 obtain⟨i,rfl,q⟩:=q1
 obtain⟨t,rfl⟩:=r1
 exact⟨some i,H1,I1,.int i t,q⟩
def SlR(X:Cx)(r:V->Option Int->Option Int->Hp->VK->Prop):Prop:=
 ∀(pins:PNS) (s:zm) (O:St) (H:Hp) (x:V) (v vl vu:ze) (lo hi:Option Int) (sl:Addr) (Q:VK),Inv X pins O H s->M3 x v->s.heap.IsSliceOf sl vl vu .none->IsPart vl lo->IsPart vu hi->r x lo hi H Q->
  ∃T id,typeLookup (.type T) "__getitem__" =pure (some (.builtin id))/\s.TypeIs v T/\zy (zH X.prog X.w) X.A (getItem v (.ref sl)) (EP X pins O Q) X.xe s
theorem SlR.or{r r':V->Option Int->Option Int->Hp->VK->Prop}(h:SlR X r)(h':SlR X r'):SlR X (λx lo hi H Q=>r x lo hi H Q\/r' x lo hi H Q):=by
 intro pins s O H x v vl vu lo hi sl Q I rx hs pl pu q
 rcases q with q|q
 ·exact h pins s O H x v vl vu lo hi sl Q I rx hs pl pu q
 ·exact h' pins s O H x v vl vu lo hi sl Q I rx hs pl pu q
noncomputable def tSl(r:V->Option Int->Option Int->Hp->VK->Prop)(te:TE)(tl th:TO):TE:=λO H Q=>te O H λx H1=>tl O H1 λl H2=>th O H2 λu H3=>r x l u H3 Q
theorem eB9{r:V->Option Int->Option Int->Hp->VK->Prop}(hr:SlR X r)(he:PE X e te)(hl:PO X lo tl)(hu:PO X hi th):PE X (.Subscript e (.Slice lo hi none p2) pos) (tSl r te tl th):=by
 intro pins s O H Q I h
 refine Jp (thn (he pins s O H _ I h) λv s1 hE1=>hE1.elim λx H1 I1 r1 q1=>?_)
 refine wpAny_Slice (thn (hl pins s1 O H1 _ I1 q1) λvl s2 ⟨l,H2,I2,pl,q2⟩=>thn (hu pins s2 O H2 _ I2 q2) λvu s3 ⟨u,H3,I3,pu,q3⟩=>?_)
 rw[Xk]
 refine zt ?_
 have I4:Inv X pins O H3 {s3 with heap:=s3.heap.push {cls:=.type "slice",data:=.fields #[vl,vu,.none]}}:=I3.kept (t':=s3.toks) λb ob q=>zj _ q
 obtain⟨T,id,hT,ht,hg⟩:=hr pins {s3 with heap:=s3.heap.push {cls:=.type "slice",data:=.fields #[vl,vu,.none]}} O H3 x v vl vu l u s3.heap.objs.size Q I4 r1 (ZX ..) pl pu q3
 show zy (zH X.prog X.w) X.A (subscriptTail e (.Slice lo hi none p2) v (.ref s3.heap.objs.size)) (EP X pins O Q) X.xe {s3 with heap:=s3.heap.push {cls:=.type "slice",data:=.fields #[vl,vu,.none]}}
 exact YX (ops:= [.ref s3.heap.objs.size,v]) ht hT hg (by with_unfolding_all rfl)
def cC9(xs:List V)(lo hi:Option Int):List V:=(xs.drop (HT.sIx xs.length 0 lo)).take (HT.sIx xs.length xs.length hi-HT.sIx xs.length 0 lo)
theorem bR0(xs:List V)(lo hi:Option Int):(cC9 xs lo hi).length<=xs.length:=by
 unfold cC9
 rw[yt,yf]
 lia
def gD3(K:zk):V->Option Int->Option Int->Hp->VK->Prop:=λx lo hi H Q=>∃a xs,x= .ref a/\SqT K H a xs/\
 ¬(HT.sIx xs.length 0 lo=0/\HT.sIx xs.length xs.length hi=xs.length)/\∀p,H p=none->Q (.ref p) (upd H p (.tup (cC9 xs lo hi)))
theorem sl_tup:SlR X (gD3 X.K):=by
 intro pins s O H x v vl vu lo hi sl Q I rx hs pl pu h
 obtain⟨a,xs,rfl,hx,hw,q⟩:=h
 cases rx
 obtain⟨its,r,ht,hz⟩:=I.tuple hx
 have hlen:its.toArray.size=xs.length:=by rw[zr];exact r.length.symm
 refine⟨"tuple",_,zX.lookup,ht.typeIs,?_⟩
 refine HT.getItem_tuple_cut ht hs pl pu (by rw[hlen];exact hw) ?_ (by rw[hlen];exact hz)
 rw[hlen]
 refine⟨.ref s.heap.objs.size,_,I.laid (t':=s.toks) (o:=.tup (cC9 xs lo hi)) (λb ob q=>zj _ q) (zd _) ?_,rfl,q _ (I.hok.fresh (zd _))⟩
 exact⟨zv (bR0 xs lo hi) hz,_,(r.drop (HT.sIx xs.length 0 lo)).take (HT.sIx xs.length xs.length hi-HT.sIx xs.length 0 lo),aJ7.new _ _⟩
def fP4(K:zk):R2:=λx y H Q=>∃a b xs ys,x= .ref a/\y= .ref b/\SqT K H a xs/\SqT K H b ys/\xs≠ []/\xs.length+ys.length<=zh/\
 (ys= []->Q (.ref a) H)/\(ys≠ []->∀p,H p=none->Q (.ref p) (upd H p (.tup (xs++ys))))
theorem J7.nil_iff{xs:List V}{us:List ze}(r:J7 xs us):us= []↔xs= []:=by
 cases r with
 |nil=>simp
 |cons _ _=>simp
theorem eH7:OpR X (jT .Add) (fP4 X.K):=by
 intro pins s O H x y v u Q I rx ry h
 obtain⟨a,b,xs,ys,rfl,rfl,ha,hb,hx,hz,q1,q2⟩:=h
 cases rx
 cases ry
 obtain⟨its,r1,p1,_⟩:=I.tuple ha
 obtain⟨its2,r2,p2,_⟩:=I.tuple hb
 refine HT.cat_tup p1 p2 (λz=>hx (r1.nil_iff.mp z)) (λz=>⟨.ref a,H,I,rfl,q1 (r2.nil_iff.mp z)⟩) (λz=>?_) (by rw[<-r1.length,<-r2.length];exact hz)
 refine⟨.ref s.heap.objs.size,_,I.laid (t':=s.toks) (o:=.tup (xs++ys)) (λb ob q=>zj _ q) (zd _) ?_,rfl,q2 (λw=>z (r2.nil_iff.mpr w)) _ (I.hok.fresh (zd _))⟩
 exact⟨by rw[zx];exact hz,_,r1.append r2,aJ7.new _ _⟩
end
noncomputable def ixN(n:Nat)(i:Int):Option Nat:=if 0<=i then (if i<n then some i.toNat else none)else if -(n:Int)<=i then some (i+n).toNat else none
def atI{α:Type}(xs:List α)(i:Int):Option α:=(ixN xs.length i).bind λj=>xs[j]?
theorem dE8{n:Nat}{i:Int}{j:Nat}(h:ixN n i=some j):seqIndex? i n=some j/\j<n/\ -(n:Int)<=i/\i<n:=by
 unfold ixN at h
 by_cases h0:0<=i
 · rw[if_pos h0]at h
   by_cases h1:i<n
   · rw[if_pos h1]at h
     have e:i.toNat=j:=jd h
     exact⟨by rw[XZ h0 h1,e],by lia,by lia,h1⟩
   ·rw[if_neg h1]at h;cases h
 · rw[if_neg h0]at h
   by_cases h1: -(n:Int)<=i
   · rw[if_pos h1]at h
     have e:(i+n).toNat=j:=jd h
     exact⟨by rw[XD (by lia) h1,e],by lia,h1,by lia⟩
   ·rw[if_neg h1]at h;cases h
theorem cI5{α:Type}{xs:List α}{i:Int}{v:α}(h:atI xs i=some v):∃j,seqIndex? i xs.length=some j/\xs[j]? =some v/\j<xs.length/\ -(xs.length:Int)<=i/\i<xs.length:=by
 unfold atI at h
 cases e:ixN xs.length i with
 |none=>rw[e]at h;cases h
 |some j=>
   rw[e]at h
   obtain⟨h1,h2,h3,h4⟩:=dE8 e
   exact⟨j,h1,h,h2,h3,h4⟩
theorem atI_nat{α:Type}{xs:List α}{j:Nat}{v:α}(h:xs[j]? =some v):atI xs (j:Int)=some v:=by
 have hj:j<xs.length:=(ju.mp h).1
 have e:ixN xs.length (j:Int)=some j:=by
  unfold ixN
  rw[if_pos (by lia),if_pos (by lia)];simp
 unfold atI;rw[e];exact h
theorem atI_last{α:Type}(xs:List α)(v:α):atI (xs++[v]) (-1)=some v:=by
 have hl:(xs++[v]).length=xs.length+1:=by simp
 have e:ixN (xs++[v]).length (-1)=some xs.length:=by
  unfold ixN
  rw[hl,if_neg (by decide),if_pos (by lia)]
  congr 1
  lia
 unfold atI
 rw[e]
 show (xs++[v])[xs.length]? =some v
 simp
noncomputable def cM0(b:Expr):Prop:=∀o i,subscripted b false o i=operate [o,i] (getItem o i)
def IxR(X:Cx)(r:R2):Prop:=
 ∀(value slice:Expr) (pins:PNS) (s:zm) (O:St) (H:Hp) (x y:V) (v u:ze) (Q:VK),Inv X pins O H s->M3 x v->M3 y u->r x y H Q->
  subscripted slice false v u=operate [v,u] (getItem v u)->zy (zH X.prog X.w) X.A (subscriptTail value slice v u) (EP X pins O Q) X.xe s
def MtR(X:Cx)(id:String)(r:V->List V->Hp->VK->Prop):Prop:=
 ∀(pins:PNS) (s:zm) (O:St) (H:Hp) (x:V) (xs:List V) (v:ze) (us:List ze) (Q:VK),Inv X pins O H s->M3 x v->J7 xs us->r x xs H Q->
  zy (zH X.prog X.w) X.A (call (.builtin id) (v::us)) (EP X pins O Q) X.xe s
section
variable{X:Cx}{a b:Expr}{ta tb:TE}{pos:Pos}
theorem IxR.or{r r':R2}(h:IxR X r)(h':IxR X r'):IxR X (λx y H Q=>r x y H Q\/r' x y H Q):=by
 intro value slice pins s O H x y v u Q I rx ry q hs
 rcases q with q|q
 ·exact h value slice pins s O H x y v u Q I rx ry q hs
 ·exact h' value slice pins s O H x y v u Q I rx ry q hs
theorem fW7{r:R2}(hr:IxR X r)(ha:PE X a ta)(hb:PE X b tb)(hs:cM0 b):PE X (.Subscript a b pos) (tOp r ta tb):=by
 intro pins s O H Q I h
 exact Jp (eX0 ha hb I h λv u s2 x y H2 I2 rx ry q=>hr a b pins s2 O H2 x y v u Q I2 rx ry q (hs _ _))
def gA0(K:zk):R2:=λx y H Q=>∃p xs i v,x= .ref p/\y= .int i/\SqL K H p xs/\atI xs i=some v/\Q v H
def gA7(K:zk):R2:=λx y H Q=>∃p xs i v,x= .ref p/\y= .int i/\SqT K H p xs/\atI xs i=some v/\Q v H
def gD9:R2:=λx y H Q=>∃z i c,x= .str z/\y= .int i/\z.length<=zh/\atI z.cps.toList i=some c/\Q (.str ⟨#[c]⟩) H
theorem eE6:IxR X (gA0 X.K):=by
 intro value slice pins s O H x y v u Q I rx ry h hs
 obtain⟨p,xs,i,z,rfl,rfl,hq,he,q⟩:=h
 cases rx
 obtain⟨t,rfl⟩:=ry
 obtain⟨its,r,pl,hz⟩:=I.list hq
 obtain⟨j,h1,h2,h3,h4,h5⟩:=cI5 he
 obtain⟨w,ew,rw'⟩:=r.get h2
 have hl:=r.length
 have hn:=bF6
 have fin:EP X pins O Q w s:=⟨z,H,I,rw',q⟩
 by_cases h0:0<=i
 · have hj:i.toNat=j:=by
    rw[XZ h0 h5]at h1
    exact jd h1
   exact item_listR pl.isList h0 (by lia) (by rw[hj];simpa using ew) fin hs
 · have hj:(i+(its.toArray.size:Int)).toNat=j:=by
    rw[XD (by lia) h4]at h1
    rw[zr,<-hl]
    exact jd h1
   exact XJ (x:=w) pl.isList.typeIs Yd.lookup
    (wpAny_getItem_list_neg (Q:=λr s'=>r=w/\EP X pins O Q r s') pl.isList (by lia) (by rw[zr]<;>lia) (by lia) (by rw[hj];simpa using ew) ⟨rfl,fin⟩) hs
theorem ix_tup:IxR X (gA7 X.K):=by
 intro value slice pins s O H x y v u Q I rx ry h hs
 obtain⟨p,xs,i,z,rfl,rfl,hq,he,q⟩:=h
 cases rx
 obtain⟨t,rfl⟩:=ry
 obtain⟨its,r,pl,hz⟩:=I.tuple hq
 obtain⟨j,h1,h2,h3,h4,h5⟩:=cI5 he
 obtain⟨w,ew,rw'⟩:=r.get h2
 have hl:=r.length
 have hn:=bF6
 have fin:EP X pins O Q w s:=⟨z,H,I,rw',q⟩
 exact XJ (x:=w) pl.typeIs zX.lookup
  (getItem_tuple (j:=j) (Q:=λr s'=>r=w/\EP X pins O Q r s') pl (by lia) (by lia) (by rw[zr,<-hl];exact h1) (by simpa using ew) ⟨rfl,fin⟩) hs
theorem ix_str:IxR X gD9:=by
 intro value slice pins s O H x y v u Q I rx ry h hs
 obtain⟨z,i,c,rfl,rfl,hz,he,q⟩:=h
 obtain⟨t,rfl⟩:=rx
 obtain⟨t',rfl⟩:=ry
 obtain⟨j,h1,h2,h3,h4,h5⟩:=cI5 he
 have hl:z.cps.toList.length=z.length:=by simp[Str.length]
 rw[hl]at h1 h4 h5
 have hn:=bF6
 exact YX (ZQ s z t) slot_str_getitem.lookup (getItem_str (c:=c) (by
  have e1:decide (i < -(2 ^ 63:Int))=false:=decide_eq_false (by lia)
  have e2:decide (i>=2 ^ 63)=false:=decide_eq_false (by lia)
  rw[e1,e2,Bool.or_false]) (by rw[h1];simpa using h2) ⟨.str ⟨#[c]⟩,H,I.tok _,⟨_,rfl⟩,q⟩) hs
theorem dB7(its:List ze)(n j:Nat)(u:ze):jL (·.setIfInBounds j u) {cls:=.type "list",data:=.seq its.toArray n}= {cls:=.type "list",data:=.seq (its.set j u).toArray n}:=by
 simp[jL]
theorem Inv.lst{pins:PNS}{O:St}{H:Hp}{s:zm}{p:Addr}{xs:List V}(I:Inv X pins O H s)(h:H p=some (.lst xs)):
 ∃(its:List ze) (n:Nat),J7 xs its/\s.heap.get? p=some {cls:=.type "list",data:=.seq its.toArray n}/\xs.length<=zh:=by
 obtain⟨z,its,n,r,e⟩:=I.hok p _ h
 exact⟨its,n,r,e,z⟩
theorem Inv.lstUpd{pins:PNS}{O:St}{H:Hp}{s:zm}{p:Addr}{xs ys:List V}{its its':List ze}{n n':Nat}{f:Obj->Obj}(I:Inv X pins O H s)(h:H p=some (.lst xs))
 (ho:s.heap.get? p=some {cls:=.type "list",data:=.seq its.toArray n}) (hf:f {cls:=.type "list",data:=.seq its.toArray n}= {cls:=.type "list",data:=.seq its'.toArray n'}) (r:J7 ys its') (hz:ys.length<=zh) (t:Nat):
 Inv X pins O (upd H p (.lst ys)) {s with heap:=s.heap.update p f,toks:=t}:=by
 have e:(s.heap.update p f).get? p=some {cls:=.type "list",data:=.seq its'.toArray n'}:=by
  rw[yh f ho (by rw[hf]<;>rfl),hf]
 refine I.write (x:=p) (e:=p) (by rw[h];trivial) (.inl rfl) (λb u hb q=>(yc _ _ (yP hb)).trans q) ⟨_,e⟩ ?_
 exact⟨hz,its',n',r,e⟩
def fZ1:V->V->V->Hp->(Hp->Prop)->Prop:=λo i v H Q=>∃p xs k j,o= .ref p/\i= .int k/\H p=some (.lst xs)/\ixN xs.length k=some j/\Q (upd H p (.lst (xs.set j v)))
theorem dT5:fF7 X fZ1:=by
 intro pins s O H o i v ov iv u Q I ro ri rv h
 obtain⟨p,xs,k,j,rfl,rfl,hp,hj,q⟩:=h
 cases ro
 obtain⟨t,rfl⟩:=ri
 obtain⟨its,n,r,ho,hz⟩:=I.lst hp
 obtain⟨h1,h2,h3,h4⟩:=dE8 hj
 have hl:=r.length
 have hn:=bF6
 have I':Inv X pins O (upd H p (.lst (xs.set j v))) {s with heap:=s.heap.update p (jL (·.setIfInBounds j u))}:=
  I.lstUpd hp ho (dB7 its n j u) (r.set rv j) (by rw[Je];exact hz) s.toks
 by_cases h0:0<=k
 · have hk:k.toNat=j:=by
    rw[XZ h0 h4]at h1
    exact jd h1
   exact PySem.W.ki_setAt ho h0 (by lia) (by rw[zr,<-hl];exact h4) (by rw[hk];exact⟨_,I',q⟩)
 · have hk:(k+(its.toArray.size:Int)).toNat=j:=by
    rw[XD (by lia) h3]at h1
    rw[zr,<-hl]
    exact jd h1
   exact PySem.W.ki_setBack ho (by lia) (by rw[zr,<-hl];exact h3) (by lia) (by rw[hk];exact⟨_,I',q⟩)
theorem cI8(lo hi:Option Int)(n:Nat):(sliceBounds lo hi none n).1= ((HT.sIx n 0 lo:Nat):Int)/\(sliceBounds lo hi none n).2.1= ((HT.sIx n n hi:Nat):Int)/\(sliceBounds lo hi none n).2.2=1:=by
 refine⟨?_,?_,rfl⟩
 · cases lo with
   |none=>simp[sliceBounds,HT.sIx]
   |some i=>
     simp only[sliceBounds,HT.sIx,Xy,show (1:Int)>0 by decide,if_true]
     by_cases h:i<0
     ·simp only[h,if_true]<;>lia
     ·simp only[h,if_false]<;>lia
 · cases hi with
   |none=>simp[sliceBounds,HT.sIx]
   |some i=>
     simp only[sliceBounds,HT.sIx,Xy,show (1:Int)>0 by decide,if_true]
     by_cases h:i<0
     ·simp only[h,if_true]<;>lia
     ·simp only[h,if_false]<;>lia
theorem cB9(its:List ze)(lo hi:Option Int):slicePick its.toArray lo hi none= ((its.drop (HT.sIx its.length 0 lo)).take (HT.sIx its.length its.length hi-HT.sIx its.length 0 lo)).toArray:=by
 obtain⟨h1,h2,h3⟩:=cI8 lo hi its.toArray.size
 unfold slicePick
 rw[h1,h2,h3]
 simp only[sliceRange_one,pick_run,zr]<;>rfl
def gE5(K:zk):V->Option Int->Option Int->Hp->VK->Prop:=λx lo hi H Q=>∃a xs,x= .ref a/\SqL K H a xs/\∀p,H p=none->Q (.ref p) (upd H p (.lst (cC9 xs lo hi)))
theorem eN2:SlR X (gE5 X.K):=by
 intro pins s O H x v vl vu lo hi sl Q I rx hs pl pu h
 obtain⟨a,xs,rfl,hx,q⟩:=h
 cases rx
 obtain⟨its,r,ht,hz⟩:=I.list hx
 have hlen:=r.length
 refine⟨"list",_,Yd.lookup,ht.isList.typeIs,?_⟩
 refine Xi ht.isList hs pl pu .none (by simp) ?_ (by rw[zr]<;>lia)
 rw[cB9,<-hlen]
 refine⟨.ref s.heap.objs.size,_,I.laid (t':=s.toks) (o:=.lst (cC9 xs lo hi)) (λb ob q=>zj _ q) (zd _) ?_,rfl,q _ (I.hok.fresh (zd _))⟩
 exact⟨zv (bR0 xs lo hi) hz,_,0,(r.drop (HT.sIx xs.length 0 lo)).take (HT.sIx xs.length xs.length hi-HT.sIx xs.length 0 lo),zC _ rfl⟩
noncomputable def bF0:V->Bool
 | .non=>true
 | .bl _=>true
 | .int _=>true
 | .str _=>true
 |_=>false
noncomputable def eqV:V->V->Bool
 | .non,.non=>true
 | .bl a,.bl b=>a==b
 | .bl a,.int b=>(if a then 1 else 0)==b
 | .int a,.bl b=>a==(if b then 1 else 0)
 | .int a,.int b=>a==b
 | .str a,.str b=>a==b
 |_,_=>false
theorem fD5{A:zK}{s:zm}{y x:V}{u v:ze}(ry:M3 y u)(rx:M3 x v)(fy:bF0 y=true)(fx:bF0 x=true):jG A s u v (eqV y x):=by
 cases y with
 |non=>
   cases ry
   cases x with
   |non=>cases rx;exact Zs _
   |bl b=>cases rx;exact Yj b
   |int b=>obtain⟨t,rfl⟩:=rx;exact Yy b t
   |str b=>obtain⟨t,rfl⟩:=rx;exact Yx b t
   |_=>exact absurd (show false=true from fx) jc
 |bl a=>
   cases ry
   cases x with
   |non=>cases rx;exact Yk a
   |bl b=>cases rx;exact Yl a b
   |int b=>obtain⟨t,rfl⟩:=rx;exact YC a b t
   |str b=>obtain⟨t,rfl⟩:=rx;exact YB a b t
   |_=>exact absurd (show false=true from fx) jc
 |int a=>
   obtain⟨t',rfl⟩:=ry
   cases x with
   |non=>cases rx;exact Yz a t'
   |bl b=>cases rx;exact YA a t' b
   |int b=>obtain⟨t,rfl⟩:=rx;exact YG a t' b t
   |str b=>obtain⟨t,rfl⟩:=rx;exact xZ a t' b t
   |_=>exact absurd (show false=true from fx) jc
 |str a=>
   obtain⟨t',rfl⟩:=ry
   cases x with
   |non=>cases rx;exact Yv a t'
   |bl b=>cases rx;exact Yw a t' b
   |int b=>obtain⟨t,rfl⟩:=rx;exact xY a t' b t
   |str b=>obtain⟨t,rfl⟩:=rx;exact YF a t' b t
   |_=>exact absurd (show false=true from fx) jc
 |_=>exact absurd (show false=true from fy) jc
def eqU(x:V)(u:ze):Bool:=match u with
 | .none=>eqV .non x
 | .bool b=>eqV (.bl b) x
 | .int i _=>eqV (.int i) x
 | .str z _=>eqV (.str z) x
 |_=>false
theorem dU1{x y:V}{u:ze}(r:M3 y u)(f:bF0 y=true):eqU x u=eqV y x:=by
 cases y with
 |non=>cases r;rfl
 |bl b=>cases r;rfl
 |int i=>obtain⟨t,rfl⟩:=r;rfl
 |str z=>obtain⟨t,rfl⟩:=r;rfl
 |_=>exact absurd (show false=true from f) jc
theorem bV1{x:V}{xs:List V}{us:List ze}(h:J7 xs us)(f:xs.all bF0=true):us.any (eqU x)=xs.any λy=>eqV y x:=by
 induction h with
 |nil=>rfl
 |cons r t ih=>
   rw[zB,zg]at f
   rw[jq,jq,dU1 r f.1,ih f.2]
theorem bA2{A:zK}{s:zm}{x:V}{v:ze}(rx:M3 x v)(fx:bF0 x=true):∀ {xs:List V} {us:List ze},J7 xs us->xs.all bF0=true->∀u∈us,jG A s u v (eqU x u)
 |_,_,.nil,_=>λu hu=>by cases hu
 |y::xs,u::us,.cons r t,f=>λu' hu=>by
   rw[zB,zg]at f
   rcases zi.mp hu with rfl|hu
   ·rw[dU1 r f.1];exact fD5 r rx f.1 fx
   ·exact bA2 rx fx t f.2 u' hu
def inV(x:V)(xs:List V):Bool:=xs.any λy=>eqV y x
def rIn(K:zk)(neg:Bool):R2:=λx y H Q=>∃p xs,y= .ref p/\(SqL K H p xs\/SqT K H p xs)/\bF0 x=true/\xs.all bF0=true/\Q (.bl (if neg then !inV x xs else inV x xs)) H
theorem dO4:OpR X (zL .In) (rIn X.K false):=by
 intro pins s O H x y v u Q I rx ry h
 obtain⟨p,xs,rfl,hq,fx,fs,q⟩:=h
 cases ry
 rcases hq with hq|hq
 · obtain⟨its,r,pl,hz⟩:=I.list hq
   refine XS (eqU x) pl.isList (λw hw=>bA2 rx fx r fs w (by simpa using hw)) ⟨.bl _,H,I,rfl,?_⟩
   rw[show its.toArray.any (eqU x)=its.any (eqU x) by simp,bV1 r fs]
   exact q
 · obtain⟨its,r,pl,hz⟩:=I.tuple hq
   refine XG (eqU x) pl (λw hw=>bA2 rx fx r fs w (by simpa using hw)) ⟨.bl _,H,I,rfl,?_⟩
   rw[show its.toArray.any (eqU x)=its.any (eqU x) by simp,bV1 r fs]
   exact q
theorem cJ6:OpR X (zL .NotIn) (rIn X.K true):=by
 intro pins s O H x y v u Q I rx ry h
 obtain⟨p,xs,rfl,hq,fx,fs,q⟩:=h
 cases ry
 rcases hq with hq|hq
 · obtain⟨its,r,pl,hz⟩:=I.list hq
   refine Xm (eqU x) pl.isList (λw hw=>bA2 rx fx r fs w (by simpa using hw)) ⟨.bl _,H,I,rfl,?_⟩
   rw[show its.toArray.any (eqU x)=its.any (eqU x) by simp,bV1 r fs]
   exact q
 · obtain⟨its,r,pl,hz⟩:=I.tuple hq
   refine Xd (eqU x) pl (λw hw=>bA2 rx fx r fs w (by simpa using hw)) ⟨.bl _,H,I,rfl,?_⟩
   rw[show its.toArray.any (eqU x)=its.any (eqU x) by simp,bV1 r fs]
   exact q
theorem cM1:OpR X (zL .NotIn) (λx y H Q=>∃i j,x= .str i/\y= .str j/\Q (.bl (!(!(jI j i 0 j.length 1).isEmpty))) H):=by
 intro pins s O H x y v u Q I rx ry h
 obtain⟨i,j,rfl,rfl,q⟩:=h
 obtain⟨t,rfl⟩:=rx
 obtain⟨t',rfl⟩:=ry
 exact notIn_str ⟨.bl _,H,I,rfl,q⟩
theorem cL4:aE5 X (.builtin "len") (λxs H Q=>∃p ys,xs= [.ref p]/\(SqL X.K H p ys\/SqT X.K H p ys)/\Q (.int ys.length) H):=by
 intro pins s O H xs us Q I r h
 obtain⟨p,ys,rfl,hq,q⟩:=h
 obtain⟨u,rfl,rx⟩:=aT1 r
 cases rx
 have hn:=bF6
 rcases hq with hq|hq
 · obtain⟨its,r',pl,hz⟩:=I.list hq
   have hlen:=r'.length
   exact Calls.call_len_list pl.isList (by simp only[zr]<;>lia) ⟨.int ys.length,H,I.tok _,⟨s.toks+1,by rw[zr,hlen]⟩,q⟩
 · obtain⟨its,r',pl,hz⟩:=I.tuple hq
   have hlen:=r'.length
   exact len_tuple pl (by simp only[zr]<;>lia) ⟨.int ys.length,H,I.tok _,⟨s.toks+1,by rw[zr,hlen]⟩,q⟩
theorem cN0:aE5 X (.builtin "len") (λxs H Q=>∃z,xs= [.str z]/\z.length<=zh/\Q (.int z.length) H):=by
 intro pins s O H xs us Q I r h
 obtain⟨z,rfl,hz,q⟩:=h
 obtain⟨u,rfl,t,rfl⟩:=aT1 r
 have hn:=bF6
 exact len_str (by lia) ⟨.int z.length,H,I.tok _,⟨_,rfl⟩,q⟩
theorem aE5.or{f:ze}{r r':List V->Hp->VK->Prop}(h:aE5 X f r)(h':aE5 X f r'):aE5 X f (λxs H Q=>r xs H Q\/r' xs H Q):=by
 intro pins s O H xs us Q I rs q
 rcases q with q|q
 ·exact h pins s O H xs us Q I rs q
 ·exact h' pins s O H xs us Q I rs q
theorem cL6:aE5 X (.type "list") (λxs H Q=>∃p ys,xs= [.ref p]/\(SqL X.K H p ys\/SqT X.K H p ys)/\∀l,H l=none->Q (.ref l) (upd H l (.lst ys))):=by
 intro pins s O H xs us Q I r h
 obtain⟨p,ys,rfl,hq,q⟩:=h
 obtain⟨u,rfl,rx⟩:=aT1 r
 cases rx
 have fin:∀(its:List ze),J7 ys its->ys.length<=zh->∀(h':Heap) (c':Nat),(∀b o',s.heap.get? b=some o'->h'.get? b=some o')->
  h'.get? s.heap.objs.size=some {cls:=.type "list",dict:=none,data:=.seq its.toArray c',slots:= #[]}->EP X pins O Q (.ref s.heap.objs.size) {s with heap:=h'}:=λits r' hz h' c' kp e=>
  ⟨.ref s.heap.objs.size,_,I.laid (t':=s.toks) kp (zd _) (show W7 X.prog X.w _ h' _ (.lst ys) from⟨hz,its,c',r',e⟩),rfl,q _ (I.hok.fresh (zd _))⟩
 rcases hq with hq|hq
 · obtain⟨its,r',pl,hz⟩:=I.list hq
   have hlen:=r'.length
   obtain⟨o,ho,hc,n,hd⟩:=pl.isList
   exact call_list_seq p (.inl rfl) ho hc hd (λh' c' kp e=>fin its r' hz h' c' kp e) (by simp only[zr]<;>lia)
 · obtain⟨its,r',pl,hz⟩:=I.tuple hq
   have hlen:=r'.length
   obtain⟨o,ho,hc,n,hd⟩:=pl
   exact call_list_seq p (.inr rfl) ho hc hd (λh' c' kp e=>fin its r' hz h' c' kp e) (by simp only[zr]<;>lia)
theorem cB7:aE5 X (.type "tuple") (λxs H Q=>∃p ys,xs= [.ref p]/\((SqL X.K H p ys/\∀l,H l=none->Q (.ref l) (upd H l (.tup ys)))\/(SqT X.K H p ys/\Q (.ref p) H))):=by
 intro pins s O H xs us Q I r h
 obtain⟨p,ys,rfl,h⟩:=h
 obtain⟨u,rfl,rx⟩:=aT1 r
 cases rx
 rcases h with⟨hq,q⟩|⟨hq,q⟩
 · obtain⟨its,r',pl,hz⟩:=I.list hq
   have hlen:=r'.length
   refine call_tuple_list pl.isList (λh' kp=>?_) (by simp only[zr]<;>lia)
   have I1:Inv X pins O H {s with heap:=h'}:=I.kept (t':=s.toks) kp
   have I2:Inv X pins O (upd H h'.objs.size (.tup ys)) {s with heap:=h'.push {cls:=.type "tuple",data:=.seq its.toArray}}:=
    I1.laid (t':=s.toks) (λb o e=>zj _ e) (zd _) (show W7 X.prog X.w _ _ _ (.tup ys) from⟨hz,its,r',aJ7.new _ _⟩)
   exact⟨.ref h'.objs.size,_,I2,rfl,q _ (I1.hok.fresh (zd _))⟩
 · obtain⟨its,r',pl,hz⟩:=I.tuple hq
   exact call_tuple_same pl ⟨.ref p,H,I,rfl,q⟩
def tyV(K:zk)(T:String)(x:V)(H:Hp):Prop:=match x with
 | .str _=>T= "str"
 | .int _=>T= "int"
 | .ref p=>(T= "list"/\∃xs,SqL K H p xs)\/(T= "tuple"/\∃o,K.lookup p=some o/\o.cls= .type "tuple"/\o.dict=none)\/
    (T= "dict"/\((∃kvs,H p=some (.dK kvs))\/∃kvs,H p=some (.dT kvs)))\/(T= "set"/\∃S n,H p=some (.set S n))
 |_=>False
theorem eB3{pins:PNS}{O:St}{H:Hp}{s:zm}{T:String}{x:V}{v:ze}(I:Inv X pins O H s)(r:M3 x v)(ty:tyV X.K T x H):
 s.TypeIs v T/\∀a,v= .ref a->∃ob,s.heap.get? a=some ob/\ob.dict=none:=by
 cases x with
 |str z=>
   obtain⟨t,rfl⟩:=r
   cases (show T= "str" from ty)
   exact⟨ZQ s z t,λ_ e=>nomatch e⟩
 |int i=>
   obtain⟨t,rfl⟩:=r
   cases (show T= "int" from ty)
   exact⟨typeIs_int s i t,λ_ e=>nomatch e⟩
 |ref p=>
   cases r
   rcases ty with⟨rfl,xs,hq⟩|⟨rfl,o,hk,hc,hd⟩|⟨rfl,hk⟩|⟨rfl,S,n,hk⟩
   · obtain⟨its,_,pl,_⟩:=I.list hq
     refine⟨pl.isList.typeIs,λa e=>?_⟩
     cases e
     obtain⟨o,n,e,c,hd,_⟩:=pl
     exact⟨o,e,hd⟩
   · refine⟨⟨o,I.kIn p o hk,hc⟩,λa e=>?_⟩
     cases e
     exact⟨o,I.kIn _ o hk,hd⟩
   · have z:∃o,s.heap.get? p=some o/\o.ExactDict:=by
      rcases hk with⟨kvs,hk⟩|⟨kvs,hk⟩
      · obtain⟨_,_,_,_,o,_,_,e,ex,_⟩:=I.hok p _ hk
        exact⟨o,e,ex⟩
      · obtain⟨_,_,_,_,o,_,_,e,ex,_⟩:=I.hok p _ hk
        exact⟨o,e,ex⟩
     obtain⟨o,e,ex⟩:=z
     refine⟨⟨o,e,ex.1⟩,λa e2=>?_⟩
     cases e2
     exact⟨o,e,ex.2.1⟩
   · obtain⟨o,_,_,_,e,ex,_⟩:=I.hok p _ hk
     refine⟨⟨o,e,ex.1⟩,λa e2=>?_⟩
     cases e2
     exact⟨o,e,ex.2.1⟩
 |_=>exact yA ty
def gB7(K:zk)(T:String)(r:V->List V->Hp->VK->Prop)(to:TE):TE:=λO H Q=>to O H λx H1=>tyV K T x H1/\r x [] H1 Q
def tBM(K:zk)(T:String)(r:V->List V->Hp->VK->Prop)(to:TE)(t:TA):TE:=λO H Q=>to O H λx H1=>tyV K T x H1/\t O H1 λxs H2=>r x xs H2 Q
variable{o e:Expr}{es:List Expr}{to:TE}{t:TA}{name:Str}{apos cpos:Pos}{T id:String}{r:V->List V->Hp->VK->Prop}
theorem dW1(pa:PlainAttrs T)(slot:Slot T name id)(hty:typeOf (.builtin id)=pure (.type "method_descriptor"))(hm:MtR X id r)(ho:PE X o to)
 (hbase:attributeBase o name X.env (eval o X.env)=eval o X.env) (hline:(apos.endLine==cpos.line)=true):PE X (.Call (.Attribute o name apos) [] [] cpos) (gB7 X.K T r to):=by
 intro pins s O H Q I h
 refine wpAny_Call_method0_late hbase hline (thn (ho pins s O H _ I h) λv s1 ⟨x,H1,I1,r1,ty,q1⟩=>?_)
 obtain⟨h1,h2⟩:=eB3 I1 r1 ty
 exact⟨T,id,pa,slot,hty,h1,h2,YK rfl (PySem.evalArgs_none (hm pins s1 O H1 x [] v [] Q I1 r1 .nil q1))⟩
theorem fN8(pa:PlainAttrs T)(slot:Slot T name id)(hty:typeOf (.builtin id)=pure (.type "method_descriptor"))(hm:MtR X id r)(ho:PE X o to)(ha:PA X (e::es) t)
 (hbase:attributeBase o name X.env (eval o X.env)=eval o X.env)
 (hfew:((backTo cpos (zJ (e::es) X.env)).all (λx=> !x.1)&&(backToKw cpos (keywordEach [] X.env)).all (λx=>x.1.isSome)
   && decide ((e::es).length+([]:List Keyword).length+(if ([]:List Keyword).isEmpty then 0 else 1)<30))=true)
 (hline:(apos.endLine==cpos.line)=true) (hs:zJ (e::es) X.env= (false,eval e X.env)::zJ es X.env) (hplain:(backTo cpos (zJ es X.env)).any (·.1)=false):
 PE X (.Call (.Attribute o name apos) (e::es) [] cpos) (tBM X.K T r to t):=by
 intro pins s O H Q I h
 refine wpAny_Call_method_late hbase hfew hline rfl (thn (ho pins s O H _ I h) λv s1 ⟨x,H1,I1,r1,ty,q1⟩=>?_)
 obtain⟨h1,h2⟩:=eB3 I1 r1 ty
 refine⟨T,id,pa,slot,hty,h1,h2,?_⟩
 have hA:=ha cpos pins s1 O H1 _ I1 q1
 rw[hs]at hA ⊢
 refine YK (by show (false||(backTo cpos (zJ es X.env)).any (·.1))=false;rw[hplain]<;>rfl) (Calls.evalArgs_plain ?_)
 exact thn hA λus s2 hE1=>hE1.elim λvs H2 I2 r2 q2=>hm pins s2 O H2 x vs v us Q I2 r1 r2 q2
end
def MtM(X:Cx)(id:String)(r:V->List V->Hp->VK->Prop):Prop:=
 ∀(pins:PNS) (s:zm) (O:St) (H:Hp) (x:V) (xs:List V) (v:ze) (us:List ze) (Q:VK),Inv X pins O H s->M3 x v->J7 xs us->r x xs H Q->
  zy (zH X.prog X.w) X.A (call (.builtin id) (v::us)) (EP X pins O Q) X.xe s
theorem J7.one{x:V}{us:List ze}(h:J7 [x] us):∃u,us= [u]/\M3 x u:=by
 cases h with
 |cons r t=>cases t;exact⟨_,rfl,r⟩
theorem J7.zero:∀ {us:List ze},J7 [] us->us= []
 |_,.nil=>rfl
theorem J7.dropLast{xs:List V}{us:List ze}(h:J7 xs us):J7 xs.dropLast us.dropLast:=by
 induction h with
 |nil=>exact .nil
 |cons r t ih=>
   cases t with
   |nil=>exact .nil
   |cons q t'=>exact .cons r ih
theorem J7.reverse{xs:List V}{us:List ze}(h:J7 xs us):J7 xs.reverse us.reverse:=by
 induction h with
 |nil=>exact .nil
 |cons r t ih=>rw[xJ,xJ];exact J7.append ih (.cons r .nil)
theorem dA2{α:Type}(l:List α):l.eraseIdx (l.length-1)=l.dropLast:=by
 induction l with
 |nil=>rfl
 |cons a r ih=>
   cases r with
   |nil=>rfl
   |cons b r=>
     have e:(a::b::r).length-1= ((b::r).length-1)+1:=by
      have h1:(a::b::r).length=r.length+2:=rfl
      have h2:(b::r).length=r.length+1:=rfl
      lia
     rw[e,List.eraseIdx_cons_succ,ih]
     all_goals rfl
section
variable{X:Cx}{pins:PNS}{O:St}{H:Hp}{s:zm}{l b:Addr}{xs ys zs:List V}
theorem Inv.lset{its its':List ze}{n:Nat}{f:Array ze->Array ze}{t':Nat}(I:Inv X pins O H s)(hH:H l=some (.lst xs))
 (e:s.heap.get? l=some {cls:=.type "list",data:=.seq its.toArray n}) (hf:f its.toArray=its'.toArray) (hv:J7 ys its') (hz:ys.length<=zh):
 Inv X pins O (upd H l (.lst ys)) {s with heap:=s.heap.update l (jL f),toks:=t'}:=by
 have q:=PySem.IsL.update e f
 rw[hf]at q
 refine I.write (x:=l) (e:=l) (by rw[hH];exact trivial) (.inl rfl) (λb' u hb hu=>(yc s.heap (jL f) (yP hb)).trans hu) ⟨_,q⟩ ?_
 exact⟨hz,its',_,hv,q⟩
theorem Inv.lnew{its:List ze}{t':Nat}(I:Inv X pins O H s)(hv:J7 ys its)(hz:ys.length<=zh):
 Inv X pins O (upd H s.heap.objs.size (.lst ys)) {s with heap:=s.heap.push {cls:=.type "list",data:=.seq its.toArray},toks:=t'}:=
 I.laid (λ_ _ q=>zj _ q) (zd _) ⟨hz,its,0,hv,zC _ rfl⟩
theorem Inv.fresh(I:Inv X pins O H s):H s.heap.objs.size=none:=I.hok.fresh (zd _)
theorem Inv.lstM(I:Inv X pins O H s)(hH:H l=some (.lst xs)):xs.length<=zh/\∃(its:List ze) (n:Nat),J7 xs its/\xs.length=its.length/\s.heap.get? l=some {cls:=.type "list",data:=.seq its.toArray n}:=by
 obtain⟨z,its,n,r,e⟩:=I.hok l _ hH
 exact⟨z,its,n,r,r.length,e⟩
theorem dZ0{n:Nat}(h:n<=zh):xn n=false:=by
 unfold xn
 exact decide_eq_false (by lia)
end
section
variable{X:Cx}
def eG5:V->List V->Hp->VK->Prop:=λx vs H Q=>∃l xs y,x= .ref l/\vs= [y]/\H l=some (.lst xs)/\xs.length<zh/\Q .non (upd H l (.lst (xs++[y])))
theorem cG5:MtM X "list.append" eG5:=by
 intro pins s O H x vs v us Q I rx rv h
 obtain⟨l,xs,y,rfl,rfl,hH,hz,q⟩:=h
 cases rx
 obtain⟨u,rfl,ru⟩:=rv.one
 obtain⟨z,its,n,r,hl,e⟩:=I.lstM hH
 refine Jm YW ⟨_,e,rfl⟩ F.entry_list_append (F.args_list_append_2 _ _) (PySem.list_append l its.toArray n u (by rw[zr];lia)) ⟨e,?_⟩
 refine⟨.non,_,I.lset (its':=its++[u]) hH e (by simp) (r.append (.cons ru .nil)) ?_,rfl,q⟩
 rw[zx,yj]
 lia
def eF2:V->List V->Hp->VK->Prop:=λx vs H Q=>∃l b xs zs,x= .ref l/\vs= [.ref b]/\H l=some (.lst xs)/\H b=some (.lst zs)/\xs.length+zs.length<=zh/\Q .non (upd H l (.lst (xs++zs)))
theorem dO3:MtM X "list.extend" eF2:=by
 intro pins s O H x vs v us Q I rx rv h
 obtain⟨l,b,xs,zs,rfl,rfl,hH,hB,hz,q⟩:=h
 cases rx
 obtain⟨u,rfl,ru⟩:=rv.one
 cases ru
 obtain⟨z,its,n,r,hl,e⟩:=I.lstM hH
 obtain⟨z2,its2,n2,r2,hl2,e2⟩:=I.lstM hB
 have hsz:its.toArray.size+its2.toArray.size<=zh:=by rw[zr,zr];lia
 have hlong:¬(!its.toArray.isEmpty&&xn (its.toArray.size+its2.toArray.size))=true:=by
  rw[dZ0 hsz,yw]
  exact jc
 refine Jm YV ⟨_,e,rfl⟩ F.entry_list_extend (F.args_list_extend_2 _ _)
  (AutoSeq1.list_extend_list_list_0 l its.toArray n b its2.toArray n2 hlong (by rw[zr];lia) (by lia)) ⟨e,e2,?_⟩
 refine⟨.non,_,I.lset (its':=its++its2) hH e (by simp) (r.append r2) ?_,rfl,q⟩
 rw[zx]
 lia
def gD5:V->List V->Hp->VK->Prop:=λx vs H Q=>∃l xs y,x= .ref l/\vs= []/\H l=some (.lst xs)/\xs[xs.length-1]? =some y/\Q y (upd H l (.lst xs.dropLast))
theorem fH9:MtM X "list.pop" gD5:=by
 intro pins s O H x vs v us Q I rx rv h
 obtain⟨l,xs,y,rfl,rfl,hH,hy,q⟩:=h
 cases rx
 have hus:=rv.zero
 subst hus
 obtain⟨z,its,n,r,hl,e⟩:=I.lstM hH
 obtain⟨u,hu,ru⟩:=r.get hy
 have hy':its.toArray[its.toArray.size-1]? =some u:=by
  show its.toArray[its.length-1]? =some u
  rw[<-xc,<-hl]
  exact hu
 refine Jm Xw ⟨_,e,rfl⟩ F.entry_list_pop (F.args_list_pop_1 _) (MeetsSeq.list_pop_last l its.toArray n u hy' (by rw[zr];lia)) ⟨e,?_⟩
 refine⟨y,_,I.lset (its':=its.dropLast) hH e ?_ r.dropLast ?_,ru,q⟩
 · show its.toArray.eraseIdxIfInBounds (its.toArray.size-1)=its.dropLast.toArray
   rw[zr,List.eraseIdxIfInBounds_toArray,dA2]
 · rw[List.length_dropLast]
   lia
def gA5:R2:=λx y H Q=>∃l b xs zs,x= .ref l/\y= .ref b/\H l=some (.lst xs)/\H b=some (.lst zs)/\xs.length+zs.length<=zh/\∀p,H p=none->Q (.ref p) (upd H p (.lst (xs++zs)))
theorem fL9:OpR X (jT .Add) gA5:=by
 intro pins s O H x y v u Q I rx ry h
 obtain⟨l,b,xs,zs,rfl,rfl,hH,hB,hz,q⟩:=h
 cases rx
 cases ry
 obtain⟨z,its,n,r,hl,e⟩:=I.lstM hH
 obtain⟨z2,its2,n2,r2,hl2,e2⟩:=I.lstM hB
 refine PySem.P.add_list e e2 ?_ (by rw[zr,zr];lia)
 have ea:its.toArray++its2.toArray= (its++its2).toArray:=by simp
 rw[ea]
 exact⟨.ref _,_,I.lnew (t':=s.toks) (r.append r2) (by rw[zx];lia),rfl,q _ I.fresh⟩
end
section
variable{prog:zE}{w:zP}{A:zK}{E:VSP}{s:zm}
end
section
variable{X:Cx}
end
end L2
namespace Att
open PySem PySem.W PySem.Calls PyProof.Rows
theorem bT1{P:Params}{h:Heap}:∀(ns:List Int) (vs:List ze),WellAll P h vs (ns.map WData.int)->IntsAre vs ns:=by
 intro ns
 induction ns with
 |nil=>
   intro vs w
   rw[xT]at w
   cases w
   exact .nil
 |cons n ns ih=>
   intro vs w
   rw[zS]at w
   cases w with
   |cons a b=>
     cases a
     exact .cons _ _ (ih _ b)
theorem dK8{l:OpenLaw}{n:Nat}(hn:l.most=some n){P:Params}{h:Heap}{args:List WData}{vals:List ze}
 (hpre:l.row.toRowW.claim.pre args=true) (hwl:WellAll P h vals args):
 ∃a vs ns,vals= [Value.ref a]/\args= [WData.list (ns.map WData.int)]/\h.get? a=some {cls:=.type "list",data:=.seq vs.toArray}/\IntsAre vs ns/\ns.length<=n:=by
 have hsh:WShape.hasAll [] args [.list .int]=true:=(pre_splitW hpre).1
 have hc:l.pre.holds [] {args:=args}=true:=(pre_splitW hpre).2
 obtain⟨d,r,rfl,h1,h2⟩:=hasAllW_cons hsh
 obtain rfl:=hasAllW_nil h2
 obtain⟨xs,rfl,h3⟩:=hasW_list h1
 obtain⟨ns,rfl⟩:=items_int h3
 have hlen:ns.length<=n:=by
  unfold OpenLaw.pre at hc
  have h4:(WTm.not (.lt (.lit (.int (n:Int))) (.len (.arg 0)))).holds [] {args:= [.list (ns.map .int)]}=true:=by
   have h4:=(holds_andW hc).1
   rw[hn]at h4
   exact h4
  have h5:=condW_of h4 (w_not (w_lt w_lit (w_len_list (w_arg rfl))))
  rw[zo]at h5
  refine Jc λq=>?_
  have q':(n:Int)<((ns.length:Nat):Int):=by lia
  first
   |(rw[decide_eq_true q']at h5;exact absurd h5 (by decide))
   |(simp at h5;lia)
 cases hwl with
 |cons w1 w2=>
   cases w2
   cases w1 with
   |list ho hall=>exact⟨_,_,ns,rfl,rfl,ho,bT1 ns _ hall,hlen⟩
theorem dL6(l:OpenLaw)(args:List WData):l.row.toRowW.claim.post args (.bool true) args=true:=
 postW_of (r:=l.row.toRowW) (X:=(true==true))
  (show WShape.has [] (.bool true) .bool=true by first|rfl|decide|simp[WShape.has,WShape.arms,WShape.armsAll])
  (show (WTm.eq .res (.lit (.bool true))).value [] {args:=args,res:=some (.bool true),after:=args}=some (.bool (true==true))from w_eq_bool (w_res rfl) w_lit) rfl
theorem attach_call{l:OpenLaw}{n:Nat}{q:zE}{loose:List Str}{XP:(Str->Option ze)->Heap->Prop}{YP:zP->Heap->Prop}{d:DefRec}
 (hn:l.most=some n) (hdf:d.params.defaults= [])
 (call:∀(w:zP) (WV WZ:zm) (mg mb:Str->Option ze) (fa:Addr) (o:Obj) (pm cd doc:ze) (a:Addr) (vs:List ze) (ns:List Int),
   Ground q loose [] XP w WV mg mb WZ.heap->YP w WZ.heap->
   WZ.heap.get? fa=some o->o.data= .func (docDef d.name d.params d.body d.scope pm cd doc)->WZ.heap.CodeRec cd d.name->mg d.name=some (.ref fa)->
   WZ.heap.get? a=some {cls:=.type "list",data:=.seq vs.toArray}->IntsAre vs ns->ns.length<=n->WZ.gens= #[]->
   codeAny (zH l.prog w) callerA (.call (.ref fa) ⟨[.ref a], []⟩) (λr s'=>r= .ok (.ret (.bool true))/\OldK WZ.heap s'.heap/\s'.os=WZ.os/\AllBare s'.gens) WZ):
 WalkO q loose XP YP l.row.toRowW d [] (λf vs=>Xl f vs):=by
 intro w WV WZ mg mb G Y fa o pm cd doc dV kV ho hd hcd hD hmg hg args vals as hpre hlay hrd hwl hlo
 obtain rfl:dV= .none:=Dflts.none hD hdf
 obtain rfl:kV= .none:=Dflts.noKw hD
 obtain⟨a,vs,ns,rfl,rfl,hobj,hints,hlen⟩:=dK8 hn hpre hwl
 refine enter_call (XF (call w WV WZ mg mb fa o pm cd doc a vs ns G Y ho (fd_plain hd) hcd hmg hobj hints hlen hg) λr s' hq=>?_)
 obtain⟨rfl,h2,h3,h4⟩:=hq
 exact⟨.inl ⟨.bool true,.bool true, [],rfl,λ_=>rfl,.bool true,dL6 l _,λ_=>⟨List.Pairwise.nil,λ_ hm=>(nomatch hm)⟩⟩,h2,h3,h4⟩
section
variable{prog:zE}{w:zP}{A:zK}{E:VSP}{s:zm}{K:Frag}
end
end Att
namespace L2
open PySem PySem.Spec PyProof.Rows
theorem cF8:∀ {vs:List ze} {ns:List Int},IntsAre vs ns->J7 (ns.map V.int) vs
 |_,_,.nil=>.nil
 |_,_,.cons n t h=>.cons ⟨t,rfl⟩ (cF8 h)
noncomputable def eH3(H:Hp):Prop:=∀b,H b=none\/∃o xs,H b=some (.frz o (.lst xs))
theorem eA5{P:zE}{w:zP}{K:zk}{mg mb:Str->Option ze}{CX:CXT}{k:Nat}{fa a:Addr}{fd:jm}{x:Str}{sp:Sp}{WZ:zm}{vs:List ze}{ns:List Int}
 (KX:K.In WZ.heap) (hns:WZ.heap.Ns ji mg) (hb:WZ.heap.Ns builtinsNs mb) (hbb:∀x:Str,x≠ "__name__"->mb x=zR x) (hlim:WZ.heap.NoLimit) (hg:WZ.gens= #[])
 (ha:WZ.heap.get? a=some {cls:=.type "list",data:=.seq vs.toArray}) (hi:IntsAre vs ns) (hl:ns.length<=zh) (hr:aG6 k callerA)
 (F:∀base:Heap,K.In base->base.Ns ji mg->M4 P w K mg base CX k fa fd [x] sp) (hbind:∀(s:zm) (u:ze),BindsTo s fd ⟨[u], []⟩ [(x,u)])
 (hsp:∀H:Hp,eH3 H->SqL K H a (ns.map V.int)->sp [.ref a] H (λv _=>v= .bl true) λ_ _ _=>False)
 (hCX:∀H e s',CX [] H WZ (λ_ _ _=>False) e s'->False):
 codeAny (zH P w) callerA (.call (.ref fa) ⟨[.ref a], []⟩) (λr s'=>r= .ok (.ret (.bool true))/\OldK WZ.heap s'.heap/\s'.os=WZ.os/\AllBare s'.gens) WZ:=by
 have rv:=cF8 hi
 have lenV:=hi.length
 -- from an abstract heap in which nothing but the script may be tracked
 have core:∀H:Hp,eH3 H->SqL K H a (ns.map V.int)->HOk P w H WZ.heap->(∀b,H b≠none->b=a)->(H a≠none->K.lookup a=none)->
  codeAny (zH P w) callerA (.call (.ref fa) ⟨[.ref a], []⟩) (λr s'=>r= .ok (.ret (.bool true))/\OldK WZ.heap s'.heap/\s'.os=WZ.os/\AllBare s'.gens) WZ:=by
  intro H hO hS hok hA hK
  have base_of:∀ {b:Addr} {o:Obj},WZ.heap.get? b=some o->H b=none->(cJ8 WZ.heap H).get? b=some o:=λe n=>dQ6 e n
  have noA:∀ {b:Addr} {o:Obj} {es:Array DictEntry} {ep:Nat},WZ.heap.get? b=some o->o.data= .dict es ep->H b=none:=λ{b o es ep} e d=>by
   cases q:H b with
   |none=>rfl
   |some u=>
     have e':b=a:=hA b (by rw[q];simp)
     subst e'
     rw[ha]at e;cases e
     have d':Data.seq vs.toArray _=Data.dict es ep:=d
     cases d'
  have nsK:∀ {b:Addr} {m:Str->Option ze},WZ.heap.Ns b m->(cJ8 WZ.heap H).Ns b m:=λ{b m} ⟨o,es,ep,e,d,r⟩=>⟨o,es,ep,base_of e (noA e d),d,r⟩
  have hKb:K.In (cJ8 WZ.heap H):=λb o e=>base_of (KX b o e) (by
   cases q:H b with
   |none=>rfl
   |some u=>
     have e':b=a:=hA b (by rw[q];simp)
     subst e'
     rw[hK (by rw[q];simp)]at e;cases e)
  have hM:Mod K mg (cJ8 WZ.heap H):=⟨hKb,nsK hns,⟨mb,nsK hb,hbb⟩,let ⟨mc,h1,h2⟩:=hlim;⟨mc,nsK h1,h2⟩⟩
  have e0:eI2 P w K mg (cJ8 WZ.heap H) callerA [] WZ H:=⟨rfl,hM,λb o e=>eF8 e,yO (dQ0 _ _),trivial,λb hb=>absurd (show b∈([]:List Addr)from hb) (by simp),hok,.of_eq hg⟩
  refine XF ((F _ hKb (nsK hns)).run callerA [] WZ H ⟨[.ref a], []⟩ [.ref a] [.ref a] _ _ hr e0 (hbind WZ (.ref a)) (.cons rfl .nil) (hsp H hO hS)) λr s' h=>?_
  cases r with
  |error e=>exact(hCX H e s' h).elim
  |ok fl=>
    cases fl with
    |next=>exact yA h
    |brk=>exact yA h
    |cont=>exact yA h
    |ret u=>
      obtain⟨v,H',os,bare,un,hok',r',q⟩:=h
      have q':v= .bl true:=q
      subst q'
      obtain rfl:u=Value.bool true:=r'
      refine⟨rfl,OldK.of_keep λb o e=>?_,os,bare⟩
      cases q:H b with
      |none=>exact un.keep b o e q (by intro z;exact absurd (show b∈([]:List Addr)from z) (by simp)) (by simp)
      |some u=>
        rcases hO b with z|⟨ob,xs,z⟩
        ·rw[q]at z;cases z
        · have z2:=un.frzs b ob _ z
          obtain⟨e1,_⟩:=hok b _ z
          obtain⟨e2,_⟩:=hok' b _ z2
          rw[e]at e1;cases e1
          exact e2
 cases hk:K.lookup a with
 |some o=>
   -- the script is one of the module's own objects
   have e:=KX a o hk
   rw[ha]at e
   cases e
   refine core (λ_=>none) (λ_=>.inl rfl) (.inr ⟨_,vs.toArray,_,hk,rfl,rfl,rfl,by rw[zr,lenV];exact hl,by simpa using rv⟩) (λb u z=>by have z':(none:Option HO)=some u:=z;cases z') (λb z=>absurd rfl z) λz=>absurd rfl z
 |none=>
   refine core (λb=>if b=a then some (.frz {cls:=.type "list",data:=.seq vs.toArray} (.lst (ns.map V.int)))else none) (λb=>?_) (.inl (.inr ⟨{cls:=.type "list",data:=.seq vs.toArray},if_pos rfl⟩)) (λb u z=>?_) (λb z=>?_) λ_=>hk
   · by_cases hb:b=a
     ·exact .inr ⟨_,_,if_pos hb⟩
     ·exact .inl (if_neg hb)
   · by_cases hb:b=a
     · have z':=(if_pos hb).symm.trans z
       cases z'
       subst hb
       exact⟨ha,by rw[zo];exact hl,vs,_,rv,ha⟩
     · have z':=(if_neg hb).symm.trans z
       cases z'
   · by_cases hb:b=a
     ·exact hb
     ·exact absurd (if_neg hb) z
theorem walk_of{l:PySem.W.OpenLaw}{n k:Nat}{q:zE}{loose:List Str}{XP:(Str->Option ze)->Heap->Prop}{YP:zP->Heap->Prop}{d:DefRec}{K:Params->zk}{CX:zP->CXT}{sp:zP->Sp}{x:Str}
 (hn:l.most=some n) (hn2:n<=zh) (hdf:d.params.defaults= []) (hr:aG6 k callerA)
 (hY:∀(w:zP) (h:Heap),YP w h->(K w.params).In h)
 (F:∀(w:zP) (mg:Str->Option ze) (fa:Addr) (h:Heap),(K w.params).In h->h.Ns ji mg->mg d.name=some (.ref fa)->
   ∃fd:jm,(∀(s:zm) (u:ze),BindsTo s fd ⟨[u], []⟩ [(x,u)])/\
    ∀base:Heap,(K w.params).In base->base.Ns ji mg->M4 l.prog w (K w.params) mg base (CX w) k fa fd [x] (sp w))
 (hsp:∀(w:zP) (H:Hp) (a:Addr) (ns:List Int),ns.length<=n->eH3 H->SqL (K w.params) H a (ns.map V.int)->sp w [.ref a] H (λv _=>v= .bl true) λ_ _ _=>False)
 (hCX:∀(w:zP) (H:Hp) (s:zm) (e:ze) (s':zm),CX w [] H s (λ_ _ _=>False) e s'->False):
 XO q loose XP YP l.row.toRowW d [] (λf vs=>Xl f vs):=by
 refine Att.attach_call hn hdf λw WV WZ mg mb fa o pm cd doc a vs ns G Y ho hd hcd hmg hobj hints hlen hg=>?_
 have KX:=hY w _ Y
 obtain⟨fd,hb,hF⟩:=F w mg fa _ KX G.T.g hmg
 exact eA5 KX G.T.g G.T.b G.T.builtins G.T.nolimit hg hobj hints (zv hlen hn2) hr hF hb (λH hO hS=>hsp w H a ns hlen hO hS) λH e s'=>hCX w H WZ e s'
noncomputable def aD8(s:Stmt):Arguments:=match s with
 | .FunctionDef _ a _ _ _ _ _ _ _ _=>a
 |_=>{posonlyargs:= [],args:= [],vararg:=none,kwonlyargs:= [],kw_defaults:= [],kwarg:=none,defaults:= []}
noncomputable def aA4(s:Stmt):List Stmt:=match s with
 | .FunctionDef _ _ b _ _ _ _ _ _ _=>b
 |_=> []
noncomputable def m7(s:Stmt):Scope:=match s with
 | .FunctionDef _ _ _ _ _ _ sc _ _ _=>sc
 |_=>{kind:=.function,names:= [],isGenerator:=false,isCoroutine:=false}
noncomputable abbrev CX0:CXT:=λ_ _ _ _ _ _=>False
noncomputable abbrev E0:XK:=λ_ _ _=>False
theorem eQ8{X:Cx}:cM4 CX0 X E0:=λ_ _ _ _ _ _ _ h=>h.elim
structure Fun(K:zk)(x qual:Str)(st:Stmt)(f:Addr)(fd:jm):Prop where
 ex:∃(oc:ze) (od:Option Addr) (kV doc pm:ze) (an:Option Addr) (cdv ct:ze) (osl:Array (Option ze)),
  fd=jD x qual (aD8 st) (aA4 st) (m7 st) .none kV doc pm an cdv ct/\K.lookup f=some ⟨oc,od,.func fd,osl⟩/\xt K cdv qual=true
 kp:jV K (.ref f)=true
section
variable{P:zE}{w:zP}{K:zk}{mg:Str->Option ze}{base:Heap}
theorem Fun.ok{x qual:Str}{st:Stmt}{f:Addr}{fd:jm}{N ps:List Str}{k:Nat}{sp:Sp}(F:Fun K x qual st f fd)(S:u9 N ps (m7 st))(len:∀vs H Q E,sp vs H Q E->vs.length=ps.length)
 (hbody:∀(cdv:ze) (A:zK) (outer:List Env) (s:zm) (H:Hp) (vs:List V) (Q:VK) (E:XK),aG6 k (A.deeper (envOfC qual (m7 st) s.heap.objs.size f cdv))->sp vs H Q E->
   ∃t,PSs (cW3 CX0 P w K mg base N qual (m7 st) f cdv A outer s H E).nox (aA4 st) t/\t {nx:=λ_ H'=>Q .non H',rt:=Q} (start N vs) H):M4 P w K mg base CX0 (k+1) f fd ps sp:=by
 obtain⟨oc,od,kV,doc,pm,an,cdv,ct,osl,rfl,lk,hcd⟩:=F.ex
 refine fN2 lk hcd S len λA outer s H vs Q E hr hsp=>?_
 obtain⟨t,h,q⟩:=hbody cdv A outer s H vs Q E hr hsp
 exact⟨t,h.nox,q⟩
theorem Fun.binds{x qual:Str}{st:Stmt}{f:Addr}{fd:jm}{ps:List Str}(F:Fun K x qual st f fd)
 (h:∀(kV doc pm:ze) (an:Option Addr) (cdv ct:ze) (us:List ze),us.length=ps.length->bindArgs (jD x qual (aD8 st) (aA4 st) (m7 st) .none kV doc pm an cdv ct) ⟨us, []⟩=pure (ps.zip us)):bK6 K fd ps []:=by
 obtain⟨oc,od,kV,doc,pm,an,cdv,ct,osl,rfl,lk,hcd⟩:=F.ex
 exact .all (h kV doc pm an cdv ct)
theorem cK7{x qual:Str}{st:Stmt}{f:Addr}{oc:ze}{od an:Option Addr}{osl:Array (Option ze)}{kV doc pm cdv ct:ze}(l:K.lookup f=some ⟨oc,od,.func (jD x qual (aD8 st) (aA4 st) (m7 st) .none kV doc pm an cdv ct),osl⟩)
 (c:xt K cdv qual=true) (k:jV K (.ref f)=true):Fun K x qual st f (jD x qual (aD8 st) (aA4 st) (m7 st) .none kV doc pm an cdv ct):=⟨⟨oc,od,kV,doc,pm,an,cdv,ct,osl,rfl,l,c⟩,k⟩
end
section
variable{X:Cx}
end
section
variable{κ:Type}[DecidableEq κ]
noncomputable def bF8(kvs:List (κ×V))(k:κ):Option V:=(kvs.find? λkv=>decide (kv.1=k)).map (·.2)
noncomputable def bP1(kvs:List (κ×V))(k:κ)(v:V):List (κ×V):=
 if (kvs.any λkv=>decide (kv.1=k))=true then kvs.map (λkv=>if kv.1=k then (kv.1,v)else kv)else kvs++[(k,v)]
theorem bI6{p:κ×V}{r:List (κ×V)}{k:κ}(e:p.1=k):bF8 (p::r) k=some p.2:=by simp[bF8,yR,e]
theorem bK8{p:κ×V}{r:List (κ×V)}{k:κ}(e:¬p.1=k):bF8 (p::r) k=bF8 r k:=by simp[bF8,yR,e]
theorem cW7(k:κ):∀kvs:List (κ×V),(kvs.any λkv=>decide (kv.1=k))= (bF8 kvs k).isSome
 |[]=>rfl
 |p::r=>by
   rw[jq]
   by_cases e:p.1=k
   ·simp only[bI6 e,decide_eq_true e,Bool.true_or,Option.isSome_some]
   ·rw[bK8 e,decide_eq_false e,xK];exact cW7 k r
theorem bR6(kvs:List (κ×V))(k:κ)(v:V):(bP1 kvs k v).length<=kvs.length+1:=by
 unfold bP1
 split
 ·rw[zo];lia
 ·rw[zx,zp,jk];lia
theorem dL2.isSome_eq{o:Option V}{u:Option ze}(r:dL2 o u):o.isSome=u.isSome:=by
 cases o with
 |none=>cases u with
   |none=>rfl
   |some _=>exact(show False from r).elim
 |some _=>cases u with
   |none=>exact(show False from r).elim
   |some _=>rfl
theorem KV.val{kvs:List (κ×V)}{vs:List (κ×ze)}(r:KV kvs vs)(k:κ):dL2 (bF8 kvs k) (valueAt vs k):=by
 unfold KV at r
 induction r with
 |nil=>exact True.intro
 |@cons p q ps qs h t ih=>
   obtain⟨h1,h2⟩:=h
   by_cases e:p.1=k
   · have e':q.1=k:=h1.symm.trans e
     have b:valueAt (q::qs) k=some q.2:=by simp[valueAt,yR,e']
     rw[bI6 e,b];exact h2
   · have e':¬q.1=k:=λz=>e (h1.trans z)
     have b:valueAt (q::qs) k=valueAt qs k:=by simp[valueAt,yR,e']
     rw[bK8 e,b];exact ih
theorem KV.any{kvs:List (κ×V)}{vs:List (κ×ze)}(r:KV kvs vs)(k:κ):(kvs.any λkv=>decide (kv.1=k))=vs.any λkv=>decide (kv.1=k):=by
 unfold KV at r
 induction r with
 |nil=>rfl
 |cons h t ih=>rw[jq,jq,ih,h.1]
theorem KV.repl{kvs:List (κ×V)}{vs:List (κ×ze)}(r:KV kvs vs)(k:κ){y:V}{u:ze}(ry:M3 y u):
 KV (kvs.map λkv=>if kv.1=k then (kv.1,y)else kv) (vs.map λkv=>if kv.1=k then (kv.1,u)else kv):=by
 unfold KV at r ⊢
 induction r with
 |nil=>exact .nil
 |@cons p q ps qs h t ih=>
   rw[zS,zS]
   refine .cons ?_ ih
   obtain⟨h1,h2⟩:=h
   by_cases e:p.1=k
   ·rw[if_pos e,if_pos (h1.symm.trans e)];exact⟨h1,ry⟩
   ·rw[if_neg e,if_neg (λz=>e (h1.trans z))];exact⟨h1,h2⟩
theorem KV.put{kvs:List (κ×V)}{vs:List (κ×ze)}(r:KV kvs vs)(k:κ){y:V}{u:ze}(ry:M3 y u):KV (bP1 kvs k y) (stored vs k u):=by
 unfold bP1 stored
 rw[r.any k]
 by_cases e:(vs.any λkv=>decide (kv.1=k))=true
 ·rw[if_pos e,if_pos e];exact r.repl k ry
 ·rw[if_neg e,if_neg e];exact Jo r ⟨rfl,ry⟩
theorem KV.length{kvs:List (κ×V)}{vs:List (κ×ze)}(r:KV kvs vs):kvs.length=vs.length:=yC r
end
theorem dH6{P:zE}{w:zP}{k:Key}{u:ze}(r:M3 (kV k) u):(V5 P w).is k u=true:=by
 cases k with
 |inl i=>obtain⟨t,e⟩:=(show ∃t,u=Value.int i t from r);subst e;exact cU0 P w i t
 |inr x=>obtain⟨t,e⟩:=(show ∃t,u=Value.str x t from r);subst e;exact cT0 P w x t
theorem cF0{P:zE}{w:zP}:∀ {ks:List Key} {us:List ze},J7 (ks.map kV) us->ItemsAre (V5 P w) ks us
 |[],_,r=>by rw[xT]at r;cases r;exact .nil
 |k::ks,_,r=>by
   rw[zS]at r
   cases r with
   |cons h t=>exact .cons (dH6 h) (cF0 t)
abbrev KT(H:Hp):List (List Key×V)->List (List Key×Addr×ze)->Prop:=Paired λp q=>p.1=q.1/\H q.2.1=some (.tup (p.1.map kV))/\M3 p.2 q.2.2
theorem KT.val{H:Hp}{kvs:List (List Key×V)}{xs:List (List Key×Addr×ze)}(r:KT H kvs xs)(k:List Key):dL2 (bF8 kvs k) ((atKey xs k).map (·.2)):=by
 induction r with
 |nil=>exact True.intro
 |@cons p q ps qs h t ih=>
   obtain⟨h1,_,h2⟩:=h
   by_cases e:p.1=k
   · have e':q.1=k:=h1.symm.trans e
     have b:atKey (q::qs) k=some q.2:=by simp[atKey,yR,e']
     rw[bI6 e,b];exact h2
   · have e':¬q.1=k:=λz=>e (h1.trans z)
     have b:atKey (q::qs) k=atKey qs k:=by simp[atKey,yR,e']
     rw[bK8 e,b];exact ih
theorem KT.repl{H:Hp}{kvs:List (List Key×V)}{xs:List (List Key×Addr×ze)}(r:KT H kvs xs)(k:List Key){y:V}{u:ze}(ry:M3 y u):
 KT H (kvs.map λkv=>if kv.1=k then (kv.1,y)else kv) (xs.map (putAt k u)):=by
 induction r with
 |nil=>exact .nil
 |@cons p q ps qs h t ih=>
   rw[zS,zS]
   refine .cons ?_ ih
   obtain⟨h1,h2,h3⟩:=h
   unfold putAt
   by_cases e:p.1=k
   ·rw[if_pos e,if_pos (h1.symm.trans e)];exact⟨h1,h2,ry⟩
   ·rw[if_neg e,if_neg (λz=>e (h1.trans z))];exact⟨h1,h2,h3⟩
theorem KT.put{H:Hp}{kvs:List (List Key×V)}{xs:List (List Key×Addr×ze)}(r:KT H kvs xs)(k:List Key){b:Addr}{y:V}{u:ze}(hb:H b=some (.tup (k.map kV)))(ry:M3 y u):
 KT H (bP1 kvs k y) (storedH xs k b u):=by
 have e:(kvs.any λkv=>decide (kv.1=k))= (atKey xs k).isSome:=by
  rw[cW7,(r.val k).isSome_eq,Zu]
 unfold bP1 storedH
 rw[e]
 by_cases q:(atKey xs k).isSome=true
 ·rw[if_pos q,if_pos q];exact r.repl k ry
 ·rw[if_neg q,if_neg q];exact Jo r ⟨rfl,hb,ry⟩
theorem KT.keeps{H H':Hp}{kvs:List (List Key×V)}{xs:List (List Key×Addr×ze)}(r:KT H kvs xs)(ht:∀b ys,H b=some (.tup ys)->H' b=some (.tup ys)):KT H' kvs xs:=
 Paired.mapP r λ_ _ z=>⟨z.1,ht _ _ z.2.1,z.2.2⟩
section
variable{P:zE}{w:zP}{H:Hp}{h:Heap}{a:Addr}
theorem dX1{u:HO}(ok:HOk P w H h)(e:Rd H a u):W7 P w H h a u:=e.ok ok
theorem dI6{kvs:List (Key×V)}(ok:HOk P w H h)(e:Rd H a (.dK kvs)):kvs.length<=zh/\(a==sysModules)=false/\∃vs,KV kvs vs/\h.DictOf (V5 P w) a vs:=
 show W7 P w H h a (.dK kvs)from dX1 ok e
theorem eC7{kvs:List (Key×V)}(ok:HOk P w H h)(e:H a=some (.dK kvs)):kvs.length<=zh/\(a==sysModules)=false/\∃vs,KV kvs vs/\h.DictOf (V5 P w) a vs:=dI6 ok (.inl e)
theorem cN4{ks:List Key}(ok:HOk P w H h)(e:H a=some (.tup (ks.map kV))):(tupleKind (V5 P w)).is h ks a:=by
 obtain⟨_,its,r,o,h1,h2,n,h3⟩:=(show W7 P w H h a (.tup (ks.map kV))from ok a _ e)
 exact⟨o,its.toArray,n,h1,h2,(xW h3).1,by simpa using cF0 r⟩
theorem dX0{kvs:List (List Key×V)}(ok:HOk P w H h)(e:Rd H a (.dT kvs)):kvs.length<=zh/\(a==sysModules)=false/\
 ∃xs,KT H kvs xs/\h.DictOfH (tupleKind (V5 P w)) a xs:=by
 obtain⟨z,y,xs,r,o,es,ep,h1,h2,h3,h4,h5⟩:=(show W7 P w H h a (.dT kvs)from dX1 ok e)
 refine⟨z,y,xs,r,o,es,ep,h1,h2,h3,h4,λx hx=>?_,h5⟩
 have all:∀ {l:List (List Key×V)} {m:List (List Key×Addr×ze)},KT H l m->∀x∈m,(tupleKind (V5 P w)).is h x.1 x.2.1:=by
  intro l m q
  induction q with
  |nil=>intro x hx;exact nomatch hx
  |@cons p q ps qs hq t ih=>
    intro x hx
    rcases zi.mp hx with e|hx
    · subst e
      exact cN4 ok (by rw[<-hq.1];exact hq.2.1)
    ·exact ih x hx
 exact all r x hx
theorem fO3{kvs:List (List Key×V)}(ok:HOk P w H h)(e:H a=some (.dT kvs)):kvs.length<=zh/\(a==sysModules)=false/\
 ∃xs,KT H kvs xs/\h.DictOfH (tupleKind (V5 P w)) a xs:=dX0 ok (.inl e)
end
def dJ5(H:Hp)(a:Addr)(y:V)(r:Option V):Prop:=
 (∃kvs k,Rd H a (.dK kvs)/\y=kV k/\r=bF8 kvs k)\/∃kvs k b,Rd H a (.dT kvs)/\y= .ref b/\H b=some (.tup (k.map kV))/\r=bF8 kvs k
def eI3(H:Hp)(a:Addr)(y v:V)(H':Hp):Prop:=
 (∃kvs k,H a=some (.dK kvs)/\y=kV k/\kvs.length<zh/\H'=upd H a (.dK (bP1 kvs k v)))\/
 ∃kvs k b,H a=some (.dT kvs)/\y= .ref b/\H b=some (.tup (k.map kV))/\kvs.length<zh/\H'=upd H a (.dT (bP1 kvs k v))
theorem dJ5.k{H:Hp}{a:Addr}{kvs:List (Key×V)}{k:Key}(e:H a=some (.dK kvs)):dJ5 H a (kV k) (bF8 kvs k):=.inl ⟨kvs,k,.inl e,rfl,rfl⟩
theorem eI3.k{H:Hp}{a:Addr}{kvs:List (Key×V)}{k:Key}{v:V}(e:H a=some (.dK kvs))(hl:kvs.length<zh):eI3 H a (kV k) v (upd H a (.dK (bP1 kvs k v))):=.inl ⟨kvs,k,e,rfl,hl,rfl⟩
section
variable{X:Cx}{pins:PNS}{O:St}{H:Hp}{s:zm}{a:Addr}{y v:V}{u r:ze}{o:Option V}{A:zK}{E:VSP}
theorem Inv.big(I:Inv X pins O H s):sysModules<s.heap.objs.size:=by
 have h:ji<s.heap.objs.size:=(I.mod.glob.keeps I.bk).lt
 exact ZE (by decide) h
theorem gA9{Q:VSP}(hu:A.units+1<yq)(I:Inv X pins O H s)(g:dJ5 H a y o)(ry:M3 y u)(h:∀s',Inv X pins O H s'->Q (.bool o.isSome) s'):
 zy (zH X.prog X.w) A (zL .In u (.ref a)) Q E s:=by
 rcases g with⟨kvs,k,e,ey,l⟩|⟨kvs,k,b,e,ey,eb,l⟩
 · subst ey
   obtain⟨z,hd,vs,rel,dd⟩:=dI6 I.hok e
   refine wpAny_in_of (dH6 ry) hd dd.mapOf ?_
   rw[<-(rel.val k).isSome_eq,<-l]
   exact h _ (I.tok _)
 · subst ey
   cases (show u=Value.ref b from ry)
   obtain⟨z,hd,xs,rel,dd⟩:=dX0 I.hok e
   refine wpAny_in_heap (ZR hu) (cN4 I.hok eb) hd dd ?_
   have q:=(rel.val k).isSome_eq
   rw[Zu]at q
   rw[<-q,<-l]
   exact h _ (I.tok _)
theorem eQ4{Q:VSP}(hu:A.units+1<yq)(I:Inv X pins O H s)(g:dJ5 H a y o)(ry:M3 y u)(h:∀s',Inv X pins O H s'->Q (.bool (!o.isSome)) s'):
 zy (zH X.prog X.w) A (zL .NotIn u (.ref a)) Q E s:=by
 rcases g with⟨kvs,k,e,ey,l⟩|⟨kvs,k,b,e,ey,eb,l⟩
 · subst ey
   obtain⟨z,hd,vs,rel,dd⟩:=dI6 I.hok e
   refine wpAny_notIn_of (dH6 ry) hd dd.mapOf ?_
   rw[<-(rel.val k).isSome_eq,<-l]
   exact h _ (I.tok _)
 · subst ey
   cases (show u=Value.ref b from ry)
   obtain⟨z,hd,xs,rel,dd⟩:=dX0 I.hok e
   refine wpAny_notIn_heap (ZR hu) (cN4 I.hok eb) hd dd ?_
   have q:=(rel.val k).isSome_eq
   rw[Zu]at q
   rw[<-q,<-l]
   exact h _ (I.tok _)
theorem dH0{h':Heap}{t':Nat}{ob:HO}(I:Inv X pins O H s)(mu:Mut (H a))(hs:yJ a s.heap h')(he:∃q,h'.get? a=some q)(new:W7 X.prog X.w (upd H a ob) h' a ob):
 Inv X pins O (upd H a ob) {s with heap:=h',toks:=t'}:=
 I.write (x:=a) (e:=a) mu (.inl rfl) (λb q hb z=>(hs.2 b hb).trans z) he new
theorem fD9{P:zE}{w:zP}{H':Hp}{h':Heap}{kvs:List (Key×V)}{vs:List (Key×ze)}(z:kvs.length<=zh)(hd:(a==sysModules)=false)(rel:KV kvs vs)(dd:h'.DictOf (V5 P w) a vs):
 W7 P w H' h' a (.dK kvs):=⟨z,hd,vs,rel,dd⟩
theorem dP6{H':Hp}{Q:Unit->zm->Prop}(hu:A.units+1<yq)(I:Inv X pins O H s)(g:eI3 H a y v H')(ry:M3 y u)(rv:M3 v r)(h:∀s',Inv X pins O H' s'->Q () s'):
 zy (zH X.prog X.w) A (setItem (.ref a) u r) Q E s:=by
 rcases g with⟨kvs,k,e,ey,l,eH⟩|⟨kvs,k,b,e,ey,eb,l,eH⟩
 · subst ey eH
   obtain⟨z,hd,vs,rel,dd⟩:=eC7 I.hok e
   have hz:vs.length<=zh:=by rw[<-rel.length];exact z
   have hl:(bP1 kvs k v).length<=zh:=by have:=bR6 kvs k v;lia
   refine wpAny_setItem_pairs (hsz:=hz) (dH6 ry) dd λh' dd' hs=>h _ ?_
   have he:∃q,h'.get? a=some q:=let ⟨q,_,_,hq,_⟩:=dd';⟨q,hq⟩
   exact dH0 I (by rw[e];exact True.intro) hs he (fD9 hl hd (rel.put k rv) dd')
 · subst ey eH
   cases (show u=Value.ref b from ry)
   obtain⟨z,hd,xs,rel,dd⟩:=fO3 I.hok e
   have hz:xs.length<=zh:=by rw[<-yC rel];exact z
   have hl:(bP1 kvs k v).length<=zh:=by have:=bR6 kvs k v;lia
   refine wpAny_setItem_heap (hsz:=hz) (ZR hu) (cN4 I.hok eb) dd λh' dd' hs=>h _ ?_
   obtain⟨q,es,ep,hq,h2,h3,h4,_,h5⟩:=dd'
   refine dH0 I (by rw[e];exact True.intro) hs ⟨q,hq⟩ ⟨hl,hd,_,(rel.put k eb rv).keeps λc ys ec=>?_,q,es,ep,hq,h2,h3,h4,h5⟩
   rw[K5 (fV5 ec e (λz=>nomatch z))]
   exact ec
end
section
variable{X:Cx}{pins:PNS}{O:St}{H:Hp}{s:zm}{a:Addr}{kvs:List (Key×V)}{k:Key}{u:ze}{A:zK}{E:VSP}
theorem fU2{Q:VSP}(I:Inv X pins O H s)(e:Rd H a (.dK kvs))(h:∀t s',Inv X pins O H s'->Q (.int kvs.length t) s'):zy (zH X.prog X.w) A (call (.builtin "len") [.ref a]) Q E s:=by
 obtain⟨z,hd,vs,rel,dd⟩:=dI6 I.hok e
 refine call_len_dict hd dd (by rw[<-rel.length];rw[XY]at z;lia) ?_
 rw[<-rel.length]
 exact h _ _ (I.tok _)
end
section
variable{X:Cx}{o i e value:Expr}{pos pos' tpos:Pos}{td ty tv:TE}
end
theorem dU2{P:zE}{w:zP}{H:Hp}(h:Heap)(hb:sysModules<h.objs.size):W7 P w H (h.push {cls:=.type "dict",data:=.dict #[]}) h.objs.size (.dK []):=
 ⟨je _,beq_eq_false_iff_ne.mpr (yP (zW hb)), [],.nil,Heap.DictOf.new h⟩
def fG7:TE:=λ_ H Q=>∀p,H p=none->Q (.ref p) (upd H p (.dK []))
section
variable{X:Cx}{pos:Pos}
theorem dQ7:PE X (.Dict [] [] pos) fG7:=λpins s O H Q I h=>
 wpAny_Dict_empty ⟨.ref s.heap.objs.size,_,I.laid (a:=s.heap.objs.size) (o:=.dK []) (t':=s.toks) (λ_ _ q=>zj _ q) (zd _) (dU2 s.heap I.big),rfl,h _ (I.hok.fresh (zd _))⟩
end
structure M1(X:Cx)(o:Expr)(m:Str)(apos:Pos)(e:Expr)(cpos:Pos):Prop where
 base:attributeBase o m X.env (eval o X.env)=eval o X.env
 few:((backTo cpos (zJ [e] X.env)).all (λx=> !x.1)&&(backToKw cpos (keywordEach [] X.env)).all (λx=>x.1.isSome)
  && decide (([e]:List Expr).length+([]:List Keyword).length+(if ([]:List Keyword).isEmpty then 0 else 1)<30))=true
 line:(apos.endLine==cpos.line)=true
 trees:backTo cpos (zJ [e] X.env)= [(false,eval e X.env)]
structure M2(X:Cx)(o:Expr)(m:Str)(apos:Pos)(e f:Expr)(cpos:Pos):Prop where
 base:attributeBase o m X.env (eval o X.env)=eval o X.env
 few:((backTo cpos (zJ [e,f] X.env)).all (λx=> !x.1)&&(backToKw cpos (keywordEach [] X.env)).all (λx=>x.1.isSome)
  && decide (([e,f]:List Expr).length+([]:List Keyword).length+(if ([]:List Keyword).isEmpty then 0 else 1)<30))=true
 line:(apos.endLine==cpos.line)=true
 trees:backTo cpos (zJ [e,f] X.env)= [(false,eval e X.env),(false,eval f X.env)]
section
variable{X:Cx}{pins:PNS}{O:St}{H:Hp}{s:zm}{a:Addr}{y d:V}{u r:ze}{o:Option V}{A:zK}{E:VSP}
end
section
variable{X:Cx}{o e f:Expr}{apos cpos:Pos}{td ty tx:TE}
end
section
variable{X:Cx}{pins:PNS}{O:St}{H:Hp}{s:zm}{a:Addr}{kvs:List (Key×V)}{A:zK}{E:VSP}
end
section
variable{X:Cx}{pins:PNS}{O:St}{H:Hp}{s:zm}{a:Addr}{y:V}{u:ze}{A:zK}{E:VSP}
end
section
variable{X:Cx}
theorem dN2:aE5 X (.builtin "len") (λxs H Q=>∃a kvs,xs= [V.ref a]/\H a=some (.dK kvs)/\Q (.int kvs.length) H):=by
 intro pins s O H xs us Q I r h
 obtain⟨a,kvs,rfl,ha,q⟩:=h
 obtain⟨u,rfl,ru⟩:=aT1 r
 cases ru
 exact fU2 I (.inl ha) λt s' I'=>⟨.int kvs.length,H,I',⟨t,rfl⟩,q⟩
end
section
variable{κ:Type}[DecidableEq κ]
end
end L2
namespace DL
open PySem PySem.Spec L2
open PyProof.Rows hiding St
inductive D where
 |non|bl (b:Bool)|int (i:Int)|str (x:Str)|tup (l:List D)|ref (i:Nat)|fn (x:Str)|ty (n:String)
inductive DO where
 |lst (l:List D)|rol (l:List D)|dct (l:List (Key×D))|rod (l:List (Key×D))
noncomputable abbrev DH:=List DO
abbrev DPP:=D->DH->Prop
noncomputable abbrev DSt:=List (Option D)
structure Wc where
 K:zk
 mg:Str->Option ze
noncomputable abbrev wc(X:Cx):Wc:=⟨X.K,X.mg⟩
mutual
noncomputable def j9(c:Wc)(U:List Addr)(H:Hp):D->V->Prop
 | .non,v=>v= .non
 | .bl b,v=>v= .bl b
 | .int i,v=>v= .int i
 | .str x,v=>v= .str x
 | .ty n,v=>v= .ty n
 | .fn x,v=>∃a,c.mg x=some (.ref a)/\v= .ref a
 | .ref i,v=>∃a,U[i]? =some a/\v= .ref a
 | .tup l,v=>∃a vs,v= .ref a/\SqT c.K H a vs/\J0 c U H l vs
noncomputable def J0(c:Wc)(U:List Addr)(H:Hp):List D->List V->Prop
 |[],vs=>vs= []
 |d::ds,vs=>∃v r,vs=v::r/\j9 c U H d v/\J0 c U H ds r
end
def aI9(c:Wc)(U:List Addr)(H:Hp):List (Key×D)->List (Key×V)->Prop
 |[],kvs=>kvs= []
 |(k,d)::r,kvs=>∃v t,kvs= (k,v)::t/\j9 c U H d v/\aI9 c U H r t
structure Ext(U:List Addr)(H:Hp)(X2:List Addr)(H':Hp):Prop where
 pre:U <+:X2
 new:∀a∈X2,a∉U->H a=none
 oth:∀b o,H b=some o->b∉U->H' b=some o
 tup:∀b xs,H b=some (.tup xs)->H' b=some (.tup xs)
 frz:∀b o u,H b=some (.frz o u)->H' b=some (.frz o u)
theorem Ext.refl(U:List Addr)(H:Hp):Ext U H U H:=⟨xQ _,λa h n=>absurd h n,λ_ _ h _=>h,λ_ _ h=>h,λ_ _ _ h=>h⟩
theorem Ext.trans{U X0 WU:List Addr}{H H1 H2:Hp}(a:Ext U H X0 H1)(b:Ext X0 H1 WU H2):Ext U H WU H2 where
 pre:=a.pre.trans b.pre
 new:=λx h n=>by
  by_cases h1:x∈X0
  ·exact a.new x h1 n
  · have e1:=b.new x h h1
    rcases e:H x with _|o
    ·rfl
    ·rw[a.oth x o e n]at e1;exact eL1 e1
 oth:=λx o e n=>by
  refine b.oth x o (a.oth x o e n) λh1=>?_
  have:=a.new x h1 n
  rw[e]at this;exact eL1 this
 tup:=λx xs e=>b.tup x xs (a.tup x xs e)
 frz:=λx o u e=>b.frz x o u (a.frz x o u e)
theorem Ext.lay{U:List Addr}{H:Hp}{p:Addr}(h:H p=none)(o:HO):Ext U H U (upd H p o):=
 ⟨xQ _,λa h n=>absurd h n,λb o' q _=>by rw[K5 (K7 q h)];exact q,λb xs q=>by rw[K5 (K7 q h)];exact q,λb o' u q=>by rw[K5 (K7 q h)];exact q⟩
theorem Ext.add{U:List Addr}{H:Hp}{p:Addr}(h:H p=none)(o:HO):Ext U H (U++[p]) (upd H p o):=
 ⟨List.prefix_append _ _,λa ha n=>by
  rcases zG.mp ha with z|z
  ·exact absurd z n
  ·rw[zq.mp z];exact h,λb o' q _=>by rw[K5 (K7 q h)];exact q,λb xs q=>by rw[K5 (K7 q h)];exact q,λb o' u q=>by rw[K5 (K7 q h)];exact q⟩
theorem Ext.mut{U:List Addr}{H:Hp}{p:Addr}{o':HO}(hp:p∈U)(h:H p=some o')(n1:∀xs,o'≠ .tup xs)(n2:∀o u,o'≠ .frz o u)(o:HO):Ext U H U (upd H p o):=
 ⟨xQ _,λa h n=>absurd h n,λb o2 q n=>by rw[K5 (λe=>n (by rw[e];exact hp))];exact q,λb xs q=>by
  rw[K5 (λe=>by subst e;rw[h]at q;cases q;exact n1 _ rfl)];exact q,
  λb oo u q=>by
   rw[K5 (λe=>by subst e;rw[h]at q;cases q;exact n2 _ _ rfl)];exact q⟩
theorem Ext.sqT{U X2:List Addr}{K:zk}{H H':Hp}(k:Ext U H X2 H'){a:Addr}{xs:List V}(h:SqT K H a xs):SqT K H' a xs:=by
 rcases h with(h|⟨o,h⟩)|h
 ·exact .inl (.inl (k.tup _ _ h))
 ·exact .inl (.inr ⟨o,k.frz _ _ _ h⟩)
 ·exact .inr h
def RoL(K:zk)(H:Hp)(a:Addr)(xs:List V):Prop:=(∃o,H a=some (.frz o (.lst xs)))\/(SqL K (λ_=>none) a xs)
theorem eD0{K:zk}{H:Hp}{a:Addr}{xs:List V}(h:SqL K (λ_=>none) a xs):SqL K H a xs:=by
 rcases h with(h|⟨o,h⟩)|h
 ·exact J4 h
 ·exact J4 h
 ·exact .inr h
theorem RoL.sq{K:zk}{H:Hp}{a:Addr}{xs:List V}(h:RoL K H a xs):SqL K H a xs:=by
 rcases h with⟨o,h⟩|h
 ·exact .inl (.inr ⟨o,h⟩)
 ·exact eD0 h
theorem Ext.roL{U X2:List Addr}{K:zk}{H H':Hp}(k:Ext U H X2 H'){a:Addr}{xs:List V}(h:RoL K H a xs):RoL K H' a xs:=by
 rcases h with⟨o,h⟩|h
 ·exact .inl ⟨o,k.frz _ _ _ h⟩
 ·exact .inr h
section
variable{c:Wc}{U X2:List Addr}{H H':Hp}
theorem cO2{U X2:List Addr}(h:U <+:X2){i:Nat}{a:Addr}(e:U[i]? =some a):X2[i]? =some a:=by
 obtain⟨t,rfl⟩:=h
 have:i<U.length:=by
  rcases ZG i U.length with q|q
  ·exact q
  ·rw[jn q]at e;exact J4 e
 rw[zQ this];exact e
mutual
theorem j9.mono(x:Ext U H X2 H'):∀ {d:D} {v:V},j9 c U H d v->j9 c X2 H' d v
 | .non,_,h=>h
 | .bl _,_,h=>h
 | .int _,_,h=>h
 | .str _,_,h=>h
 | .ty _,_,h=>h
 | .fn _,_,h=>h
 | .ref i,v,h=>by
   unfold j9 at h ⊢
   obtain⟨a,e,r⟩:=h
   exact⟨a,cO2 x.pre e,r⟩
 | .tup l,v,h=>by
   unfold j9 at h ⊢
   obtain⟨a,vs,e,q,r⟩:=h
   exact⟨a,vs,e,x.sqT q,J0.mono x r⟩
theorem J0.mono(x:Ext U H X2 H'):∀ {l:List D} {vs:List V},J0 c U H l vs->J0 c X2 H' l vs
 |[],_,h=>h
 |d::ds,vs,h=>by
   unfold J0 at h ⊢
   obtain⟨v,r,e,q,t⟩:=h
   exact⟨v,r,e,j9.mono x q,J0.mono x t⟩
end
theorem aI9.mono(x:Ext U H X2 H'):∀ {l:List (Key×D)} {vs:List (Key×V)},aI9 c U H l vs->aI9 c X2 H' l vs
 |[],_,h=>h
 |(_,d)::ds,vs,h=>by
  obtain⟨v,r,e,q,t⟩:=h
  exact⟨v,r,e,j9.mono x q,aI9.mono x t⟩
theorem J0.nil:J0 c U H [] []:=rfl
theorem J0.cons{d:D}{v:V}{ds:List D}{vs:List V}(h:j9 c U H d v)(t:J0 c U H ds vs):J0 c U H (d::ds) (v::vs):=⟨v,vs,rfl,h,t⟩
theorem J0.length:∀ {l:List D} {vs:List V},J0 c U H l vs->l.length=vs.length
 |[],_,h=>by cases h;rfl
 |_::_,_,h=>by obtain⟨v,r,rfl,_,t⟩:=h;simp[J0.length t]
theorem J0.get:∀ {l:List D} {vs:List V} {i:Nat} {d:D},J0 c U H l vs->l[i]? =some d->∃v,vs[i]? =some v/\j9 c U H d v
 |[],_,_,_,_,e=>by simp at e
 |_::_,_,0,_,h,e=>by
   obtain⟨v,r,rfl,q,t⟩:=h
   simp at e;subst e
   exact⟨v,rfl,q⟩
 |_::_,_,i+1,_,h,e=>by
   obtain⟨v,r,rfl,q,t⟩:=h
   simp at e
   obtain⟨w,h1,h2⟩:=J0.get t e
   exact⟨w,by simpa using h1,h2⟩
theorem J0.append:∀ {l l':List D} {vs vs':List V},J0 c U H l vs->J0 c U H l' vs'->J0 c U H (l++l') (vs++vs')
 |[],_,_,_,h,t=>by cases h;exact t
 |_::_,_,_,_,h,t=>by
   obtain⟨v,r,rfl,q,u⟩:=h
   exact⟨v,r++_,rfl,q,J0.append u t⟩
theorem J0.take:∀(n:Nat) {l:List D} {vs:List V},J0 c U H l vs->J0 c U H (l.take n) (vs.take n)
 |0,_,_,_=>rfl
 |_+1, [],_,h=>by cases h;rfl
 |n+1,_::_,_,h=>by
   obtain⟨v,r,rfl,q,u⟩:=h
   exact⟨v,r.take n,rfl,q,J0.take n u⟩
theorem J0.drop:∀(n:Nat) {l:List D} {vs:List V},J0 c U H l vs->J0 c U H (l.drop n) (vs.drop n)
 |0,_,_,h=>h
 |_+1, [],_,h=>by cases h;rfl
 |n+1,_::_,_,h=>by
   obtain⟨v,r,rfl,q,u⟩:=h
   exact J0.drop n u
theorem J0.set{d:D}{v:V}(hv:j9 c U H d v):∀(n:Nat) {l:List D} {vs:List V},J0 c U H l vs->J0 c U H (l.set n d) (vs.set n v)
 |_, [],_,h=>by cases h;rfl
 |0,_::_,_,h=>by
   obtain⟨w,r,rfl,q,u⟩:=h
   exact⟨v,r,rfl,hv,u⟩
 |n+1,_::_,_,h=>by
   obtain⟨w,r,rfl,q,u⟩:=h
   exact⟨w,r.set n v,rfl,q,J0.set hv n u⟩
theorem J0.reverse:∀ {l:List D} {vs:List V},J0 c U H l vs->J0 c U H l.reverse vs.reverse
 |[],_,h=>by cases h;rfl
 |_::_,_,h=>by
   obtain⟨w,r,rfl,q,u⟩:=h
   simp only[xJ]
   exact J0.append (J0.reverse u) ⟨w, [],rfl,q,rfl⟩
theorem J0.dropLast{l:List D}{vs:List V}(h:J0 c U H l vs):J0 c U H l.dropLast vs.dropLast:=by
 rw[Zc,Zc,h.length]
 exact h.take _
noncomputable def aT9:Option DO->Prop
 |some (.rol _)=>True
 |some (.rod _)=>True
 |_=>False
def aR6(c:Wc)(U:List Addr)(H:Hp)(a:Addr):DO->Prop
 | .lst l=>∃vs,H a=some (.lst vs)/\J0 c U H l vs
 | .rol l=>∃vs,RoL c.K H a vs/\J0 c U H l vs
 | .dct l=>∃kvs,H a=some (.dK kvs)/\aI9 c U H l kvs
 | .rod l=>∃kvs o,H a=some (.frz o (.dK kvs))/\aI9 c U H l kvs
structure J8(c:Wc)(U:List Addr)(G:DH)(H:Hp):Prop where
 len:U.length=G.length
 inj:∀(i j:Nat) (a:Addr),U[i]? =some a->U[j]? =some a->i=j\/aT9 G[i]? \/aT9 G[j]?
 obj:∀(i:Nat) (o:DO) (a:Addr),G[i]? =some o->U[i]? =some a->aR6 c U H a o
variable{G:DH}
theorem lt_of_get{α:Type}{l:List α}{i:Nat}{x:α}(e:l[i]? =some x):i<l.length:=by
 rcases ZG i l.length with q|q
 ·exact q
 ·rw[jn q]at e;exact J4 e
theorem aR6.mono(x:Ext U H X2 H'){a:Addr}{o:DO}(h:aR6 c U H a o)(e:H' a=H a\/aT9 (some o)):aR6 c X2 H' a o:=by
 rcases o with l|l|l|l
 ·
   obtain⟨vs,q,r⟩:=h
   rcases e with e|e
   ·exact⟨vs,e.trans q,r.mono x⟩
   ·exact e.elim
 ·obtain⟨vs,q,r⟩:=h;exact⟨vs,x.roL q,r.mono x⟩
 ·
   obtain⟨vs,q,r⟩:=h
   rcases e with e|e
   ·exact⟨vs,e.trans q,r.mono x⟩
   ·exact e.elim
 ·obtain⟨vs,o,q,r⟩:=h;exact⟨vs,o,x.frz _ _ _ q,r.mono x⟩
theorem aR6.some_of{a:Addr}{o:DO}(h:aR6 c U H a o)(n:¬aT9 (some o)):∃u,H a=some u/\(∀xs,u≠ .tup xs)/\∀o' u',u≠ .frz o' u':=by
 rcases o with l|l|l|l
 ·obtain⟨vs,q,_⟩:=h;exact⟨_,q,(λ_ z=>nomatch z),(λ_ _ z=>nomatch z)⟩
 ·exact(n trivial).elim
 ·obtain⟨vs,q,_⟩:=h;exact⟨_,q,(λ_ z=>nomatch z),(λ_ _ z=>nomatch z)⟩
 ·exact(n trivial).elim
theorem J8.same(h:J8 c U G H)(k:Ext U H U H')(e:∀a o,H a=some o->(∀xs,o≠ .tup xs)->H' a=some o):J8 c U G H':=
 ⟨h.len,h.inj,λi o a g m=>by
  have q:=h.obj i o a g m
  by_cases hr:aT9 (some o)
  ·exact q.mono k (.inr hr)
  · obtain⟨u,e1,n1,n2⟩:=q.some_of hr
    exact q.mono k (.inl ((e a u e1 n1).trans e1.symm))⟩
theorem J8.new{p:Addr}{o:DO}{u:HO}(h:J8 c U G H)(hp:H p=none)(ho:aR6 c (U++[p]) (upd H p u) p o):J8 c (U++[p]) (G++[o]) (upd H p u):=by
 have k:Ext U H (U++[p]) (upd H p u):=Ext.add hp u
 have old:∀(i:Nat) (a:Addr),i<U.length->(U++[p])[i]? =some a->U[i]? =some a:=λi a hi e=>by
  rw[zQ hi]at e;exact e
 refine⟨by simp[h.len],λi j a ei ej=>?_,λi o' a g m=>?_⟩
 · have li:=lt_of_get ei
   have lj:=lt_of_get ej
   simp only[zx,yj]at li lj
   by_cases hi:i<U.length
   · have mi:=old i a hi ei
     have gi:(G++[o])[i]? =G[i]? :=zQ (by rw[<-h.len];exact hi)
     by_cases hj:j<U.length
     · have mj:=old j a hj ej
       have gj:(G++[o])[j]? =G[j]? :=zQ (by rw[<-h.len];exact hj)
       rw[gi,gj]
       exact h.inj i j a mi mj
     · -- j is the new one:a=p
       have ej':j=U.length:=by lia
       subst ej'
       have ea:a=p:=by simpa using ej.symm
       subst ea
       right;left
       rw[gi]
       have hg:i<G.length:=by rw[<-h.len];exact hi
       have q:=h.obj i G[i] a (zD hg) mi
       rw[zD hg]
       refine yF λn=>?_
       obtain⟨u',e1,_⟩:=q.some_of n
       rw[hp]at e1;exact J4 e1
   · have ei':i=U.length:=by lia
     by_cases hj:j<U.length
     · have mj:=old j a hj ej
       have gj:(G++[o])[j]? =G[j]? :=zQ (by rw[<-h.len];exact hj)
       subst ei'
       have ea:a=p:=by simpa using ei.symm
       subst ea
       right;right
       rw[gj]
       have hg:j<G.length:=by rw[<-h.len];exact hj
       have q:=h.obj j G[j] a (zD hg) mj
       rw[zD hg]
       refine yF λn=>?_
       obtain⟨u',e1,_⟩:=q.some_of n
       rw[hp]at e1;exact J4 e1
     ·left;lia
 · have li:=lt_of_get m
   simp only[zx,yj]at li
   by_cases hi:i<U.length
   · have mi:=old i a hi m
     rw[zQ (by rw[<-h.len];exact hi)]at g
     have q:=h.obj i o' a g mi
     by_cases hr:aT9 (some o')
     ·exact q.mono k (.inr hr)
     · obtain⟨u',e1,_⟩:=q.some_of hr
       exact q.mono k (.inl (K5 (K7 e1 hp)))
   · have ei':i=U.length:=by lia
     subst ei'
     have ea:a=p:=by simpa using m.symm
     subst ea
     rw[h.len]at g
     have eo:o'=o:=by simpa using g.symm
     subst eo
     exact ho
theorem J8.set{i:Nat}{a:Addr}{o o':DO}{u:HO}(h:J8 c U G H)(g:G[i]? =some o)(n:¬aT9 (some o))(m:U[i]? =some a)(k:Ext U H U (upd H a u))(n':¬aT9 (some o'))(ho:aR6 c U (upd H a u) a o'):J8 c U (G.set i o') (upd H a u):=by
 have hi:i<G.length:=lt_of_get g
 have get:∀j,(G.set i o')[j]? =if i=j then some o' else G[j]? :=λj=>by
  rw[ZB]
  by_cases e:i=j
  ·subst e;simp[hi]
  ·simp[e]
 refine⟨by simp[h.len],λj l b ej el=>?_,λj o2 b gj mj=>?_⟩
 · rcases h.inj j l b ej el with e|e|e
   ·exact .inl e
   · by_cases ij:i=j
     ·subst ij;rw[g]at e;exact(n e).elim
     ·right;left;rw[get,if_neg ij];exact e
   · by_cases ij:i=l
     ·subst ij;rw[g]at e;exact(n e).elim
     ·right;right;rw[get,if_neg ij];exact e
 · rw[get]at gj
   by_cases ij:i=j
   · subst ij
     rw[if_pos rfl]at gj
     cases gj
     rw[m]at mj
     cases mj
     exact ho
   · rw[if_neg ij]at gj
     have q:=h.obj j o2 b gj mj
     by_cases hr:aT9 (some o2)
     ·exact q.mono k (.inr hr)
     · have nb:b≠a:=λe=>by
        subst e
        rcases h.inj i j b m mj with e|e|e
        ·exact ij e
        ·rw[g]at e;exact n e
        ·rw[gj]at e;exact hr e
       exact q.mono k (.inl (K5 nb))
def N6(c:Wc)(U:List Addr)(H:Hp)(X9:DSt)(O:St):Prop:=X9.length=O.length/\∀(i:Nat) (d:D),X9[i]? =some (some d)->∃v,O[i]? =some (some v)/\j9 c U H d v
theorem N6.mono(x:Ext U H X2 H'){X9:DSt}{O:St}(h:N6 c U H X9 O):N6 c X2 H' X9 O:=
 ⟨h.1,λi d e=>let ⟨v,a,b⟩:=h.2 i d e;⟨v,a,b.mono x⟩⟩
theorem N6.put{X9:DSt}{O:St}(h:N6 c U H X9 O){d:D}{v:V}(r:j9 c U H d v)(i:Nat):N6 c U H (X9.set i (some d)) (O.set i (some v)):=by
 refine⟨by simp[h.1],λj d' e=>?_⟩
 rw[ZB]at e ⊢
 by_cases ij:i=j
 · subst ij
   rw[if_pos rfl]at e ⊢
   rw[<-h.1]
   split at e
   · rename_i hl
     rw[if_pos hl]
     cases e
     exact⟨v,rfl,r⟩
   ·exact J4 e
 · rw[if_neg ij]at e ⊢
   exact h.2 j d' e
end
noncomputable def M(α:Type):=DH->Option (Except Str α×DH)
namespace M
noncomputable def pure{α:Type}(a:α):M α:=λG=>some (.ok a,G)
noncomputable def bind{α β:Type}(m:M α)(f:α->M β):M β:=λG=>match m G with
 |none=>none
 |some (.ok a,G1)=>f a G1
 |some (.error x,G1)=>some (.error x,G1)
noncomputable def stuck{α:Type}:M α:=λ_=>none
end M
noncomputable instance:Monad M:={pure:=M.pure,bind:=M.bind}
theorem M.bind_eq{α β:Type}(m:M α)(f:α->M β)(G:DH):(m >>= f) G=match m G with
 |none=>none
 |some (.ok a,G1)=>f a G1
 |some (.error x,G1)=>some (.error x,G1):=rfl
theorem M.bind_ok{α β:Type}{m:M α}{f:α->M β}{G G1:DH}{a:α}(h:m G=some (.ok a,G1)):(m >>= f) G=f a G1:=by rw[M.bind_eq,h]
theorem M.bind_assoc{α β γ:Type}(m:M α)(f:α->M β)(g:β->M γ):((m >>= f) >>= g)= (m >>= λa=>f a >>= g):=by
 funext G
 simp only[M.bind_eq]
 rcases m G with _|p
 ·rfl
 ·obtain⟨r,G1⟩:=p;cases r<;>rfl
noncomputable abbrev XC:=Str->List Addr->DH->Hp->Prop
noncomputable def ZF:XC:=λ_ _ _ _=>False
noncomputable def g8{α:Type}(c:Wc)(Z:XC)(U:List Addr)(H:Hp)(r:Option (Except Str α×DH))(K:α->List Addr->DH->Hp->Prop):Prop:=
 match r with
 |none=>False
 |some (.ok a,G')=>∀ X2 H',Ext U H X2 H'->J8 c X2 G' H'->K a X2 G' H'
 |some (.error x,G')=>∀ X2 H',Ext U H X2 H'->J8 c X2 G' H'->Z x X2 G' H'
section
variable{α β:Type}{c:Wc}{Z:XC}{U X2:List Addr}{H H':Hp}
theorem g8.mono{r:Option (Except Str α×DH)}{K K':α->List Addr->DH->Hp->Prop}(h:g8 c Z U H r K)
 (k:∀a X2 G' H',Ext U H X2 H'->J8 c X2 G' H'->K a X2 G' H'->K' a X2 G' H'):g8 c Z U H r K':=by
 match r,h with
 |some (.ok a,G'),h=>exact λX2 H' p e=>k a X2 G' H' p e (h X2 H' p e)
 |some (.error x,G'),h=>exact h
theorem g8.from{r:Option (Except Str α×DH)}{K:α->List Addr->DH->Hp->Prop}(h:g8 c Z U H r K)(p:Ext U H X2 H'):g8 c Z X2 H' r K:=by
 match r,h with
 |some (.ok a,G'),h=>exact λWU H2 p2 e=>h WU H2 (p.trans p2) e
 |some (.error x,G'),h=>exact λWU H2 p2 e=>h WU H2 (p.trans p2) e
theorem g8.bind{m:M α}{f:α->M β}{G:DH}{K:β->List Addr->DH->Hp->Prop}(h:g8 c Z U H ((m >>= f) G) K):
 g8 c Z U H (m G) (λa X2 G' H'=>g8 c Z X2 H' (f a G') K):=by
 rw[M.bind_eq]at h
 match m G,h with
 |some (.ok a,G'),h=>exact λX2 H' p e=>g8.from h p
 |some (.error x,G'),h=>exact h
theorem g8.ok{a:α}{G:DH}{K:α->List Addr->DH->Hp->Prop}(h:g8 c Z U H (some (.ok a,G)) K)(e:J8 c U G H):K a U G H:=h U H (Ext.refl _ _) e
end
inductive Fl where
 |nx (O:DSt)|rt (d:D)|bk (O:DSt)|ct (O:DSt)
section
variable(c:Wc)(Z:XC)
def bS0(f:DSt->M D):TE:=λO H Q=>∃X9 U G,N6 c U H X9 O/\J8 c U G H/\g8 c Z U H (f X9 G) λd X2 _ H'=>∀v,j9 c X2 H' d v->Q v H'
def bZ4(f:DSt->M Bool):TT:=λO H Q=>∃X9 U G,N6 c U H X9 O/\J8 c U G H/\g8 c Z U H (f X9 G) λb X2 _ H'=>Q b H'
def cS7(f:DSt->M (List D)):TA:=λO H Q=>∃X9 U G,N6 c U H X9 O/\J8 c U G H/\g8 c Z U H (f X9 G) λds X2 _ H'=>∀vs,J0 c X2 H' ds vs->Q vs H'
def bV7(E:cB4)(fl:Fl)(U:List Addr)(H:Hp):Prop:=match fl with
 | .nx X9=>∀ O,N6 c U H X9 O->E.nx O H
 | .rt d=>∀v,j9 c U H d v->E.rt v H
 | .bk X9=>∀ O,N6 c U H X9 O->E.bk O H
 | .ct X9=>∀ O,N6 c U H X9 O->E.ct O H
def bZ3(f:DSt->M Fl):TS:=λE O H=>∃X9 U G,N6 c U H X9 O/\J8 c U G H/\g8 c Z U H (f X9 G) λfl X2 _ H'=>bV7 c E fl X2 H'
end
theorem bS0.elim{c:Wc}{Z:XC}{P:Prop}{f:DSt->M D}{O:St}{H:Hp}{Q:VK}(h:bS0 c Z f O H Q)(k:∀X9 U G,N6 c U H X9 O->J8 c U G H->g8 c Z U H (f X9 G) (λd X2 _ H'=>∀v,j9 c X2 H' d v->Q v H')->P):P:=by
 obtain⟨e0,e1,e2,e3,e4,e5⟩:=h
 exact k e0 e1 e2 e3 e4 e5
theorem bZ4.elim{c:Wc}{Z:XC}{P:Prop}{f:DSt->M Bool}{O:St}{H:Hp}{Q:Bool->Hp->Prop}(h:bZ4 c Z f O H Q)(k:∀X9 U G,N6 c U H X9 O->J8 c U G H->g8 c Z U H (f X9 G) (λb X2 _ H'=>Q b H')->P):P:=by
 obtain⟨e0,e1,e2,e3,e4,e5⟩:=h
 exact k e0 e1 e2 e3 e4 e5
theorem cS7.elim{c:Wc}{Z:XC}{P:Prop}{f:DSt->M (List D)}{O:St}{H:Hp}{Q:List V->Hp->Prop}(h:cS7 c Z f O H Q)(k:∀X9 U G,N6 c U H X9 O->J8 c U G H->g8 c Z U H (f X9 G) (λds X2 _ H'=>∀vs,J0 c X2 H' ds vs->Q vs H')->P):P:=by
 obtain⟨e0,e1,e2,e3,e4,e5⟩:=h
 exact k e0 e1 e2 e3 e4 e5
theorem bZ3.elim{c:Wc}{Z:XC}{P:Prop}{f:DSt->M Fl}{E:cB4}{O:St}{H:Hp}(h:bZ3 c Z f E O H)(k:∀X9 U G,N6 c U H X9 O->J8 c U G H->g8 c Z U H (f X9 G) (λfl X2 _ H'=>bV7 c E fl X2 H')->P):P:=by
 obtain⟨e0,e1,e2,e3,e4,e5⟩:=h
 exact k e0 e1 e2 e3 e4 e5
structure DE(X:Cx)(Z:XC)(e:Expr)(f:DSt->M D):Prop where
 h:PE X e (bS0 (wc X) Z f)
structure DT(X:Cx)(Z:XC)(e:Expr)(f:DSt->M Bool):Prop where
 h:PT X e (bZ4 (wc X) Z f)
structure DA(X:Cx)(Z:XC)(e:List Expr)(f:DSt->M (List D)):Prop where
 h:PA X e (cS7 (wc X) Z f)
structure DS(X:Cx)(Z:XC)(e:Stmt)(f:DSt->M Fl):Prop where
 h:PS X e (bZ3 (wc X) Z f)
structure DB(X:Cx)(Z:XC)(e:List Stmt)(f:DSt->M Fl):Prop where
 h:PSs X e (bZ3 (wc X) Z f)
theorem PE.mono{X:Cx}{e:Expr}{t t':TE}(h:PE X e t)(k:∀ O H Q,t' O H Q->t O H Q):PE X e t':=λpins s O H Q I q=>h pins s O H Q I (k O H Q q)
theorem PT.mono{X:Cx}{e:Expr}{t t':TT}(h:PT X e t)(k:∀ O H Q,t' O H Q->t O H Q):PT X e t':=λpins s O H Q I q=>h pins s O H Q I (k O H Q q)
theorem PW.mono{X:Cx}{e:Expr}{t t':TT}(h:PW X e t)(k:∀ O H Q,t' O H Q->t O H Q):PW X e t':=λwh pins s O H Q I q=>h wh pins s O H Q I (k O H Q q)
theorem PA.mono{X:Cx}{e:List Expr}{t t':TA}(h:PA X e t)(k:∀ O H Q,t' O H Q->t O H Q):PA X e t':=λpos pins s O H Q I q=>h pos pins s O H Q I (k O H Q q)
theorem PS.mono{X:Cx}{e:Stmt}{t t':TS}(h:PS X e t)(k:∀E O H,t' E O H->t E O H):PS X e t':=λpins s O H E I q=>h pins s O H E I (k E O H q)
theorem PSs.mono{X:Cx}{e:List Stmt}{t t':TS}(h:PSs X e t)(k:∀E O H,t' E O H->t E O H):PSs X e t':=λpins s O H E I q=>h pins s O H E I (k E O H q)
theorem DE.of{X:Cx}{Z:XC}{e:Expr}{f:DSt->M D}{t:TE}(h:PE X e t)(k:∀ O H Q,bS0 (wc X) Z f O H Q->t O H Q):DE X Z e f:=⟨PE.mono h k⟩
theorem DT.of{X:Cx}{Z:XC}{e:Expr}{f:DSt->M Bool}{t:TT}(h:PT X e t)(k:∀ O H Q,bZ4 (wc X) Z f O H Q->t O H Q):DT X Z e f:=⟨PT.mono h k⟩
theorem DA.of{X:Cx}{Z:XC}{e:List Expr}{f:DSt->M (List D)}{t:TA}(h:PA X e t)(k:∀ O H Q,cS7 (wc X) Z f O H Q->t O H Q):DA X Z e f:=⟨PA.mono h k⟩
theorem DS.of{X:Cx}{Z:XC}{e:Stmt}{f:DSt->M Fl}{t:TS}(h:PS X e t)(k:∀E O H,bZ3 (wc X) Z f E O H->t E O H):DS X Z e f:=⟨PS.mono h k⟩
theorem DB.of{X:Cx}{Z:XC}{e:List Stmt}{f:DSt->M Fl}{t:TS}(h:PSs X e t)(k:∀E O H,bZ3 (wc X) Z f E O H->t E O H):DB X Z e f:=⟨PSs.mono h k⟩
end DL
namespace DL
open PySem PySem.Spec L2
open PyProof.Rows hiding St
noncomputable def X3:Expr->Bool
 | .Starred ..=>false
 |_=>true
theorem q17{e:Expr}{es:List Expr}{env:Env}(h:X3 e=true):zJ (e::es) env= (false,eval e env)::zJ es env:=by
 cases e<;>first
  |rfl
  |exact aN7 h
theorem aO3{e:Expr}{env:Env}(h:X3 e=true):zJ [e] env= [(false,eval e env)]:=q17 h
theorem cA8{a b:Expr}{env:Env}(h:X3 a=true)(h':X3 b=true):zJ [a,b] env= [(false,eval a env),(false,eval b env)]:=by rw[q17 h,aO3 h']
abbrev Fe:=DSt->M D
noncomputable def c7(i:Nat):Fe:=λO G=>match O[i]? with
 |some (some d)=>some (.ok d,G)
 |_=>none
def cE(d:D):Fe:=λ_=>pure d
noncomputable def d7(o:D->D->M D)(a b:Fe):Fe:=λO=>do o (<-a O) (<-b O)
noncomputable def unE(o:D->M D)(a:Fe):Fe:=λO=>do o (<-a O)
def q14:DSt->M (List D):=λ_=>pure []
def q13(a:Fe)(r:DSt->M (List D)):DSt->M (List D):=λO=>do
 let x <-a O
 let xs <-r O
 pure (x::xs)
noncomputable def q15(F:List D->M D)(a:DSt->M (List D)):Fe:=λO=>do F (<-a O)
def cY1:D->M Bool
 | .bl b=>pure b
 |_=>M.stuck
def cD1(a:Fe):Fe:=λO=>do pure (.bl (!(<-cY1 (<-a O))))
noncomputable def ifE(t:DSt->M Bool)(a b:Fe):Fe:=λO=>do if <-t O then a O else b O
section
variable(c:Wc)(Z:XC)
def bN9(o:D->D->M D):R2:=λx y H Q=>∃dx dy U G,j9 c U H dx x/\j9 c U H dy y/\J8 c U G H/\g8 c Z U H (o dx dy G) λd X2 _ H'=>∀v,j9 c X2 H' d v->Q v H'
def cI6(o:D->M D):V->Hp->VK->Prop:=λx H Q=>∃dx U G,j9 c U H dx x/\J8 c U G H/\g8 c Z U H (o dx G) λd X2 _ H'=>∀v,j9 c X2 H' d v->Q v H'
def bF4(F:List D->M D):List V->Hp->VK->Prop:=λxs H Q=>∃ds U G,J0 c U H ds xs/\J8 c U G H/\g8 c Z U H (F ds G) λd X2 _ H'=>∀v,j9 c X2 H' d v->Q v H'
end
theorem bN9.elim{c:Wc}{Z:XC}{P:Prop}{o:D->D->M D}{x:V}{y:V}{H:Hp}{Q:VK}(h:bN9 c Z o x y H Q)(k:∀dx dy U G,j9 c U H dx x->j9 c U H dy y->J8 c U G H->g8 c Z U H (o dx dy G) (λd X2 _ H'=>∀v,j9 c X2 H' d v->Q v H')->P):P:=by
 obtain⟨e0,e1,e2,e3,e4,e5,e6,e7⟩:=h
 exact k e0 e1 e2 e3 e4 e5 e6 e7
theorem cI6.elim{c:Wc}{Z:XC}{P:Prop}{o:D->M D}{x:V}{H:Hp}{Q:VK}(h:cI6 c Z o x H Q)(k:∀dx U G,j9 c U H dx x->J8 c U G H->g8 c Z U H (o dx G) (λd X2 _ H'=>∀v,j9 c X2 H' d v->Q v H')->P):P:=by
 obtain⟨e0,e1,e2,e3,e4,e5⟩:=h
 exact k e0 e1 e2 e3 e4 e5
theorem bF4.elim{c:Wc}{Z:XC}{P:Prop}{F:List D->M D}{xs:List V}{H:Hp}{Q:VK}(h:bF4 c Z F xs H Q)(k:∀ds U G,J0 c U H ds xs->J8 c U G H->g8 c Z U H (F ds G) (λd X2 _ H'=>∀v,j9 c X2 H' d v->Q v H')->P):P:=by
 obtain⟨e0,e1,e2,e3,e4,e5⟩:=h
 exact k e0 e1 e2 e3 e4 e5
structure OpD(X:Cx)(Z:XC)(f:ze->ze->Sem ze)(o:D->D->M D):Prop where
 h:OpR X f (bN9 (wc X) Z o)
structure UnD(X:Cx)(Z:XC)(f:ze->Sem ze)(o:D->M D):Prop where
 h:UnR X f (cI6 (wc X) Z o)
structure aE6(X:Cx)(Z:XC)(f:ze)(F:List D->M D):Prop where
 h:aE5 X f (bF4 (wc X) Z F)
theorem OpR.mono{X:Cx}{f:ze->ze->Sem ze}{r r':R2}(h:OpR X f r)(k:∀x y H Q,r' x y H Q->r x y H Q):OpR X f r':=λpins s O H x y v u Q I rx ry q=>h pins s O H x y v u Q I rx ry (k x y H Q q)
theorem aE5.mono{X:Cx}{f:ze}{r r':List V->Hp->VK->Prop}(h:aE5 X f r)(k:∀xs H Q,r' xs H Q->r xs H Q):aE5 X f r':=λpins s O H xs us Q I rx q=>h pins s O H xs us Q I rx (k xs H Q q)
theorem OpD.of{X:Cx}{Z:XC}{f:ze->ze->Sem ze}{o:D->D->M D}{r:R2}(h:OpR X f r)(k:∀x y H Q,bN9 (wc X) Z o x y H Q->r x y H Q):OpD X Z f o:=⟨OpR.mono h k⟩
theorem aE6.of{X:Cx}{Z:XC}{f:ze}{F:List D->M D}{r:List V->Hp->VK->Prop}(h:aE5 X f r)(k:∀xs H Q,bF4 (wc X) Z F xs H Q->r xs H Q):aE6 X Z f F:=⟨aE5.mono h k⟩
section
variable{X:Cx}{Z:XC}{a b c e:Expr}{es:List Expr}{fa fb fc:Fe}{pos:Pos}
theorem bI2{cc:Wc}{o:D->D->M D}(O:St)(H:Hp)(Q:VK)(h:bS0 cc Z (d7 o fa fb) O H Q):tOp (bN9 cc Z o) (bS0 cc Z fa) (bS0 cc Z fb) O H Q:=by
 obtain⟨X9,U,G,s,h,p⟩:=h
 exact⟨X9,U,G,s,h,(g8.bind p).mono λx X0 G1 H1 x' h1 p1 v rv=>⟨X9,X0,G1,s.mono x',h1,(g8.bind p1).mono λy WU G2 H2 x2 h2 p2 u ru=>⟨x,y,WU,G2,rv.mono x2,ru,h2,p2⟩⟩⟩
theorem eX6{i:Nat}(h:PE X e (fT4 i)):DE X Z e (c7 i):=DE.of h λO H Q hE0=>hE0.elim λX9 U G s h p=>by
 delta c7 at p
 rcases he:X9[i]? with _|_|d
 ·rw[he]at p;exact p.elim
 ·rw[he]at p;exact p.elim
 · rw[he]at p
   obtain⟨v,e1,r⟩:=s.2 i d he
   exact⟨v,e1,g8.ok p h v r⟩
theorem eB4{d:D}{v:V}(h:PE X e (tC v))(r:∀ U H,j9 (wc X) U H d v):DE X Z e (cE d):=DE.of h λO H Q hE0=>hE0.elim λX9 U G s h p=>g8.ok p h v (r _ _)
theorem q20{i j pos}:DE X Z (.Constant (.int i) j pos) (cE (.int i)):=eB4 cX9 λ_ _=>by unfold j9;rfl
theorem fX1{i j pos}:DE X Z (.Constant (.bool i) j pos) (cE (.bl i)):=eB4 fN7 λ_ _=>by unfold j9;rfl
theorem fG5{j pos}:DE X Z (.Constant .none j pos) (cE .non):=eB4 eW3 λ_ _=>by unfold j9;rfl
theorem fC7{i j pos}:DE X Z (.Constant (.str i) j pos) (cE (.str i)):=eB4 fK7 λ_ _=>by unfold j9;rfl
theorem gB5(i:Nat){x:Str}{pos:Pos}(hN:X.N[i]? =some x)(hv:Vis X.env.scope x)(hd:(x==("__debug__" :Str))=false)
 (hcd:(x==("__classdict__" :Str))=false):DE X Z (.Name x pos) (c7 i):=eX6 (eW2 hN hv hd hcd)
theorem fS0{op:Operator}{o:D->D->M D}(ho:OpD X Z (jT op) o)(ha:DE X Z a fa)(hb:DE X Z b fb):DE X Z (.BinOp a op b pos) (d7 o fa fb):=
 DE.of (eD1 ho.h ha.h hb.h) bI2
theorem fE5{op:CmpOp}{o:D->D->M D}(ho:OpD X Z (zL op) o)(ha:DE X Z a fa)(hb:DE X Z b fb)(hm:behindInMarks op b=false):DE X Z (.Compare a [op] [b] pos) (d7 o fa fb):=
 DE.of (eL9 ho.h ha.h hb.h hm) bI2
theorem fP3{op:UnaryOp}{o:D->M D}(ho:UnD X Z (unaryOp op) o)(ha:DE X Z a fa):DE X Z (.UnaryOp op a pos) (unE o fa):=
 DE.of (eS8 ho.h ha.h) λO H Q hE0=>hE0.elim λX9 U G s h p=>⟨X9,U,G,s,h,(g8.bind p).mono λx X0 G1 H1 x' h1 p1 v rv=>⟨x,X0,G1,rv,h1,p1⟩⟩
theorem cI1{α:Type}{cc:Wc}{U:List Addr}{H:Hp}{d:D}{f:Bool->M α}{G:DH}{K:α->List Addr->DH->Hp->Prop}(p:g8 cc Z U H ((cY1 d >>= f) G) K):∃k,d= .bl k/\g8 cc Z U H (f k G) K:=by
 cases d with
 |bl k=>exact⟨k,rfl,p⟩
 |_=>exact p.elim
theorem fL7{op}{f:Fe}(h:DE X Z a f):DE X Z (.BoolOp op [a] pos) f:=⟨fG3 h.h⟩
theorem eZ8(ha:DE X Z a fa):DE X Z (.UnaryOp .Not a pos) (cD1 fa):=
 DE.of (fM0 ha.h) λO H Q hE0=>hE0.elim λX9 U G s h p=>⟨X9,U,G,s,h,(g8.bind p).mono λx X0 G1 H1 x' h1 p1 v rv=>by
  obtain⟨k',rfl,p2⟩:=cI1 p1
  unfold j9 at rv
  exact⟨k',rv,g8.ok p2 h1 _ (by unfold j9;rfl)⟩⟩
def o8(f:Fe):DSt->M Bool:=λO=>do cY1 (<-f O)
def aB3(a b:DSt->M Bool):DSt->M Bool:=λO=>do if <-a O then b O else pure false
def orT(a b:DSt->M Bool):DSt->M Bool:=λO=>do if <-a O then pure true else b O
def R1(a:DSt->M Bool):DSt->M Bool:=λO=>do pure (!(<-a O))
structure DW(X:Cx)(Z:XC)(e:Expr)(f:DSt->M Bool):Prop where
 h:PW X e (bZ4 (wc X) Z f)
theorem DW.of{X:Cx}{Z:XC}{e:Expr}{f:DSt->M Bool}{t:TT}(h:PW X e t)(k:∀ O H Q,bZ4 (wc X) Z f O H Q->t O H Q):DW X Z e f:=⟨PW.mono h k⟩
variable{ta tb:DSt->M Bool}{W9:List Expr}
theorem DW.dt(h:DW X Z a ta):DT X Z a ta:=⟨λpins s O H Q I q=>h.h _ pins s O H Q I q⟩
theorem eZ9{op:CmpOp}{o:D->D->M D}(ho:OpD X Z (zL op) o)(ha:DE X Z a fa)(hb:DE X Z b fb)(hm:behindInMarks op b=false):DT X Z (.Compare a [op] [b] pos) (o8 (d7 o fa fb)):=
 DT.of (eF9 ho.h ha.h hb.h hm) λO H Q hE0=>hE0.elim λX9 U G s h p=>bI2 O H _ ⟨X9,U,G,s,h,(g8.bind p).mono λx X0 G1 H1 x' h1 p1 v rv=>by
  cases x with
  |bl k'=>unfold j9 at rv;exact⟨k',rv,g8.ok p1 h1⟩
  |_=>exact p1.elim⟩
theorem eL5(ha:DT X Z a ta):DW X Z (.BoolOp .And [a] pos) ta:=⟨eO3 ha.h⟩
theorem eX7(ha:DT X Z a ta):DW X Z (.BoolOp .Or [a] pos) ta:=⟨fG8 ha.h⟩
theorem fE0(ha:DT X Z a ta)(hb:DW X Z (.BoolOp .And (b::W9) pos) tb):DW X Z (.BoolOp .And (a::b::W9) pos) (aB3 ta tb):=
 DW.of (fL4 ha.h hb.h) λO H Q hE0=>hE0.elim λX9 U G s h p=>⟨X9,U,G,s,h,(g8.bind p).mono λx X0 G1 H1 x' h1 p1=>by
  cases x with
  |true=>exact⟨X9,X0,G1,s.mono x',h1,p1⟩
  |false=>exact g8.ok p1 h1⟩
theorem fO7(ha:DT X Z a ta)(hb:DW X Z (.BoolOp .Or (b::W9) pos) tb):DW X Z (.BoolOp .Or (a::b::W9) pos) (orT ta tb):=
 DW.of (fU5 ha.h hb.h) λO H Q hE0=>hE0.elim λX9 U G s h p=>⟨X9,U,G,s,h,(g8.bind p).mono λx X0 G1 H1 x' h1 p1=>by
  cases x with
  |false=>exact⟨X9,X0,G1,s.mono x',h1,p1⟩
  |true=>exact g8.ok p1 h1⟩
theorem eY2(ha:DT X Z a ta):DT X Z (.UnaryOp .Not a pos) (R1 ta):=
 DT.of (fK3 ha.h) λO H Q hE0=>hE0.elim λX9 U G s h p=>⟨X9,U,G,s,h,(g8.bind p).mono λx X0 G1 H1 x' h1 p1=>g8.ok p1 h1⟩
theorem fS9(hc:DT X Z c ta)(ha:DE X Z a fa)(hb:DE X Z b fb):DE X Z (.IfExp c a b pos) (ifE ta fa fb):=
 DE.of (dW6 hc.h ha.h hb.h) λO H Q hE0=>hE0.elim λX9 U G s h p=>⟨X9,U,G,s,h,(g8.bind p).mono λx X0 G1 H1 x' h1 p1=>by
  cases x with
  |true=>exact⟨X9,X0,G1,s.mono x',h1,p1⟩
  |false=>exact⟨X9,X0,G1,s.mono x',h1,p1⟩⟩
variable{fs:DSt->M (List D)}
theorem q19:DA X Z [] q14:=DA.of fB8 λO H Q hE0=>hE0.elim λX9 U G s h p=>g8.ok p h [] rfl
theorem q18(ha:DE X Z e fa)(hr:DA X Z es fs)(hs:zJ (e::es) X.env= (false,eval e X.env)::zJ es X.env):DA X Z (e::es) (q13 fa fs):=
 DA.of (eP9 ha.h hr.h hs) λO H Q hE0=>hE0.elim λX9 U G s h p=>⟨X9,U,G,s,h,(g8.bind p).mono λx X0 G1 H1 x' h1 p1 v rv=>
  ⟨X9,X0,G1,s.mono x',h1,(g8.bind p1).mono λxs WU G2 H2 x2 h2 p2 vs rvs=>g8.ok p2 h2 (v::vs) ⟨v,vs,rfl,rv.mono x2,rvs⟩⟩⟩
def v7(fs:DSt->M (List D)):Fe:=λO=>do
 let xs <-fs O
 if xs.length<=zh then pure (.tup xs)else M.stuck
noncomputable def S6(o:DO):M D:=λG=>some (.ok (.ref G.length),G++[o])
def M6(fs:DSt->M (List D)):Fe:=λO=>do
 let xs <-fs O
 if xs.length<=zh then S6 (.lst xs)else M.stuck
theorem aY5{cc:Wc}{U:List Addr}{H:Hp}{G:DH}{xs:List D}{vs:List V}{Q:VK}(h:J8 cc U G H)(r:J0 cc U H xs vs)
 (p:g8 cc Z U H (some (Except.ok (.tup xs),G)) λd X2 _ H'=>∀v,j9 cc X2 H' d v->Q v H') (q:Addr) (hq:H q=none):Q (.ref q) (upd H q (.tup vs)):=by
 have k:Ext U H U (upd H q (.tup vs)):=Ext.lay hq _
 refine p U _ k (h.same k λa o e n=>?_) _ ?_
 ·rw[K5 (K7 e hq)];exact e
 · unfold j9
   exact⟨q,vs,rfl,SqT.of T7,r.mono k⟩
theorem aE9{cc:Wc}{U:List Addr}{H:Hp}{G:DH}{xs:List D}{vs:List V}{Q:VK}(h:J8 cc U G H)(r:J0 cc U H xs vs)
 (p:g8 cc Z U H (S6 (.lst xs) G) λd X2 _ H'=>∀v,j9 cc X2 H' d v->Q v H') (q:Addr) (hq:H q=none):Q (.ref q) (upd H q (.lst vs)):=by
 have k:Ext U H (U++[q]) (upd H q (.lst vs)):=Ext.add hq _
 refine p (U++[q]) _ k (h.new hq ⟨vs,T7,r.mono k⟩) _ ?_
 unfold j9
 exact⟨q,by rw[<-h.len];simp,rfl⟩
theorem fB1{x1}(h:DA X Z es fs):DE X Z (.Tuple es x1 pos) (v7 fs):=
 DE.of (fF0 h.h) λO H Q hE0=>hE0.elim λX9 U G s h p=>⟨X9,U,G,s,h,(g8.bind p).mono λxs X0 G1 H1 x' h1 p1 vs rv=>by
  split at p1
  · rename_i hz
    exact⟨by rw[<-rv.length];exact hz,λq hq=>aY5 h1 rv p1 q hq⟩
  ·exact p1.elim⟩
theorem fJ3(h:DA X Z es fs):DE X Z (.List es pos) (M6 fs):=
 DE.of (fA6 h.h) λO H Q hE0=>hE0.elim λX9 U G s h p=>⟨X9,U,G,s,h,(g8.bind p).mono λxs X0 G1 H1 x' h1 p1 vs rv=>by
  split at p1
  · rename_i hz
    exact⟨by rw[<-rv.length];exact hz,λq hq=>aE9 h1 rv p1 q hq⟩
  ·exact p1.elim⟩
theorem cE8{cc:Wc}{F:List D->M D}(O:St)(H:Hp)(Q:VK)(h:bS0 cc Z (q15 F fs) O H Q):tCB (bF4 cc Z F) (cS7 cc Z fs) O H Q:=by
 obtain⟨X9,U,G,s,h,p⟩:=h
 exact⟨X9,U,G,s,h,(g8.bind p).mono λx X0 G1 H1 x' h1 p1 vs rv=>⟨x,X0,G1,rv,h1,p1⟩⟩
theorem eC5{F:List D->M D}{id:String}{x:Str}{p:Pos}(hc:aE6 X Z (.builtin id) F)(hg:Gl X x)(hm:X.mg x=none)(hv:zR x=some (.builtin id))(ha:DA X Z (e::es) fs)(hn:x≠ "__name__")(hdb:(x==("__debug__" :Str))=false)
 (he:zJ (e::es) X.env= (false,eval e X.env)::zJ es X.env) (hpl:(backTo pos (zJ es X.env)).any (·.1)=false):DE X Z (.Call (.Name x p) (e::es) [] pos) (q15 F fs):=
 DE.of (eC0 hc.h hg hm hv ha.h hn hdb he hpl) cE8
theorem dQ3{F:List D->M D}{T:String}{x:Str}{p:Pos}(hc:aE6 X Z (.type T) F)(hg:Gl X x)(hm:X.mg x=none)(hv:zR x=some (.type T))(ha:DA X Z (e::es) fs)(hn:x≠ "__name__")(hdb:(x==("__debug__" :Str))=false)
 (he:zJ (e::es) X.env= (false,eval e X.env)::zJ es X.env) (hpl:(backTo pos (zJ es X.env)).any (·.1)=false):DE X Z (.Call (.Name x p) (e::es) [] pos) (q15 F fs):=
 DE.of (dO6 hc.h hg hm hv ha.h hn hdb he hpl) cE8
def spD(c:Wc)(n:Nat)(F:List D->M D):Sp:=λvs H Q _=>vs.length=n/\∃ds U G,J0 c U H ds vs/\J8 c U G H/\g8 c ZF U H (F ds G) λd X2 _ H'=>∀v,j9 c X2 H' d v->Q v H'
noncomputable def noX{α:Type}(m:M α):M α:=λG=>match m G with
 |some (.ok a,G1)=>some (.ok a,G1)
 |_=>none
theorem cP6{α:Type}{cc:Wc}{U:List Addr}{H:Hp}{m:M α}{G:DH}{K:α->List Addr->DH->Hp->Prop}(p:g8 cc Z U H (noX m G) K):g8 cc ZF U H (m G) K:=by
 unfold noX at p
 match m G,p with
 |some (.ok a,G1),p=>exact p
 |some (.error x,G1),p=>exact p.elim
 |none,p=>exact p.elim
def fnX(n:Nat)(F:List D->M D):List D->M D:=λds=>if ds.length=n then noX (F ds)else M.stuck
theorem cU1{cc:Wc}{U:List Addr}{H:Hp}{n:Nat}{F:List D->M D}{ds:List D}{G:DH}{K:D->List Addr->DH->Hp->Prop}(p:g8 cc Z U H (fnX n F ds G) K):ds.length=n/\g8 cc ZF U H (F ds G) K:=by
 unfold fnX at p
 split at p
 ·rename_i h;exact⟨h,cP6 p⟩
 ·exact p.elim
theorem eE2{F:List D->M D}{k n:Nat}{f:Addr}{fd:jm}{ps:List Str}{x:Str}{p:Pos}(hF:M4 X.prog X.w X.K X.mg X.base CX0 k f fd ps (spD (wc X) n F))(hr:aG6 k X.A)(hg:Gl X x)(hm:X.mg x=some (.ref f))(hk:jV X.K (.ref f)=true)(hb:bK6 X.K fd ps [])
 (ha:DA X Z (e::es) fs)
 (hdb:(x==("__debug__" :Str))=false) (he:zJ (e::es) X.env= (false,eval e X.env)::zJ es X.env) (hpl:(backTo pos (zJ es X.env)).any (·.1)=false):
 DE X Z (.Call (.Name x p) (e::es) [] pos) (q15 (fnX n F) fs):=
 DE.of (eP4 hF hr hg hm hk hb .nil eQ8 ha.h hdb he hpl) λO H Q hE0=>hE0.elim λX9 U G s h p=>by
  refine⟨X9,U,G,s,h,(g8.bind p).mono λds' X0 G1 H1 x' h1 p1 vs rv=>?_⟩
  obtain⟨hl,p2⟩:=cU1 p1
  show spD (wc X) n F (vs++[]) H1 Q E0
  rw[yn]
  exact⟨by rw[<-rv.length];exact hl,ds',X0,G1,rv,h1,p2⟩
end
abbrev Fs:=DSt->M Fl
def u0:Fs:=λO=>pure (.nx O)
def j0(a b:Fs):Fs:=λO=>do
 match <-a O with
 | .nx X1=>b X1
 |r=>pure r
def t8(f:Fe):Fs:=λO=>do pure (.rt (<-f O))
def aU4(f:Fe):Fs:=λO=>do
 let _ <-f O
 pure (.nx O)
noncomputable def ifS(t:DSt->M Bool)(a b:Fs):Fs:=λO=>do if <-t O then a O else b O
abbrev Fg:=D->DSt->M DSt
abbrev Fgs:=List D->DSt->M DSt
def q16(i:Nat):Fg:=λd O=>pure (O.set i (some d))
def cC6:Fgs:=λds O=>match ds with
 |[]=>pure O
 |_=>M.stuck
def aD9(g:Fg)(r:Fgs):Fgs:=λds O=>match ds with
 |d::t=>do r t (<-g d O)
 |[]=>M.stuck
def cB8(n:Nat)(g:Fgs):Fg:=λd O=>match d with
 | .tup l=>if l.length=n then g l O else M.stuck
 |_=>M.stuck
def K3(f:Fe)(g:Fg):Fs:=λO=>do
 let d <-f O
 let X1 <-g d O
 pure (.nx X1)
section
variable(c:Wc)(Z:XC)
def dE4(g:Fg):TG:=λv O H Q=>∃d X9 U G,j9 c U H d v/\N6 c U H X9 O/\J8 c U G H/\g8 c Z U H (g d X9 G) λWT X2 _ H'=>∀ X1,N6 c X2 H' WT X1->Q X1 H'
def cN9(g:Fgs):TGs:=λvs O H Q=>∃ds X9 U G,J0 c U H ds vs/\N6 c U H X9 O/\J8 c U G H/\g8 c Z U H (g ds X9 G) λWT X2 _ H'=>∀ X1,N6 c X2 H' WT X1->Q X1 H'
end
theorem dE4.elim{c:Wc}{Z:XC}{P:Prop}{g:Fg}{v:V}{O:St}{H:Hp}{Q:St->Hp->Prop}(h:dE4 c Z g v O H Q)(k:∀d X9 U G,j9 c U H d v->N6 c U H X9 O->J8 c U G H->g8 c Z U H (g d X9 G) (λWT X2 _ H'=>∀ X1,N6 c X2 H' WT X1->Q X1 H')->P):P:=by
 obtain⟨e0,e1,e2,e3,e4,e5,e6,e7⟩:=h
 exact k e0 e1 e2 e3 e4 e5 e6 e7
theorem cN9.elim{c:Wc}{Z:XC}{P:Prop}{g:Fgs}{vs:List V}{O:St}{H:Hp}{Q:St->Hp->Prop}(h:cN9 c Z g vs O H Q)(k:∀ds X9 U G,J0 c U H ds vs->N6 c U H X9 O->J8 c U G H->g8 c Z U H (g ds X9 G) (λWT X2 _ H'=>∀ X1,N6 c X2 H' WT X1->Q X1 H')->P):P:=by
 obtain⟨e0,e1,e2,e3,e4,e5,e6,e7⟩:=h
 exact k e0 e1 e2 e3 e4 e5 e6 e7
structure DG(X:Cx)(Z:XC)(tg:Expr)(g:Fg):Prop where
 h:PG X tg (dE4 (wc X) Z g)
structure DGs(X:Cx)(Z:XC)(tgs:List Expr)(g:Fgs):Prop where
 h:PGs X tgs (cN9 (wc X) Z g)
theorem PG.mono{X:Cx}{e:Expr}{t t':TG}(h:PG X e t)(k:∀v O H Q,t' v O H Q->t v O H Q):PG X e t':=λpins s O H v u Q I r q=>h pins s O H v u Q I r (k v O H Q q)
theorem PGs.mono{X:Cx}{e:List Expr}{t t':TGs}(h:PGs X e t)(k:∀v O H Q,t' v O H Q->t v O H Q):PGs X e t':=λpins s O H v u Q I r q=>h pins s O H v u Q I r (k v O H Q q)
theorem DG.of{X:Cx}{Z:XC}{e:Expr}{g:Fg}{t:TG}(h:PG X e t)(k:∀v O H Q,dE4 (wc X) Z g v O H Q->t v O H Q):DG X Z e g:=⟨PG.mono h k⟩
theorem DGs.of{X:Cx}{Z:XC}{e:List Expr}{g:Fgs}{t:TGs}(h:PGs X e t)(k:∀v O H Q,cN9 (wc X) Z g v O H Q->t v O H Q):DGs X Z e g:=⟨PGs.mono h k⟩
section
variable{X:Cx}{Z:XC}{a b c e tg:Expr}{es:List Expr}{fa fb:Fe}{pos:Pos}{st:Stmt}{W9 sa sb:List Stmt}{f g:Fs}
theorem fK6:DB X Z [] u0:=DB.of eL2 λE O H hE0=>hE0.elim λX9 U G s h p=>g8.ok p h O s
theorem eM1{cc:Wc}{E:cB4}{U:List Addr}{G:DH}{H:Hp}{fl:Fl}(h:J8 cc U G H)
 (p:g8 cc Z U H ((match fl with| .nx X1=>g X1|r=>pure r:M Fl) G) λfl X2 _ H'=>bV7 cc E fl X2 H'):bV7 cc {E with nx:=bZ3 cc Z g E} fl U H:=by
 cases fl with
 |nx X9=>exact λO s=>⟨X9,U,G,s,h,p⟩
 |rt d=>exact g8.ok p h
 |bk X9=>exact g8.ok p h
 |ct X9=>exact g8.ok p h
theorem dI0(h1:DS X Z st f)(h2:DB X Z W9 g):DB X Z (st::W9) (j0 f g):=
 DB.of (dZ8 h1.h h2.h) λE O H hE0=>hE0.elim λX9 U G s h p=>⟨X9,U,G,s,h,(g8.bind p).mono λfl X0 G1 H1 x' h1 p1=>eM1 h1 p1⟩
theorem dR2(h1:DS X Z st f):DB X Z [st] f:=⟨eG9 h1.h⟩
theorem eM4(he:DE X Z e fa)(hs:swapsWith e none pos.line X.env=pure false):DS X Z (.Expr e pos) (aU4 fa):=
 DS.of (eF0 he.h hs) λE O H hE0=>hE0.elim λX9 U G s h p=>⟨X9,U,G,s,h,(g8.bind p).mono λd X0 G1 H1 x' h1 p1 v rv=>g8.ok p1 h1 O (s.mono x')⟩
theorem fK8(he:DE X Z e fa):DS X Z (.Return (some e) pos) (t8 fa):=
 DS.of (fJ1 he.h) λE O H hE0=>hE0.elim λX9 U G s h p=>⟨X9,U,G,s,h,(g8.bind p).mono λd X0 G1 H1 x' h1 p1 v rv=>g8.ok p1 h1 v rv⟩
theorem fQ4{t:DSt->M Bool}(hc:DT X Z c t)(ha:DB X Z sa f)(hb:DB X Z sb g):DS X Z (.If c sa sb pos) (ifS t f g):=
 DS.of (fT8 hc.h ha.h hb.h) λE O H hE0=>hE0.elim λX9 U G s h p=>⟨X9,U,G,s,h,(g8.bind p).mono λx X0 G1 H1 x' h1 p1=>by
  cases x with
  |true=>exact⟨X9,X0,G1,s.mono x',h1,p1⟩
  |false=>exact⟨X9,X0,G1,s.mono x',h1,p1⟩⟩
theorem dH2{i:Nat}{x:Str}(hN:X.N.Nodup)(hi:X.N[i]? =some x)(hx:Loc X.env.scope x)(hf:X.fn x=true\/X.env.scope.names.lookup x=some .local):DG X Z (.Name x pos) (q16 i):=
 DG.of (eH9 hN hi hx hf) λv O H Q hE0=>hE0.elim λd X9 U G r s h p=>g8.ok p h _ (s.put r i)
theorem eN3:DGs X Z [] cC6:=DGs.of eD7 λvs O H Q hE0=>hE0.elim λds X9 U G r s h p=>by
 cases ds with
 |nil=>cases r;exact⟨rfl,g8.ok p h _ s⟩
 |cons _ _=>exact p.elim
theorem dW2{gg:Fg}{gr:Fgs}(h1:DG X Z e gg)(h2:DGs X Z es gr)(hs:(assignEach (e::es) X.env).map (·.2)=assign e X.env::(assignEach es X.env).map (·.2)):DGs X Z (e::es) (aD9 gg gr):=
 DGs.of (dS7 h1.h h2.h hs) λvs O H Q hE0=>hE0.elim λds X9 U G r s h p=>by
  cases ds with
  |nil=>exact p.elim
  |cons d t=>
    obtain⟨v,vr,rfl,rv,rt⟩:=r
    exact⟨v,vr,rfl,d,X9,U,G,rv,s,h,(g8.bind p).mono λdσ1 X0 G1 H1 x' h1 p1 W1 s1=>⟨t,dσ1,X0,G1,rt.mono x',s1,h1,p1⟩⟩
theorem eZ2{gs:Fgs}{k n:Nat}(hc:X.calm=true)(h:DGs X Z es gs)(hn:(assignEach es X.env).length=n)(hst:(assignEach es X.env).findIdx? (·.1)=none):DG X Z (.Tuple es k pos) (cB8 n gs):=
 DG.of (fI8 hc h.h hn hst) λv O H Q hE0=>hE0.elim λd X9 U G r s h p=>by
  cases d with
  |tup l=>
    unfold j9 at r
    obtain⟨a,vs,rfl,q,rl⟩:=r
    have p':g8 (wc X) Z U H ((if l.length=n then gs l X9 else M.stuck:M DSt) G) λWT X2 _ H'=>∀ X1,N6 (wc X) X2 H' WT X1->Q X1 H':=p
    split at p'
    · rename_i hl
      exact⟨a,vs,rfl,q,by rw[<-rl.length];exact hl,l,X9,U,G,rl,s,h,p'⟩
    ·exact p'.elim
  |_=>exact p.elim
theorem eV8{gg:Fg}(he:DE X Z e fa)(hg:DG X Z tg gg)(hs:swapsWithSole [tg] e pos.line X.env=pure false)(hw:swappedStores [tg] e X.env=pure none)
 (h1:(assignEach [tg] X.env).map (·.2)= [assign tg X.env]):DS X Z (.Assign [tg] e pos) (K3 fa gg):=
 DS.of (fF1 he.h hg.h hs hw h1) λE O H hE0=>hE0.elim λX9 U G s h p=>⟨X9,U,G,s,h,(g8.bind p).mono λd X0 G1 H1 x' h1 p1 v rv=>
  ⟨d,X9,X0,G1,rv,s.mono x',h1,(g8.bind p1).mono λdσ2 WU G2 H2 x2 h2 p2 σ2 s2=>g8.ok p2 h2 σ2 s2⟩⟩
end
def X8:Nat->(DSt->M Bool)->Fs->Fs
 |0,_,_=>λ_=>M.stuck
 |n+1,t,b=>λO=>do
   if <-t O then
    match <-b O with
    | .nx X1=>X8 n t b X1
    | .ct X1=>X8 n t b X1
    | .bk X1=>pure (.nx X1)
    | .rt d=>pure (.rt d)
   else pure (.nx O)
open Classical in
def bC6(t:DSt->M Bool)(b:Fs):Fs:=λO G=>if h:∃n,(X8 n t b O G).isSome=true then X8 (Zr h) t b O G else none
theorem M.bind_mono{α β:Type}{m:M α}{f g:α->M β}{G:DH}{r:Except Str β×DH}(h:(m >>= f) G=some r)(k:∀a G',f a G'=some r->g a G'=some r):(m >>= g) G=some r:=by
 rw[M.bind_eq]at h ⊢
 match m G,h with
 |some (.ok a,G'),h=>exact k a G' h
 |some (.error x,G'),h=>exact h
theorem aZ8{t:DSt->M Bool}{b:Fs}:∀ {n:Nat} {O:DSt} {G:DH} {r:Except Str Fl×DH},X8 n t b O G=some r->X8 (n+1) t b O G=some r
 |0,_,_,_,h=>by exact J4 h
 |n+1,O,G,r,h=>by
   unfold X8 at h ⊢
   refine M.bind_mono h λc G1 h1=>?_
   cases c with
   |true=>
     refine M.bind_mono h1 λfl G2 h2=>?_
     cases fl with
     |nx X1=>exact aZ8 h2
     |ct X1=>exact aZ8 h2
     |bk X1=>exact h2
     |rt d=>exact h2
   |false=>exact h1
theorem cE5{t:DSt->M Bool}{b:Fs}{n m:Nat}(hm:n<=m){O:DSt}{G:DH}{r:Except Str Fl×DH}(h:X8 n t b O G=some r):X8 m t b O G=some r:=by
 induction hm with
 |refl=>exact h
 |step _ ih=>exact aZ8 ih
section
variable{X:Cx}{Z:XC}{c:Expr}{pos:Pos}{body:List Stmt}{t:DSt->M Bool}{f:Fs}
theorem dT4(hp:PassesOwn (zH X.prog X.w) X.A X.env X.xe)(hc:DT X Z c t)(hb:DB X Z body f):DS X Z (.While c body [] pos) (bC6 t f):=
 DS.of (eB0 hp hc.h hb.h) λE O H hE0=>hE0.elim λX9 U G s h p=>by
  unfold bC6 at p
  split at p
  · rename_i ex
    refine⟨λm O H=>∃X9 U G,N6 (wc X) U H X9 O/\J8 (wc X) U G H/\g8 (wc X) Z U H (X8 m t f X9 G) λfl X2 _ H'=>bV7 (wc X) E fl X2 H',⟨_,X9,U,G,s,h,p⟩,?_⟩
    rintro m O H ⟨X9,U,G,s,h,p⟩
    cases m with
    |zero=>exact p.elim
    |succ m=>
      refine⟨X9,U,G,s,h,(g8.bind p).mono λx X0 G1 H1 x' h1 p1=>?_⟩
      cases x with
      |false=>exact g8.ok p1 h1 O (s.mono x')
      |true=>
        refine⟨λX1 H'=>∃X9 U G,N6 (wc X) U H' X9 X1/\J8 (wc X) U G H'/\g8 (wc X) Z U H' (X8 m t f X9 G) λfl X2 _ H'=>bV7 (wc X) E fl X2 H',λX1 H' w=>⟨m,xk _,w⟩,X9,X0,G1,s.mono x',h1,(g8.bind p1).mono λfl WU G2 H2 x2 h2 p2=>?_⟩
        cases fl with
        |nx WT=>exact λX1 s'=>⟨WT,WU,G2,s',h2,p2⟩
        |ct WT=>exact λX1 s'=>⟨WT,WU,G2,s',h2,p2⟩
        |bk WT=>exact λX1 s'=>g8.ok p2 h2 X1 s'
        |rt d=>exact λv r=>g8.ok p2 h2 v r
  ·exact p.elim
end
def aL0(g:Fg)(b:Fs)(ck:DH->Bool):List D->Fs
 |[]=>λO G=>if ck G then some (.ok (.nx O),G)else none
 | d :: r => λO G => if ck G then (do
    match <-b (<-g d O) with
    | .nx X1=>aL0 g b ck r X1
    | .ct X1=>aL0 g b ck r X1
    | .bk X1=>pure (.nx X1)
    | .rt d=>pure (.rt d):M Fl) G else none
structure Src where
 items:List D
 ck:DH->Bool
def aS1(it:DSt->M Src)(g:Fg)(b:Fs):Fs:=λO=>do
 let s <-it O
 aL0 g b s.ck s.items O
def ItD(c:Wc)(U:List Addr)(H:Hp)(J:It)(s:Src):Prop:=∀ X2 G' H',Ext U H X2 H'->J8 c X2 G' H'->s.ck G'=true->∀i:Nat,
 (∀d,s.items[i]? =some d->J.go i H'/\∀x H2,J.yld i H' x H2->Ext X2 H' X2 H2/\J8 c X2 G' H2/\j9 c X2 H2 d x)/\(s.items.length<=i->J.stop i H')
def dF7(c:Wc)(Z:XC)(it:DSt->M Src):TI:=λO H R=>∃X9 U G,N6 c U H X9 O/\J8 c U G H/\g8 c Z U H (it X9 G) λs X2 _ H'=>∀J,ItD c X2 H' J s->R J H'
theorem dF7.elim{c:Wc}{Z:XC}{P:Prop}{it:DSt->M Src}{O:St}{H:Hp}{R:It->Hp->Prop}(h:dF7 c Z it O H R)(k:∀X9 U G,N6 c U H X9 O->J8 c U G H->g8 c Z U H (it X9 G) (λs X2 _ H'=>∀J,ItD c X2 H' J s->R J H')->P):P:=by
 obtain⟨e0,e1,e2,e3,e4,e5⟩:=h
 exact k e0 e1 e2 e3 e4 e5
structure DI(X:Cx)(Z:XC)(tg e:Expr)(it:DSt->M Src):Prop where
 h:PI X tg e (dF7 (wc X) Z it)
theorem PI.mono{X:Cx}{tg e:Expr}{t t':TI}(h:PI X tg e t)(k:∀ O H R,t' O H R->t O H R):PI X tg e t':=λpins s O H R I q=>h pins s O H R I (k O H R q)
theorem DI.of{X:Cx}{Z:XC}{tg e:Expr}{it:DSt->M Src}{t:TI}(h:PI X tg e t)(k:∀ O H R,dF7 (wc X) Z it O H R->t O H R):DI X Z tg e it:=⟨PI.mono h k⟩
section
variable{X:Cx}{Z:XC}{iter tg:Expr}{pos:Pos}{body:List Stmt}{f:Fs}{gg:Fg}{it:DSt->M Src}
def gA6(c:Wc)(E:cB4)(fl:Fl)(U:List Addr)(_:DH)(H:Hp):Prop:=bV7 c E fl U H
inductive fS3(c:Wc)(Z:XC)(gg:Fg)(f:Fs)(sr:Src)(E:cB4)(X0:List Addr)(H1:Hp)(i:Nat)(O:St)(H:Hp):Prop
 |mk (X9:DSt) (U:List Addr) (G:DH) (k:Ext X0 H1 U H) (s:N6 c U H X9 O) (h:J8 c U G H) (p:g8 c Z U H (aL0 gg f sr.ck (sr.items.drop i) X9 G) (gA6 c E))
theorem eY4(hp:PassesOwn (zH X.prog X.w) X.A X.env X.xe)(hc:X.calm=true)(hi:DI X Z tg iter it)(hg:DG X Z tg gg)(hb:DB X Z body f)(hs:∀x,foldedSetIterable iter X.env x=pure x):
 DS X Z (.For tg iter body [] pos) (aS1 it gg f):=
 DS.of (fL5 hp hc hi.h hg.h hb.h hs) λE O H hE0=>hE0.elim λX9 U G s h p=>⟨X9,U,G,s,h,(g8.bind p).mono λsr X0 G1 H1 x' h1 p1 J hJ=>by
  refine⟨λi m X1 H'=>m=sr.items.length-i/\i<=sr.items.length/\fS3 (wc X) Z gg f sr E X0 H1 i X1 H',
   ⟨sr.items.length,rfl,je _,X9,X0,G1,Ext.refl _ _,s.mono x',h1,p1⟩,?_⟩
  rintro i m X1 H' ⟨rfl,hi',WT,X2,G',k',s',h',p'⟩
  by_cases hlt:i<sr.items.length
  · rw[yk hlt]at p'
    unfold aL0 at p'
    split at p'
    · rename_i ck
      obtain⟨q1,_⟩:=hJ X2 G' H' k' h' ck i
      obtain⟨go,yl⟩:=q1 _ (zD hlt)
      refine .inr ⟨go,λσ2 H2=>fS3 (wc X) Z gg f sr E X0 H1 (i+1) σ2 H2,λσ2 H2 w=>⟨sr.items.length-(i+1),Zk _ _ hlt,rfl,hlt,w⟩,λx H2 y=>?_⟩
      obtain⟨k2,h2,rx⟩:=yl x H2 y
      have p2:=g8.bind (p'.from k2)
      refine⟨_,WT,X2,G',rx,s'.mono k2,h2,p2.mono λdσ3 μ3 G3 H3 x3 h3 p3 WH s3=>?_⟩
      refine⟨dσ3,μ3,G3,s3,h3,(g8.bind p3).mono λfl μ4 G4 H4 x4 h4 p4=>?_⟩
      cases fl with
      |nx dσ4=>exact λσ4 s4=>⟨dσ4,μ4,G4,k'.trans (k2.trans (x3.trans x4)),s4,h4,p4⟩
      |ct dσ4=>exact λσ4 s4=>⟨dσ4,μ4,G4,k'.trans (k2.trans (x3.trans x4)),s4,h4,p4⟩
      |bk dσ4=>exact λσ4 s4=>g8.ok p4 h4 σ4 s4
      |rt d=>exact λv r=>g8.ok p4 h4 v r
    ·exact p'.elim
  · have e:i=sr.items.length:=Ji hi' (Jc hlt)
    subst e
    rw[XW]at p'
    unfold aL0 at p'
    split at p'
    · rename_i ck
      obtain⟨_,q2⟩:=hJ X2 G' H' k' h' ck sr.items.length
      exact .inl ⟨q2 (zd _),g8.ok p' h' X1 s'⟩
    ·exact p'.elim⟩
end
noncomputable def aS8(env:Env):List (Str×NameKind)->List (Str×Addr)->List (Str×Addr)
 |[],cs=>cs
 |(n,k)::r,cs=>aS8 env r (if k == .free then (match env.cells.lookup n with|some c=>(n,c)::cs|none=>cs)else cs)
theorem cR6{env:Env}:∀(l:List (Str×NameKind)) (cs:List (Str×Addr)),(∀p∈l,p.2= .free->∃c,env.cells.lookup p.1=some c)->
 (forIn l cs (fun(x:Str×NameKind) (cs:List (Str×Addr))=>(match x with|(name,kind)=>if (kind==NameKind.free)=true then do let c <-cellOf env name;pure (ForInStep.yield ((name,c)::cs))else pure (ForInStep.yield cs):Sem (ForInStep (List (Str×Addr))))):Sem (List (Str×Addr)))=pure (aS8 env l cs)
 |[],cs,_=>rfl
 |(n,k)::r,cs,h=>by
  have ih:=λcs'=>cR6 r cs' λp hp=>h p (zf _ hp)
  rw[xp]
  unfold aS8
  rcases hk:(k==NameKind.free)with _|_
  ·
    have e:(match ((n,k):Str×NameKind) with|(name,kind)=>if (kind==NameKind.free)=true then do let c <-cellOf env name;pure (ForInStep.yield ((name,c)::cs))else pure (ForInStep.yield cs):Sem (ForInStep (List (Str×Addr))))=pure (ForInStep.yield cs):=by
     show (if (k==NameKind.free)=true then _ else _)=_
     rw[hk];rfl
    rw[e]
    exact ih cs
  ·
    obtain⟨c,hc⟩:=h (n,k) zc (by simpa using hk)
    have hcell:cellOf env n=pure c:=by unfold cellOf;rw[hc]
    have e:(match ((n,k):Str×NameKind) with|(name,kind)=>if (kind==NameKind.free)=true then do let c <-cellOf env name;pure (ForInStep.yield ((name,c)::cs))else pure (ForInStep.yield cs):Sem (ForInStep (List (Str×Addr))))=pure (ForInStep.yield ((n,c)::cs)):=by
     show (if (k==NameKind.free)=true then (do let c <-cellOf env n;pure (ForInStep.yield ((n,c)::cs)))else _)=_
     rw[hk,hcell];rfl
    rw[e,hc]
    exact ih ((n,c)::cs)
theorem bP6{env:Env}{scope:Scope}(h:∀p∈scope.names,p.2= .free->∃c,env.cells.lookup p.1=some c):closureFor scope env=pure (aS8 env scope.names []):=by
 have q:=cR6 scope.names [] h
 unfold closureFor
 dsimp only
 rw[q]
 rfl
theorem cH2{env:Env}{x:Str}{c:Addr}:∀(l:List (Str×NameKind)) (cs:List (Str×Addr)),(cs.lookup x=some c->env.cells.lookup x=some c)->(aS8 env l cs).lookup x=some c->env.cells.lookup x=some c
 |[],cs,h,e=>h e
 |(n,k)::r,cs,h,e=>by
  unfold aS8 at e
  refine cH2 r _ (λe1=>?_) e
  split at e1
  · split at e1
    · rename_i c' hc
      rw[ye]at e1
      split at e1
      · rename_i hx
        have hx':x=n:=by simpa using hx
        subst hx'
        cases e1
        exact hc
      ·exact h e1
    ·exact h e1
  ·exact h e1
theorem aC3{env:Env}{x:Str}{c:Addr}{l:List (Str×NameKind)}(h:(aS8 env l []).lookup x=some c):env.cells.lookup x=some c:=cH2 l [] (λz=>by exact J4 z) h
theorem bX9{env:Env}{x:Str}:∀(l:List (Str×NameKind)) (cs:List (Str×Addr)),(∃c,cs.lookup x=some c)->∃c,(aS8 env l cs).lookup x=some c
 |[],cs,h=>h
 |(n,k)::r,cs,h=>by
  unfold aS8
  refine bX9 r _ ?_
  split
  · split
    · rename_i c' hc
      rw[ye]
      split
      ·exact⟨_,rfl⟩
      ·exact h
    ·exact h
  ·exact h
theorem bN5{env:Env}{x:Str}{c:Addr}(hc:env.cells.lookup x=some c):∀(l:List (Str×NameKind)) (cs:List (Str×Addr)),(x,NameKind.free)∈l->∃c,(aS8 env l cs).lookup x=some c
 |[],cs,h=>by simp at h
 |(n,k)::r,cs,h=>by
  unfold aS8
  rcases zi.mp h with e|h
  · cases e
    refine bX9 r _ ?_
    rw[hc]
    simp
  ·exact bN5 hc r _ h
section
variable{prog:zE}{w:zP}{A:zK}{E:VSP}{R:Result->zm->Prop}{s:zm}
theorem cN7{elt target iter:Expr}{ifs:List Expr}{scope:Scope}{pos:Pos}{it acc:ze}{env:Env}(I:Nat->zm->Prop)
 (turn:∀n s,I n s->zy (zH prog w) A (pyNext it) (λr WZ=>match r with
   |none=>R (.ok .next) WZ
   | some v => zy (zH prog w) A (letOwnedTupleGo target it v) (λ_ s₁' => zy (zH prog w) A (assign target env v) (λ_ s₂ =>
      zy (zH prog w) A (forIn ifs true λc r=>if r=true then do let ok <-isTrue c env (eval c env);pure (ForInStep.yield ok)else pure (ForInStep.yield r)) (λok s₃=>
       if ok=true then zy (zH prog w) A (eval elt env) (λx s₄=>
        zy (zH prog w) A (call (.builtin "list.append") [acc,x]) (λ_ s₅=>∃m,m<n/\I m s₅) (λ_ _=>False) s₄) (λ_ _=>False) s₃
       else ∃m,m<n/\I m s₃) (λ_ _=>False) s₂) (λ_ _=>False) s₁') (λ_ _=>False) WZ) (λ_ _=>False) s)
 (n:Nat) (h:I n s):
 codeAny (zH prog w) A (.compLoop (.ListComp elt [⟨target,iter,ifs,0⟩] scope pos) 0 it acc env) R s:=by
 refine codeAny_loop rfl I (λn s hI=>?_) n h
 show zy _ A ((compTurn (.ListComp elt [⟨target,iter,ifs,0⟩] scope pos) 0 it acc env).onRaise (λx=>do noteFrame x env;theTreesLotGoes x)) _ _ s
 refine wpAny_noted ?_
 rw[compTurn_list]
 refine za (wpAny_standAt (za (yb (turn n s hI) (λr WZ WQ=>?_) λ_ _ h'=>h'.elim)))
 rcases r with _|v
 ·exact zt WQ
 ·
   refine za (yb WQ (λ_ s₁' h₁'=>?_) λ_ _ h'=>h'.elim)
   refine za (yb h₁' (λ_ s₂ h₂=>za (yb h₂ (λok s₃ h₃=>?_) λ_ _ h'=>h'.elim)) λ_ _ h'=>h'.elim)
   rcases ok with _|_
   ·
     exact zt ⟨rfl,h₃⟩
   ·
     exact za (za (yb h₃ (λx s₄ h₄=>za (yb h₄ (λ_ s₅ h₅=>zt (zt ⟨rfl,h₅⟩)) λ_ _ h'=>h'.elim)) λ_ _ h'=>h'.elim))
end
def aE2(X:Cx)(scope:Scope)(N:List Str)(C:Addr)(s:zm)(H:Hp)(ex:List Addr):Cx where
 prog:=X.prog
 w:=X.w
 K:=X.K
 mg:=X.mg
 base:=X.base
 A:=X.A
 N:=N
 WV:=s
 H₀:=H
 env:=compEnvC scope (aS8 X.env scope.names []) C X.env
 outer:=X.stack
 stack:=X.stack
 ex:=ex
 fn:=λ_=>false
 calm:=X.calm
 pn:= []
 xe:=λ_ _=>False
structure aN6(X:Cx)(scope:Scope)(N:List Str)(caps:List (Option Nat)):Prop where
 kind:scope.kind= .function
 cell:∀y∈scope.names,y.2≠ .cell
 names:∀y∈scope.names,y.2= .local->scope.names.lookup y.1=some .local
 free:∀y∈scope.names,y.2= .free->X.env.kindOf y.1=some .cell\/X.env.kindOf y.1=some .free
 frees:∀y∈scope.names,y.2= .free->scope.names.lookup y.1=some .free
 len:caps.length=N.length
 caps:∀(i j:Nat),caps[i]? =some (some j)->∃x,N[i]? =some x/\X.N[j]? =some x/\(x,NameKind.free)∈scope.names
def Z6{α:Type}(caps:List (Option Nat))(O:List (Option α)):List (Option α):=caps.map λo=>o.bind λj=>(O[j]?).join
theorem bH2{env:Env}{x:Str}:∀names:List (Str×NameKind),(names.map fun(n,k)=>if (k==NameKind.free&&env.scope.kind == .function&&env.kindOf n==some .cell)then (n,NameKind.cell)else (n,k)).lookup x=
 (names.lookup x).map λk=>if (k==NameKind.free&&env.scope.kind == .function&&env.kindOf x==some .cell)then NameKind.cell else k
 |[]=>rfl
 |(n,k)::r=>by
  have ih:=bH2 (env:=env) (x:=x) r
  rw[zS]
  by_cases hx:x=n
  · subst hx
    dsimp only
    split
    ·rename_i h;simp[ye];simp at h;simp[h]
    ·rename_i h;simp[ye];simp at h;intro a b c;exact absurd c (h a b)
  · have hb:(x==n)=false:=by simpa using hx
    dsimp only
    split
    ·rw[ye,ye,hb];exact ih
    ·rw[ye,ye,hb];exact ih
section
variable{X:Cx}{scope:Scope}{N:List Str}{caps:List (Option Nat)}{C:Addr}{pins:PNS}{O:St}{H:Hp}{s:zm}{ex:List Addr}
theorem aN6.isFree(k:aN6 X scope N caps){x:Str}(h:(relabel scope X.env).names.lookup x=some .cell\/(relabel scope X.env).names.lookup x=some .free):(x,NameKind.free)∈scope.names:=by
 have e:(relabel scope X.env).names.lookup x= (scope.names.lookup x).map λk=>if (k==NameKind.free&&X.env.scope.kind == .function&&X.env.kindOf x==some .cell)then NameKind.cell else k:=bH2 scope.names
 rw[e]at h
 rcases hl:scope.names.lookup x with _|kd
 ·rw[hl]at h;rcases h with h|h<;>exact J4 h
 ·
   rw[hl]at h
   have hm:=yp hl
   have hn:=k.cell _ hm
   simp only[ZL]at h
   cases kd with
   |free=>exact hm
   |cell=>exact absurd rfl hn
   |_=>rcases h with h|h<;>simp at h
theorem aN6.cells(k:aN6 X scope N caps)(ok:X.Ok):∀p∈scope.names,p.2= .free->∃c,X.env.cells.lookup p.1=some c:=λp hp e=>ok.has p.1 (k.free p hp e)
theorem dK4(I:Inv X pins O H s)(k:aN6 X scope N caps)(hC:s.heap.objs.size<=C)(hex:∀b∈ex,bB9 X pins H b)(hlt:∀b∈ex,b<s.heap.objs.size):(aE2 X scope N C s H ex).Ok where
 mod:=I.ok.mod
 kind:=k.kind
 glob:=I.ok.glob
 blt:=I.ok.blt
 above:=hC
 inj:=λx y c h1 h2=>I.ok.inj x y c (aC3 h1) (aC3 h2)
 has:=λx hx=>by
  have hm:=k.isFree hx
  obtain⟨c,hc⟩:=k.cells I.ok _ hm rfl
  exact bN5 hc _ _ hm
 cab:=λx c h=>by exact aN7 h
 hd:=I.ok.hd
 frames:=I.ok.frames
 stk:=.inl rfl
 exf:=λb hb=>⟨zW (zO (hlt b hb) hC),λx c e=>(hex b hb).2.2.2.2.1 x c (aC3 e)⟩
 bs:=I.bs
 bsz:=zv I.ok.bsz I.sz
 noex:=λb o e hb=>by
  rcases (hex b hb).2.2.2.1 with z|z
  ·exact I.ok.noex b o e z
  ·exact absurd (zO (zA (I.ok.bs b o e).1) z) (yd _)
 exfs:=λb hb z=>by
  rcases zi.mp (I.stkSub b z)with e|e
  ·exact(hex b hb).2.1 e
  ·exact(hex b hb).2.2.1 e
 funs:=I.stack
 frf:=I.stkFree
 gd:=I.ok.gd
theorem cH7{α:Type}{caps:List (Option Nat)}{O:List (Option α)}{i:Nat}{v:α}(h:(Z6 caps O)[i]? =some (some v)):∃j,caps[i]? =some (some j)/\O[j]? =some (some v):=by
 unfold Z6 at h
 rw[jl]at h
 rcases e:caps[i]? with _|o
 ·rw[e]at h;exact J4 h
 ·
   rw[e]at h
   rcases o with _|j
   ·cases h
   ·
     refine⟨j,rfl,?_⟩
     simp only[ZL,Xz,zN]at h
     rcases e2:O[j]? with _|w
     ·rw[e2]at h;exact J4 h
     ·rw[e2]at h;simp at h;rw[h]
theorem cX8{WQ:Heap}{tk:Nat}(I:Inv X pins O H s)(k:aN6 X scope N caps)(hC:s.heap.objs.size<C)(hex:∀b∈ex,bB9 X pins H b)(hlt:∀b∈ex,b<s.heap.objs.size)
 (old:∀b o,s.heap.get? b=some o->WQ.get? b=some o) (hns:WQ.Ns C λ_=>none) (hacc:WQ.get? s.heap.objs.size=some {cls:=.type "list",data:=.seq ([]:List ze).toArray 0}):
 Inv (aE2 X scope N C s H ex) [] (Z6 caps O) (upd H s.heap.objs.size (.lst [])) {s with heap:=WQ,toks:=tk}:=by
 have hD:H s.heap.objs.size=none:=I.hok.fresh (zd _)
 refine⟨dK4 I k (yN hC) hex hlt,rfl,I.bare,Un.laid old (zd _) hD,⟨_,hns,λi x v h1 h2 h3=>?_⟩,λx c e=>?_,?_,λx c e=>?_,λp hp=>absurd (show p∈([]:PNS)from hp) (by simp),?_,?_⟩
 · obtain⟨j,e1,e2⟩:=cH7 h2
   obtain⟨y,e3,e4,e5⟩:=k.caps i j e1
   have exy:y=x:=by
    have:some y=some x:=e3.symm.trans h1
    exact jd this
   subst exy
   have hk:=k.free _ e5 rfl
   obtain⟨m,hn,hl⟩:=I.loc
   obtain⟨u,r,l⟩:=hl j y v e4 e2 (by rcases hk with z|z;exact .inr (.inl z);exact .inr (.inr z))
   refine⟨u,r,.inr ?_⟩
   rcases l with⟨z,_⟩|⟨_,c,ec,hc⟩
   ·rcases hk with z'|z'<;>(rw[z]at z';cases z')
   · refine⟨?_,c,?_,?_⟩
     · rcases h3 with h3|h3|h3
       · exfalso
         have e:(relabel scope X.env).names.lookup y= (scope.names.lookup y).map λk=>if (k==NameKind.free&&X.env.scope.kind == .function&&X.env.kindOf y==some .cell)then NameKind.cell else k:=bH2 scope.names
         have h3':(relabel scope X.env).names.lookup y=some .local:=h3
         rw[e]at h3'
         rw[k.frees _ e5 rfl]at h3'
         simp only[ZL]at h3'
         split at h3'<;>cases h3'
       ·exact .inl h3
       ·exact .inr h3
     · obtain⟨c',ec'⟩:=bN5 ec scope.names [] e5
       have:=aC3 ec'
       rw[ec]at this
       cases this
       exact ec'
     · obtain⟨o,ho,hd⟩:=hc
       exact⟨o,old _ _ ho,hd⟩
 · obtain⟨v,o,ho,hd⟩:=I.cell x c (aC3 e)
   exact⟨v,o,old _ _ ho,hd⟩
 · show upd H s.heap.objs.size (.lst []) C=none
   rw[K5 (xA hC)]
   exact I.hok.fresh (yN hC)
 · obtain⟨v,o,ho,hd⟩:=I.cell x c (aC3 e)
   rw[K5 (zW (zA ho))]
   exact I.freeC x c (aC3 e)
 ·exact I.hok.laid old (zd _) ⟨je _, [],0,.nil,hacc⟩
 · show (Z6 caps O).length=N.length
   unfold Z6
   rw[zo];exact k.len
theorem dV1{pins':PNS}{X1:St}{H':Hp}{s':zm}{h':Heap}(I:Inv X pins O H s)(hex:∀b∈ex,bB9 X pins H b)(hC:s.heap.objs.size<C)
 (I':Inv (aE2 X scope N C s H ex) pins' X1 H' s') (sb:yJ C s'.heap h'):Inv X pins O H' {s' with heap:=h'}:=by
 have hos:s'.os=s.os:=I'.os
 have hfree:H' C=none:=I'.free
 have neC:∀b o,s.heap.get? b=some o->b≠C:=λb o e z=>by
  have:=zA e
  rw[z]at this
  exact absurd (ZE hC this) (yd _)
 have hun:Un (frs X.stack) ex H H' s.heap s'.heap:=I'.base
 have hun2:Un (frs X.stack) ex H H' s.heap h':=by
  refine⟨λb o e n hb hx=>(sb.2 b (neC b o e)).trans (hun.keep b o e n hb hx),λb o e n hb hx=>?_,hun.free,λb o e hx=>?_,hun.tups,hun.frzs,hun.tbls⟩
  · obtain⟨sl,q⟩:=hun.slot b o e n hb hx
    exact⟨sl,(sb.2 b (neC b o e)).trans q⟩
  · obtain⟨o',q⟩:=hun.there b o e hx
    exact⟨o',(sb.2 b (neC b o e)).trans q⟩
 have hok2:HOk X.prog X.w H' h':=λa o e=>by
  have nc:∀c u,H' c=some u->c≠C:=λc u q z=>by rw[z,hfree]at q;exact J4 q
  refine(I'.hok a o e).stay (λb u hb q=>?_) (λ_ q=>q) λ_ _ q=>q
  rcases hb with rfl|hb
  ·exact(sb.2 b (nc b o e)).trans q
  ·exact(sb.2 b (nc b _ hb)).trans q
 obtain⟨hh,g,d,t,os'⟩:=s'
 obtain rfl:os'=s.os:=hos
 have fin:=I.call (h':=h') (g':=g) (d':=d) (t':=t) (ch:=ex) hun2 hok2 I'.bare λb hb=>⟨(hex b hb).2.2.2.1,(hex b hb).2.1,(hex b hb).2.2.2.2.1,(hex b hb).2.2.2.2.2⟩
 exact fin
end
noncomputable def hide(q:Addr)(H:Hp):Hp:=λb=>if b=q then none else H b
theorem aM7{q:Addr}{H:Hp}:hide q H q=none:=by unfold hide;rw[if_pos rfl]
theorem aB0{q b:Addr}{H:Hp}(h:b≠q):hide q H b=H b:=by unfold hide;rw[if_neg h]
theorem V9{q b:Addr}{H:Hp}{o:HO}(h:hide q H b=some o):b≠q/\H b=some o:=by
 by_cases e:b=q
 ·rw[e,aM7]at h;exact J4 h
 ·rw[aB0 e]at h;exact⟨e,h⟩
theorem dY7{q:Addr}{H:Hp}{o:HO}(h:H q=some o):upd (hide q H) q o=H:=by
 funext b
 by_cases e:b=q
 ·rw[e,T7,h]
 ·rw[K5 e,aB0 e]
theorem bC4{q:Addr}{H:Hp}{o:HO}:hide q (upd H q o)=hide q H:=by
 funext b
 by_cases e:b=q
 ·rw[e,aM7,aM7]
 ·rw[aB0 e,aB0 e,K5 e]
theorem bD1{q:Addr}{H:Hp}(h:H q=none):hide q H=H:=by
 funext b
 by_cases e:b=q
 ·rw[e,aM7,h]
 ·rw[aB0 e]
section
variable{c:Wc}{U X2:List Addr}{H H':Hp}{G:DH}{q:Addr}{vs:List V}
mutual
theorem j9.sq(k:∀a xs,SqT c.K H a xs->SqT c.K H' a xs):∀ {d:D} {v:V},j9 c U H d v->j9 c U H' d v
 | .non,_,h=>h
 | .bl _,_,h=>h
 | .int _,_,h=>h
 | .str _,_,h=>h
 | .ty _,_,h=>h
 | .fn _,_,h=>h
 | .ref i,v,h=>by unfold j9 at h ⊢;exact h
 | .tup l,v,h=>by
   unfold j9 at h ⊢
   obtain⟨a,vs,e,q,r⟩:=h
   exact⟨a,vs,e,k _ _ q,J0.sq k r⟩
theorem J0.sq(k:∀a xs,SqT c.K H a xs->SqT c.K H' a xs):∀ {l:List D} {vs:List V},J0 c U H l vs->J0 c U H' l vs
 |[],_,h=>h
 |d::ds,vs,h=>by
   unfold J0 at h ⊢
   obtain⟨v,r,e,q,t⟩:=h
   exact⟨v,r,e,j9.sq k q,J0.sq k t⟩
end
theorem aI9.sq(k:∀a xs,SqT c.K H a xs->SqT c.K H' a xs):∀ {l:List (Key×D)} {vs:List (Key×V)},aI9 c U H l vs->aI9 c U H' l vs
 |[],_,h=>h
 |(_,d)::ds,vs,h=>by
  obtain⟨v,r,e,q,t⟩:=h
  exact⟨v,r,e,j9.sq k q,aI9.sq k t⟩
theorem aN2(hq:H q=some (.lst vs)){K:zk}(a:Addr)(xs:List V)(h:SqT K H a xs):SqT K (hide q H) a xs:=by
 rcases h with(h|⟨o,h⟩)|h
 ·exact .inl (.inl (by rw[aB0 (λe=>by rw[e,hq]at h;cases h)];exact h))
 ·exact .inl (.inr ⟨o,by rw[aB0 (λe=>by rw[e,hq]at h;cases h)];exact h⟩)
 ·exact .inr h
theorem aN3{K:zk}(a:Addr)(xs:List V)(h:SqT K (hide q H) a xs):SqT K H a xs:=by
 rcases h with(h|⟨o,h⟩)|h
 ·exact .inl (.inl (V9 h).2)
 ·exact .inl (.inr ⟨o,(V9 h).2⟩)
 ·exact .inr h
theorem N6.sq(k:∀a xs,SqT c.K H a xs->SqT c.K H' a xs){X9:DSt}{O:St}(h:N6 c U H X9 O):N6 c U H' X9 O:=⟨h.1,λi d e=>let ⟨v,a,b⟩:=h.2 i d e;⟨v,a,b.sq k⟩⟩
theorem Ext.hide(x:Ext U H X2 H')(n:q∉U)(hq:H q=some (.lst vs)):H' q=some (.lst vs)/\q∉X2/\Ext U (DL.hide q H) X2 (DL.hide q H'):=by
 refine⟨x.oth q _ hq n,λh=>?_,x.pre,λa h1 h2=>?_,λb o e nb=>?_,λb xs e=>?_,λb o u e=>?_⟩
 ·have:=x.new q h n;rw[hq]at this;exact eL1 this
 · by_cases e:a=q
   ·rw[e,aM7]
   ·rw[aB0 e];exact x.new a h1 h2
 ·obtain⟨e1,e2⟩:=V9 e;rw[aB0 e1];exact x.oth b o e2 nb
 ·obtain⟨e1,e2⟩:=V9 e;rw[aB0 e1];exact x.tup b xs e2
 ·obtain⟨e1,e2⟩:=V9 e;rw[aB0 e1];exact x.frz b o u e2
theorem Ext.unhide(x:Ext U H X2 (DL.hide q H')):Ext U H X2 H':=
 ⟨x.pre,x.new,λb o e n=>(V9 (x.oth b o e n)).2,λb xs e=>(V9 (x.tup b xs e)).2,λb o u e=>(V9 (x.frz b o u e)).2⟩
theorem J8.hide(h:J8 c U G H)(n:q∉U)(hq:H q=some (.lst vs)):J8 c U G (DL.hide q H):=
 ⟨h.len,h.inj,λi o a g m=>by
  have na:a≠q:=λe=>n (by rw[<-e];exact jC m)
  have r:=h.obj i o a g m
  cases o with
  |lst l=>obtain⟨ws,e,r⟩:=r;exact⟨ws,by rw[aB0 na];exact e,r.sq (aN2 hq)⟩
  |dct l=>obtain⟨ws,e,r⟩:=r;exact⟨ws,by rw[aB0 na];exact e,r.sq (aN2 hq)⟩
  |rod l=>obtain⟨ws,o,e,r⟩:=r;exact⟨ws,o,by rw[aB0 na];exact e,r.sq (aN2 hq)⟩
  |rol l=>
    obtain⟨ws,e,r⟩:=r
    refine⟨ws,?_,r.sq (aN2 hq)⟩
    rcases e with⟨o,e⟩|e
    ·exact .inl ⟨o,by rw[aB0 na];exact e⟩
    ·exact .inr e⟩
theorem J8.unhide(h:J8 c U G (DL.hide q H)):J8 c U G H:=
 ⟨h.len,h.inj,λi o a g m=>by
  have r:=h.obj i o a g m
  cases o with
  |lst l=>obtain⟨ws,e,r⟩:=r;exact⟨ws,(V9 e).2,r.sq aN3⟩
  |dct l=>obtain⟨ws,e,r⟩:=r;exact⟨ws,(V9 e).2,r.sq aN3⟩
  |rod l=>obtain⟨ws,o,e,r⟩:=r;exact⟨ws,o,(V9 e).2,r.sq aN3⟩
  |rol l=>
    obtain⟨ws,e,r⟩:=r
    refine⟨ws,?_,r.sq aN3⟩
    rcases e with⟨o,e⟩|e
    ·exact .inl ⟨o,(V9 e).2⟩
    ·exact .inr e⟩
inductive UH{α:Type}(c:Wc)(q:Addr)(vs:List V)(U:List Addr)(H:Hp)(K:α->List Addr->DH->Hp->Prop)(a:α)(X2:List Addr)(G':DH)(H':Hp):Prop
 |mk (e:H' q=some (.lst vs)) (n:q∉X2) (h:J8 c X2 G' (DL.hide q H')) (x:Ext U (DL.hide q H) X2 (DL.hide q H')) (k:K a X2 G' (DL.hide q H'))
theorem g8.unhide{α:Type}{Z:XC}{r:Option (Except Str α×DH)}{K:α->List Addr->DH->Hp->Prop}(n:q∉U)(hq:H q=some (.lst vs))(p:g8 c ZF U (DL.hide q H) r K):
 g8 c Z U H r (UH c q vs U H K):=by
 match r,p with
 |some (.ok a,G'),p=>
   intro X2 H' x h
   obtain⟨e1,e2,e3⟩:=x.hide n hq
   have h2:=h.hide e2 e1
   exact⟨e1,e2,h2,e3,p X2 _ e3 h2⟩
 |some (.error z,G'),p=>
   intro X2 H' x h
   obtain⟨e1,e2,e3⟩:=x.hide n hq
   exact(p X2 _ e3 (h.hide e2 e1)).elim
theorem J8.mem_lt{X:Cx}{pins:PNS}{O:St}{s:zm}(I:Inv X pins O H s)(h:J8 (wc X) U G H){a:Addr}(ha:a∈U):a<s.heap.objs.size:=by
 obtain⟨i,hi⟩:=Xh ha
 have hl:i<G.length:=by rw[<-h.len];exact lt_of_get hi
 have r:=h.obj i G[i] a (zD hl) hi
 rcases e:G[i]with l|l|l|l
 ·rw[e]at r;obtain⟨_,e,_⟩:=r;exact I.hok.lt e
 ·
   rw[e]at r
   obtain⟨ws,e,_⟩:=r
   rcases e with⟨o,e⟩|e
   ·exact I.hok.lt e
   · rcases e with(e|⟨o,e⟩)|⟨o,its,n,e,_⟩
     ·exact J4 e
     ·exact J4 e
     ·exact zA (I.kIn a o e)
 ·rw[e]at r;obtain⟨_,e,_⟩:=r;exact I.hok.lt e
 ·rw[e]at r;obtain⟨_,_,e,_⟩:=r;exact I.hok.lt e
end
def PTs(X:Cx)(ifs:List Expr)(t:TT):Prop:=
 ∀(pins:PNS) (s:zm) (O:St) (H:Hp) (Q:Bool->Hp->Prop),Inv X pins O H s->t O H Q->
  zy (zH X.prog X.w) X.A (forIn ifs true λc r=>if r=true then do let ok <-isTrue c X.env (eval c X.env);pure (ForInStep.yield ok)else pure (ForInStep.yield r)) (TP X pins O Q) X.xe s
structure DTs(X:Cx)(Z:XC)(ifs:List Expr)(f:DSt->M Bool):Prop where
 h:PTs X ifs (bZ4 (wc X) Z f)
def aA2:DSt->M Bool:=λ_=>pure true
theorem eP0{X:Cx}{Z:XC}:DTs X Z [] aA2:=⟨λpins s O H Q I hE0=>hE0.elim λX9 U G sr h p=>wpAny_tests_nil ⟨H,I,g8.ok p h⟩⟩
theorem eH0{X:Cx}{Z:XC}{c:Expr}{t:DSt->M Bool}(h:DT X Z c t):DTs X Z [c] t:=⟨λpins s O H Q I q=>wpAny_tests_one (h.h pins s O H Q I q)⟩
def Q8(g:Fg)(t:DSt->M Bool)(e:Fe)(ck:DH->Bool):List D->DSt->M (List D)
 |[]=>λ_ G=>if ck G then some (.ok [],G)else none
 | d :: r => λO G => if ck G then (do
    let W1 <-g d O
    if <-t W1 then do
     let y <-e W1
     let ys <-Q8 g t e ck r W1
     pure (y::ys)
    else Q8 g t e ck r W1:M (List D)) G else none
def Q0(it:DSt->M Src)(caps:List (Option Nat))(g:Fg)(t:DSt->M Bool)(e:Fe):Fe:=λO=>do
 let s <-it O
 if s.items.length<=zh then do
  let ys <-noX (Q8 g t e s.ck s.items (Z6 caps O))
  S6 (.lst ys)
 else M.stuck
theorem dL5{c:Wc}{U:List Addr}{H:Hp}{caps:List (Option Nat)}{X9:DSt}{O:St}(h:N6 c U H X9 O):N6 c U H (Z6 caps X9) (Z6 caps O):=by
 refine⟨by simp[Z6],λi d e=>?_⟩
 obtain⟨j,e1,e2⟩:=cH7 e
 obtain⟨v,e3,r⟩:=h.2 j d e2
 refine⟨v,?_,r⟩
 unfold Z6
 rw[jl,e1]
 simp[e3]
section
variable{X:Cx}{Z:XC}{elt tg iter:Expr}{ifs:List Expr}{scope:Scope}{pos:Pos}{N:List Str}{caps:List (Option Nat)}{it:DSt->M Src}{gg:Fg}{tt:DSt->M Bool}{fe:Fe}
set_option maxHeartbeats 1000000 in
def CKV(c:Wc)(Q:VK)(d:D)(X2:List Addr)(_:DH)(H':Hp):Prop:=∀v,j9 c X2 H' d v->Q v H'
def CKR(c:Wc)(Z:XC)(Q:VK)(ys W9:List D)(U:List Addr)(G:DH)(H:Hp):Prop:=g8 c Z U H (S6 (.lst (ys++W9)) G) (CKV c Q)
def eT6(gg:Fg)(tt:DSt->M Bool)(fe:Fe)(ck:DH->Bool)(items:List D)(O:DSt)(y:D):M (List D):=do let ys <-Q8 gg tt fe ck items O;pure (y::ys)
def dF9(gg:Fg)(tt:DSt->M Bool)(fe:Fe)(ck:DH->Bool)(items:List D)(O:DSt)(b:Bool):M (List D):=if b=true then (do let y <-fe O;let ys <-Q8 gg tt fe ck items O;pure (y::ys))else Q8 gg tt fe ck items O
def fG1(gg:Fg)(tt:DSt->M Bool)(fe:Fe)(ck:DH->Bool)(items:List D)(O:DSt):M (List D):=do if <-tt O then do {let y <-fe O;let ys <-Q8 gg tt fe ck items O;pure (y::ys)}else Q8 gg tt fe ck items O
inductive CG(X:Cx)(Z:XC)(Q:VK)(vs:List V)(DD:Addr)(ys:List D)(X2:List Addr)(H5:Hp)(m:DSt->M (List D))(WL:St)(H6:Hp):Prop
 |mk (WS:DSt) (μ6:List Addr) (G6:DH) (s:N6 (wc X) μ6 H6 WS WL) (h:J8 (wc X) μ6 G6 H6) (u:UH (wc X) DD vs X2 H5 (λX9 U G H=>g8 (wc X) ZF U H (m X9 G) (CKR (wc X) Z Q ys)) WS μ6 G6 H6)
inductive CT(X:Cx)(Z:XC)(Q:VK)(vs:List V)(DD:Addr)(ys:List D)(WS:DSt)(WL:St)(μ6:List Addr)(H6:Hp)(m:Bool->M (List D))(b:Bool)(H7:Hp):Prop
 |mk (WI:List Addr) (G7:DH) (s:N6 (wc X) WI H7 WS WL) (h:J8 (wc X) WI G7 H7) (u:UH (wc X) DD vs μ6 H6 (λb U G H=>g8 (wc X) ZF U H (m b G) (CKR (wc X) Z Q ys)) b WI G7 H7)
inductive CE(X:Cx)(Z:XC)(Q:VK)(vs:List V)(DD:Addr)(ys:List D)(WS:DSt)(WL:St)(WI:List Addr)(H7:Hp)(m:D->M (List D))(v:V)(H8:Hp):Prop
 |mk (y:D) (μ8:List Addr) (G8:DH) (r:j9 (wc X) μ8 H8 y v) (s:N6 (wc X) μ8 H8 WS WL) (h:J8 (wc X) μ8 G8 H8) (u:UH (wc X) DD vs WI H7 (λy U G H=>g8 (wc X) ZF U H (m y G) (CKR (wc X) Z Q ys)) y μ8 G8 H8)
inductive eY6(Y:Cx)(Z:XC)(Q:VK)(gg:Fg)(tt:DSt->M Bool)(fe:Fe)(src:Src)(fp:List Addr)(tn:Nat->Heap->Prop)(DD:Addr)(WU:List Addr)(H2:Hp)(n:Nat)(s':zm):Prop
 |mk (i:Nat) (ys:List D) (vs:List V) (X1:St) (H':Hp) (WT:DSt) (X2:List Addr) (G':DH) (e:n=src.items.length-i) (hi:i<=src.items.length) (hv:vs.length<=i)
    (I:Inv Y [] X1 H' s') (st:tn i s'.heap) (fr:∀b∈fp,H' b=none) (hs:H' DD=some (.lst vs)) (nD:DD∉X2)
    (x:Ext WU H2 X2 (hide DD H')) (h:J8 (wc Y) X2 G' (hide DD H')) (sr:N6 (wc Y) X2 (hide DD H') WT X1) (rl:J0 (wc Y) X2 (hide DD H') ys vs)
    (p:g8 (wc Y) ZF X2 (hide DD H') (Q8 gg tt fe src.ck (src.items.drop i) WT G') (CKR (wc Y) Z Q ys))
theorem dK3{Y:Cx}{Q:VK}{src:Src}{fp:List Addr}{tn:Nat->Heap->Prop}{DD it:Addr}{WU:List Addr}{H2:Hp}{J:It}{R:Result->zm->Prop}(hcX:Y.calm=true)(hg:DG Y ZF tg gg)(ht:DTs Y ZF ifs tt)(he:DE Y ZF elt fe)(T:bZ7 Y.prog Y.w Y.K tg J fp it tn)
 (fpX:∀(H':Hp) (b:Addr),b∈fp->H' b=none->bB9 Y [] H' b) (hJ:ItD (wc Y) WU H2 J src) (hlen:src.items.length<=zh) (fin:∀(H':Hp) (X1:St) (s4:zm),Inv Y [] X1 H' s4->Q (.ref DD) H'->R (.ok .next) s4) (n:Nat) (s':zm) (h:eY6 Y Z Q gg tt fe src fp tn DD WU H2 n s') {NX:zm->Prop} (nx:∀m s,m<n->eY6 Y Z Q gg tt fe src fp tn DD WU H2 m s->NX s):
 zy (zH Y.prog Y.w) Y.A (pyNext (.ref it)) (λr WZ=>match r with
  |none=>R (.ok .next) WZ
  | some v => zy (zH Y.prog Y.w) Y.A (letOwnedTupleGo tg (.ref it) v) (λ_ s₁' => zy (zH Y.prog Y.w) Y.A (assign tg Y.env v) (λ_ s₂ =>
     zy (zH Y.prog Y.w) Y.A (forIn ifs true λc r=>if r=true then do let ok <-isTrue c Y.env (eval c Y.env);pure (ForInStep.yield ok)else pure (ForInStep.yield r)) (λok s₃=>
      if ok=true then zy (zH Y.prog Y.w) Y.A (eval elt Y.env) (λx s₄=>
       zy (zH Y.prog Y.w) Y.A (call (.builtin "list.append") [.ref DD,x]) (λ_ s₅=>NX s₅) Y.xe s₄) Y.xe s₃
      else NX s₃) Y.xe s₂) Y.xe s₁') Y.xe WZ) Y.xe s':=by
 obtain⟨i,ys,vs,X1,H',WT,X2,G',rfl,hi',hvl,I',st',fr',hvs,nD',x',h',sr',rl,p'⟩:=h
 by_cases hlt:i<src.items.length
 · rw[yk hlt]at p'
   unfold Q8 at p'
   split at p'
   case isFalse=>exact p'.elim
   rename_i ck
   obtain⟨q1,_⟩:=hJ X2 G' H' x'.unhide h'.unhide ck i
   obtain⟨go,yl⟩:=q1 _ (zD hlt)
   refine thn (T.item (Y) rfl rfl rfl hcX i [] s' X1 H' Y.xe I' (λb hb=>fpX H' b hb (fr' b hb)) st' go) λr s4 z4=>?_
   obtain⟨u,rfl,h4⟩:=z4
   refine thn h4 λ_ s5 z5=>?_
   obtain⟨x,H5,I5,r5,y5,st5,fr5⟩:=z5
   obtain⟨k5,h5,rx5⟩:=yl x H5 y5
   obtain⟨e5,n5,k5'⟩:=k5.hide nD' hvs
   have I5':=I5.pinned (λb hb=>fpX H5 b hb (fr5 b hb)) (T.obj _ _ st5)
   have keepIt:∀ {WJ:St} {H7:Hp} {s7:zm},Inv (Y) ([]++bY4 fp s5.heap) WJ H7 s7->Inv (Y) [] WJ H7 s7/\tn (i+1) s7.heap/\∀b∈fp,H7 b=none:=λ{WJ H7 s7} I7=>by
    refine⟨I7.unpinned,T.keep _ _ _ st5 λb hb o e=>(I7.pin (b,o) (zV _ (zV _ (aV2 hb e)))).1,λb hb=>?_⟩
    obtain⟨o,e,d⟩:=T.obj _ _ st5 b hb
    exact(I7.pin (b,o) (zV _ (zV _ (aV2 hb e)))).2.1
   have p5:=g8.unhide (Z:=ZF) n5 e5 (g8.bind (p'.from k5'))
   refine thn (hg.h _ s5 X1 H5 x u _ I5' r5 ⟨_,WT,X2,G',rx5,(sr'.mono k5').sq aN3,h5,p5.mono λWS μ6 G6 H6 x6 h6 q6 WL sr6=>(⟨WS,μ6,G6,sr6,h6,q6⟩:CG Y Z Q vs DD ys X2 H5 (fG1 gg tt fe src.ck (src.items.drop (i+1))) WL H6)⟩) λ_ s6 z6=>?_
   obtain⟨WL,H6,I6,WS,μ6,G6,sr6,h6,e6,n6,hh6,x6,p6⟩:=z6
   have p6':=g8.unhide (Z:=ZF) n6 e6 (g8.bind p6)
   refine thn (ht.h _ s6 WL H6 (CT Y Z Q vs DD ys WS WL μ6 H6 (dF9 gg tt fe src.ck (src.items.drop (i+1)) WS)) I6 ⟨WS,μ6,G6,sr6,h6,p6'.mono λb WI G7 H7 x7 h7 q7=>⟨WI,G7,sr6.mono x7,h7,q7⟩⟩) λb s7 z7=>?_
   obtain⟨H7,I7,WI,G7,sr7,h7,e7,n7,hh7,x7,p7⟩:=z7
   unfold dF9 at p7
   have x27:Ext WU H2 WI (hide DD H7):=x'.trans (k5'.trans (x6.trans x7))
   have rl7:J0 (wc Y) WI (hide DD H7) ys vs:=rl.mono (k5'.trans (x6.trans x7))
   rcases b with _|_
   ·
     rw[if_neg jc]at p7 ⊢
     obtain⟨I8,st8,fr8⟩:=keepIt I7
     exact nx _ _ (Zk _ _ hlt) ⟨i+1,ys,vs,WL,H7,WS,WI,G7,rfl,hlt,Nat.le_succ_of_le hvl,I8,st8,fr8,e7,n7,x27,hh7,sr7.sq (aN2 e7),rl7,p7⟩
   ·
     rw[if_pos rfl]at p7 ⊢
     have p7':=g8.unhide (Z:=ZF) n7 e7 (g8.bind p7)
     refine thn (he.h _ s7 WL H7 (CE Y Z Q vs DD ys WS WL WI H7 (eT6 gg tt fe src.ck (src.items.drop (i+1)) WS)) I7 ⟨WS,WI,G7,sr7,h7,p7'.mono λy μ8 G8 H8 x8 h8 q8 v rv=>⟨y,μ8,G8,rv,sr7.mono x8,h8,q8⟩⟩) λyu s8 z8=>?_
     obtain⟨yv,H8,I8,ry,y,μ8,G8,ryd,sr8,h8,e8,n8,hh8,x8,p8⟩:=z8
     unfold eT6 at p8
     refine thn (cG5 _ s8 WL H8 (.ref DD) [yv] (.ref DD) [yu] (λ_ H9=>H9=upd H8 DD (.lst (vs++[yv]))) I8 rfl (.cons ry .nil) ⟨DD,vs,yv,rfl,rfl,e8,by lia,rfl⟩) λ_ s9 z9=>?_
     obtain⟨_,H9,I9,_,rfl⟩:=z9
     obtain⟨I10,st10,fr10⟩:=keepIt I9
     have hd9:hide DD (upd H8 DD (.lst (vs++[yv])))=hide DD H8:=bC4
     refine nx _ _ (Zk _ _ hlt) ⟨i+1,ys++[y],vs++[yv],WL,_,WS,μ8,G8,rfl,hlt,by rw[zx];exact yy hvl,I10,st10,fr10,T7,n8,?_,?_,?_,?_,?_⟩
     ·rw[hd9];exact x27.trans x8
     ·rw[hd9];exact hh8
     ·rw[hd9];exact sr8.sq (aN2 e8)
     ·rw[hd9];exact(rl7.mono x8).append ⟨yv, [],rfl,ryd.sq (aN2 e8),rfl⟩
     · rw[hd9]
       refine(g8.bind p8).mono λW9 μ'' G'' H'' x'' h'' q''=>?_
       have q3:=g8.ok q'' h''
       show g8 (wc Y) Z μ'' H'' (S6 (.lst (ys++[y]++W9)) G'') (CKV (wc Y) Q)
       rw[zZ]
       exact q3
 · have e:i=src.items.length:=by lia
   subst e
   rw[XW]at p'
   unfold Q8 at p'
   split at p'
   case isFalse=>exact p'.elim
   rename_i ck
   obtain⟨_,q2⟩:=hJ X2 G' H' x'.unhide h'.unhide ck src.items.length
   refine thn (T.done (Y) rfl rfl rfl hcX src.items.length [] s' X1 H' Y.xe I' (λb hb=>fpX H' b hb (fr' b hb)) st' (q2 (zd _))) λr s4 ⟨hr,I4⟩=>?_
   subst hr
   have p9:g8 (wc Y) Z X2 (hide DD H') (S6 (.lst (ys++[])) G') (CKV (wc Y) Q):=g8.ok p' h'
   rw[yn]at p9
   have q9:=aE9 (q:=DD) h' rl p9 aM7
   rw[dY7 hvs]at q9
   exact fin H' X1 s4 I4 q9
theorem dJ4{use:Option (ze->Sem Unit)}{PQ:VSP}{Q:VK}{ps:Pos}{pins:PNS}{s:zm}{O:St}{H:Hp}{X9:DSt}{U:List Addr}{G:DH}(hc:X.calm=true)(hi:DI X Z tg iter it)(k:aN6 X scope N caps)
 (hg:∀C s H ex,DG (aE2 X scope N C s H ex) ZF tg gg) (ht:∀C s H ex,DTs (aE2 X scope N C s H ex) ZF ifs tt) (he:∀C s H ex,DE (aE2 X scope N C s H ex) ZF elt fe)
 (hs:∀x,foldedSetIterable iter X.env x=pure x) (I:Inv X pins O H s) (sr:N6 (wc X) U H X9 O) (hr:J8 (wc X) U G H) (p:g8 (wc X) Z U H (Q0 it caps gg tt fe X9 G) λd X2 _ H'=>∀v,j9 (wc X) X2 H' d v->Q v H')
 (fin:∀(DD C:Addr) (s4:zm) (H':Hp) (m:Str->Option ze) (o:Flow),s4.heap.Ns C m->(∀h'',yJ C s4.heap h''->Inv X pins O H' {s4 with heap:=h''})->H' C=none->(∀H9:Hp,H9 C=none->bB9 X pins H9 C)->Q (.ref DD) H'->compPost (zH X.prog X.w) X.A X.xe use PQ (.ref DD) C (.ok o) s4):
 zy (zH X.prog X.w) X.A (comprehension (.ListComp elt [⟨tg,iter,ifs,0⟩] scope pos) scope X.env ps (newList []) false (eval iter X.env) use) PQ X.xe s:=by
 replace p:g8 (wc X) Z U H (Q0 it caps gg tt fe X9 G) (CKV (wc X) Q):=p
 have p1:=g8.bind p
 refine wpAny_comprehension_free (use:=use) rfl hs (bP6 (k.cells I.ok)) k.kind k.names ?_
 refine thn (hi.h pins s O H (λJ H1=>∃src X0 G1,Ext U H X0 H1/\J8 (wc X) X0 G1 H1/\ItD (wc X) X0 H1 J src/\
  g8 (wc X) Z X0 H1 ((if src.items.length<=zh then (do let ys <-noX (Q8 gg tt fe src.ck src.items (Z6 caps X9));S6 (.lst ys))else M.stuck:M D) G1) (CKV (wc X) Q))
  I ⟨X9,U,G,sr,hr,p1.mono λsrc X0 G1 H1 x1 h1 p1 J hJ=>⟨src,X0,G1,x1,h1,hJ,p1⟩⟩) λv s1 q1=>thn q1 λitv s2 q2=>?_
 obtain⟨itA,fp,tn,J,H2,rfl,I2,T,st2,f2,src,WU,G2,x2,h2,hJ,p2⟩:=q2
 split at p2
 case isFalse=>exact p2.elim
 rename_i hlen
 have hfp:∀b∈fp,b<s2.heap.objs.size:=λb hb=>by obtain⟨o,e,_⟩:=T.obj _ _ st2 b hb;exact zA e
 refine jA (wpAny_newFunctionEnv k.cell (by intro y hy;simp at hy) (λWQ hns₁ hsb₁=>?_) k.kind)
 dsimp only at hns₁ hsb₁ ⊢
 generalize hHP:s2.heap.push {cls:=.type "list",dict:=none,data:=.seq ([]:List ze).toArray}=HP at hns₁ hsb₁ ⊢
 have hC:HP.objs.size=s2.heap.objs.size+1:=by rw[<-hHP,jX]
 have hCl:s2.heap.objs.size<HP.objs.size:=by rw[hC];exact xk _
 have hDC:s2.heap.objs.size≠HP.objs.size:=zW hCl
 have old:∀b o,s2.heap.get? b=some o->WQ.get? b=some o:=λb o e=>hsb₁.extBut b o (by have:=zA e;exact zW (ZE this hCl)) (zj _ (hHP▸zj _ e))
 have hacc:WQ.get? s2.heap.objs.size=some {cls:=.type "list",data:=.seq ([]:List ze).toArray 0}:=hsb₁.extBut _ _ hDC (zj _ (hHP▸zC _ rfl))
 have hD:H2 s2.heap.objs.size=none:=I2.hok.fresh (zd _)
 have nD:s2.heap.objs.size∉WU:=λz=>yd _ (h2.mem_lt I2 z)
 have st1:tn 0 WQ:=T.keep _ _ _ st2 λb _ o e=>old b o e
 have fpX:∀(H':Hp) (b:Addr),b∈fp->H' b=none->bB9 (aE2 X scope N HP.objs.size s2 H2 fp) [] H' b:=λH' b hb hn=>
  ⟨hn,zW (ZE (hfp b hb) hCl),λz=>by
   rcases zi.mp (I2.stkSub b z)with e|e
   ·exact(f2 b hb).2.1 e
   ·exact(f2 b hb).2.2.1 e,.inl hb,λx c e=>(f2 b hb).2.2.2.2.1 x c (aC3 e),λp hp=>absurd (show p∈([]:PNS)from hp) (by simp)⟩
 have hcX:(aE2 X scope N HP.objs.size s2 H2 fp).calm=true:=hc
 have p3:=cP6 (g8.bind p2)
 generalize hDD:s2.heap.objs.size=DD at *
 have loop:∀s₃:zm,s₃= {s2 with heap:=WQ,toks:=s2.toks+([]:List (Str×ze)).length}->
  codeAny (zH X.prog X.w) X.A (.compLoop (.ListComp elt [⟨tg,iter,ifs,0⟩] scope pos) 0 (.ref itA) (.ref DD) (compEnvC scope (aS8 X.env scope.names []) HP.objs.size X.env))
   (compPost (zH X.prog X.w) X.A X.xe use PQ (.ref DD) HP.objs.size) s₃:=by
  rintro s₃ rfl
  refine cN7 (eY6 (aE2 X scope N HP.objs.size s2 H2 fp) Z Q gg tt fe src fp tn DD WU H2) (λn s' h=>dK3 (Y:=aE2 X scope N HP.objs.size s2 H2 fp) hcX (hg _ _ _ _) (ht _ _ _ _) (he _ _ _ _) T fpX hJ hlen (λH' X1 s4 I4 q9=>?_) n s' h λm s h1 h2=>⟨m,h1,h2⟩) src.items.length
   ⟨0, [], [],Z6 caps O,upd H2 DD (.lst []),Z6 caps X9,WU,G2,rfl,je _,zd _,?_,st1,λb hb=>?_,T7,nD,?_,?_,?_,rfl,?_⟩
  · obtain⟨m,hn,_⟩:=I4.loc
    exact fin DD HP.objs.size s4 H' m _ hn (λh'' sb=>dV1 I2 (λb hb=>f2 b hb) (by rw[hDD];exact hCl) I4 sb) I4.free (λH9 hn9=>I2.fpOk (by rw[hDD];exact yN hCl) hn9) q9
  · have:=cX8 (WQ:=WQ) (tk:=s2.toks+([]:List (Str×ze)).length) I2 k (C:=HP.objs.size) (by rw[hDD];exact hCl) f2 (λb hb=>by rw[hDD];exact hfp b hb) old hns₁ (by rw[hDD];exact hacc)
    rw[hDD]at this
    exact this
  ·rw[K5 (zW (hfp b hb))];exact(f2 b hb).1
  ·rw[bC4,bD1 hD];exact Ext.refl _ _
  ·rw[bC4,bD1 hD];exact h2
  ·rw[bC4,bD1 hD];exact dL5 (sr.mono x2)
  · rw[bC4,bD1 hD,Jj]
    exact p3
 exact codeAny_compStart_list (loop _ rfl) (T.self _ 0 _ _ _ st1 (loop _ rfl))
theorem eG3(hc:X.calm=true)(hi:DI X Z tg iter it)(k:aN6 X scope N caps)
 (hg:∀C s H ex,DG (aE2 X scope N C s H ex) ZF tg gg) (ht:∀C s H ex,DTs (aE2 X scope N C s H ex) ZF ifs tt) (he:∀C s H ex,DE (aE2 X scope N C s H ex) ZF elt fe)
 (hs:∀x,foldedSetIterable iter X.env x=pure x):DE X Z (.ListComp elt [⟨tg,iter,ifs,0⟩] scope pos) (Q0 it caps gg tt fe):=⟨by
 intro pins s O H Q I hE0
 refine hE0.elim λX9 U G sr hr p=>?_
 rw[eval_ListComp]
 exact dJ4 (use:=none) hc hi k hg ht he hs I sr hr p λDD C s4 H' m o hn fin _ _ q9=>⟨m,hn,λh'' sb=>⟨.ref DD,H',fin h'' sb,rfl,q9⟩⟩⟩
end
noncomputable def V6(r:Nat):M DO:=λG=>match G[r]? with
 |some o=>some (.ok o,G)
 |none=>none
def listOf:DO->M (List D)
 | .lst l=>pure l
 | .rol l=>pure l
 | .dct _=>M.stuck
 | .rod _=>M.stuck
def fZ5:D->M (List D)
 | .tup l=>pure l
 | .ref r=>V6 r >>= listOf
 |_=>M.stuck
def bB7{α:Type}:Option α->M α
 |some a=>pure a
 |none=>M.stuck
section
variable{X:Cx}{Z:XC}
theorem IxR.mono{r r':R2}(h:IxR X r)(k:∀x y H Q,r' x y H Q->r x y H Q):IxR X r':=λva sl pins s O H x y v u Q I rx ry q hs=>h va sl pins s O H x y v u Q I rx ry (k x y H Q q) hs
variable{c:Wc}{U:List Addr}{H:Hp}{G:DH}
theorem U6{α:Type}{r:Nat}{f:DO->M α}{K:α->List Addr->DH->Hp->Prop}(p:g8 c Z U H ((V6 r >>= f) G) K):∃o,G[r]? =some o/\g8 c Z U H (f o G) K:=by
 rw[M.bind_eq]at p
 unfold V6 at p
 rcases e:G[r]? with _|o
 ·rw[e]at p;exact p.elim
 ·rw[e]at p;exact⟨o,rfl,p⟩
theorem aT7{α β:Type}{r:Option β}{f:β->M α}{K:α->List Addr->DH->Hp->Prop}(p:g8 c Z U H ((bB7 r >>= f) G) K):∃o,r=some o/\g8 c Z U H (f o G) K:=by
 rcases r with _|o
 ·exact p.elim
 ·exact⟨o,rfl,p⟩
theorem bD7{α:Type}{d:D}{v:V}{f:List D->M α}{K:α->List Addr->DH->Hp->Prop}(h:J8 c U G H)(r:j9 c U H d v)(p:g8 c Z U H ((fZ5 d >>= f) G) K):
 ∃l a vs,v= .ref a/\J0 c U H l vs/\g8 c Z U H (f l G) K/\((d= .tup l/\SqT c.K H a vs)\/(∃i,d= .ref i/\U[i]? =some a/\((G[i]? =some (.lst l)/\H a=some (.lst vs))\/(G[i]? =some (.rol l)/\RoL c.K H a vs)))):=by
 rcases d with _|_|_|_|l|i|_|_<;>try (exact p.elim;done)
 ·
   unfold j9 at r
   obtain⟨a,vs,e,q,rl⟩:=r
   exact⟨l,a,vs,e,rl,p,.inl ⟨rfl,q⟩⟩
 ·
   unfold j9 at r
   obtain⟨a,m,e⟩:=r
   have p':g8 c Z U H ((V6 i >>= λo=>listOf o >>= f) G) K:=by rw[<-M.bind_assoc];exact p
   obtain⟨o,g,p2⟩:=U6 p'
   have ro:=h.obj i o a g m
   rcases o with l|l|l|l
   ·obtain⟨vs,q,rl⟩:=ro;exact⟨l,a,vs,e,rl,p2,.inr ⟨i,rfl,m,.inl ⟨g,q⟩⟩⟩
   ·obtain⟨vs,q,rl⟩:=ro;exact⟨l,a,vs,e,rl,p2,.inr ⟨i,rfl,m,.inr ⟨g,q⟩⟩⟩
   ·exact p2.elim
   ·exact p2.elim
theorem aJ2{i:Int}{v:V}(r:j9 c U H (.int i) v):v= .int i:=by unfold j9 at r;exact r
theorem bB8{i:Str}{v:V}(r:j9 c U H (.str i) v):v= .str i:=by unfold j9 at r;exact r
theorem cC8{i:Bool}{v:V}(r:j9 c U H (.bl i) v):v= .bl i:=by unfold j9 at r;exact r
theorem dY5{v:V}(r:j9 c U H .non v):v= .non:=by unfold j9 at r;exact r
theorem ofI{i:Int}:j9 c U H (.int i) (.int i):=by unfold j9;rfl
theorem ofS{i:Str}:j9 c U H (.str i) (.str i):=by unfold j9;rfl
theorem ofB{i:Bool}:j9 c U H (.bl i) (.bl i):=by unfold j9;rfl
theorem ofN:j9 c U H .non .non:=by unfold j9;rfl
def dA1(g:Int->Int->M D):D->D->M D:=λx y=>match x,y with
 | .int i,.int j=>g i j
 |_,_=>M.stuck
theorem cP1{f:ze->ze->Sem ze}{C:Int->Int->Prop}[∀i j,Decidable (C i j)]{g:Int->Int->Int}(h:OpR X f (rI C λi j=>.int (g i j))):OpD X Z f (dA1 λi j=>if C i j then pure (.int (g i j))else M.stuck):=
 OpD.of h λx y H Q hE0=>hE0.elim λdx dy U G rx ry hr p=>by
  rcases dx with _|_|_|_|_|_|_|_<;>rcases dy with _|_|_|_|_|_|_|_<;>first
   |exact p.elim
   |skip
  rename_i i j
  unfold dA1 at p
  dsimp only at p
  split at p
  · rename_i hc
    exact⟨i,j,aJ2 rx,aJ2 ry,hc,g8.ok p hr _ ofI⟩
  ·exact p.elim
theorem dT7{f:ze->ze->Sem ze}{g:Int->Int->Int}(h:OpR X f (rI0 λi j=>.int (g i j))):OpD X Z f (dA1 λi j=>pure (.int (g i j))):=
 OpD.of h λx y H Q hE0=>hE0.elim λdx dy U G rx ry hr p=>by
  rcases dx with _|_|_|_|_|_|_|_<;>rcases dy with _|_|_|_|_|_|_|_<;>first
   |exact p.elim
   |exact⟨_,_,aJ2 rx,aJ2 ry,g8.ok p hr _ ofI⟩
def bB6:D->D->M D:=dA1 λi j=>pure (.int (i-j))
theorem fC9:OpD X Z (jT .Sub) bB6:=dT7 dX2
noncomputable instance (i j:Int):Decidable (cB6 i j):=by unfold cB6;infer_instance
noncomputable def cG8(_ j:Int):Prop:=0<j/\j<2 ^ 100
noncomputable instance (i j:Int):Decidable (cG8 i j):=by unfold cG8;infer_instance
theorem eA7:OpR X (jT .FloorDiv) (rI cG8 λi j=>.int (i / j)):=opI λi j _ _ _ _ _ hc q=>by
 have h1:(0:Int)<j:=hc.1
 have h2:j<2 ^ 100:=hc.2
 refine floordiv_int (by lia) (by rw[Int.fdiv_eq_ediv_of_nonneg i (by lia)];exact q) (.inl (PyProof.noPylong_of_log2 ?_))
 have h3:j.natAbs<2 ^ 100:=by lia
 have h4:j.natAbs≠0:=by lia
 have:=(Nat.log2_lt h4).mpr h3
 lia
def cV0:D->D->M D:=dA1 λi j=>if cG8 i j then pure (.int (i / j))else M.stuck
theorem eF7:OpD X Z (jT .FloorDiv) cV0:=cP1 eA7
def cA4:D->D->M D:=dA1 λi j=>if 0<j then pure (.int (i % j))else M.stuck
theorem eW5:OpD X Z (jT .Mod) cA4:=cP1 (C:=λ_ j=>0<j) fA4
noncomputable instance (i j:Int):Decidable (dM8 i j):=by unfold dM8;infer_instance
def dA9:D->D->M D:=dA1 λi j=>if dM8 i j then pure (.int (i ^ j.toNat))else M.stuck
theorem fC2:OpD X Z (jT .Pow) dA9:=cP1 dQ8
theorem dR3{prog:zE}{w:zP}{A:zK}{E:VSP}{s:zm}{t b:Addr}{ws:List ze}{Q:VSP}(ht:IsTup s.heap t #[])(hb:IsTup s.heap b ws.toArray)
 (h1:Q (.ref b) s):zy (zH prog w) A (jT .Add (.ref t) (.ref b)) Q E s:=by
 obtain⟨⟨cls,dd,data,sl⟩,ho,hc,n,hd⟩:=id ht
 obtain⟨⟨cls2,dd2,data2,sl2⟩,ho2,hc2,n2,hd2⟩:=id hb
 simp only at hc hd hc2 hd2
 subst hc hd hc2 hd2
 exact XE ⟨_,ho,rfl⟩ ⟨_,ho2,rfl⟩ Yt Xj xM xI (xH _ _)
  (tuple_addW0 t b #[] ws.toArray n n2 dd dd2 sl sl2 (by simp)) ⟨ho,ho2,h1⟩
def fJ7(K:zk):R2:=λx y H Q=>∃a b ys,x= .ref a/\y= .ref b/\SqT K H a []/\SqT K H b ys/\Q (.ref b) H
theorem dV3:OpR X (jT .Add) (fJ7 X.K):=by
 intro pins s O H x y v u Q I rx ry h
 obtain⟨a,b,ys,rfl,rfl,ha,hb,q⟩:=h
 cases rx
 cases ry
 obtain⟨its,r,p,_⟩:=I.tuple ha
 obtain⟨its2,r2,p2,_⟩:=I.tuple hb
 cases r
 exact dR3 p p2 ⟨.ref b,H,I,rfl,q⟩
def Q3:D->D->M D:=λx y=>match x,y with
 | .int i,.int j=>pure (.int (i+j))
 | .str a,.str b=>if a.length+b.length<=zh then pure (.str (a++b))else M.stuck
 | .tup a,.tup b=>if a.length+b.length<=zh then pure (.tup (a++b))else M.stuck
 | .ref i,.ref j=>do
   match <-V6 i,<-V6 j with
   | .lst a,.lst b=>if a.length+b.length<=zh then S6 (.lst (a++b))else M.stuck
   |_,_=>M.stuck
 |_,_=>M.stuck
theorem bN8{xs:List D}{vs:List V}{Q:VK}(h:J8 c U G H){a:Addr}(q:SqT c.K H a vs)(r:J0 c U H xs vs)
 (p:g8 c Z U H (some (Except.ok (.tup xs),G)) λd X2 _ H'=>∀v,j9 c X2 H' d v->Q v H'):Q (.ref a) H:=g8.ok p h _ (by unfold j9;exact⟨a,vs,rfl,q,r⟩)
theorem fH8:OpD X Z (jT .Add) Q3:=
 OpD.of (OpR.or fK0 (OpR.or dA5 (OpR.or eH7 (OpR.or dV3 fL9)))) λx y H Q hE0=>hE0.elim λdx dy U G rx ry hr p=>by
  rcases dx with _|_|_|_|_|_|_|_<;>rcases dy with _|_|_|_|_|_|_|_<;>first
   |exact p.elim
   |skip
  ·exact .inl ⟨_,_,aJ2 rx,aJ2 ry,g8.ok p hr _ ofI⟩
  · rename_i a b
    refine .inr (.inl ?_)
    unfold Q3 at p
    dsimp only at p
    split at p
    · rename_i hz
      exact⟨a,b,bB8 rx,bB8 ry,hz,g8.ok p hr _ ofS⟩
    ·exact p.elim
  · rename_i a b
    unfold j9 at rx ry
    obtain⟨ax,vx,rfl,qx,lx⟩:=rx
    obtain⟨ay,vy,rfl,qy,ly⟩:=ry
    unfold Q3 at p
    dsimp only at p
    split at p
    · rename_i hz
      by_cases hv:vx= []
      · subst hv
        rcases a with _|⟨_,_⟩
        ·exact .inr (.inr (.inr (.inl ⟨ax,ay,vy,rfl,rfl,qx,qy,bN8 hr qy ly p⟩)))
        ·obtain⟨_,_,z,_⟩:=lx;cases z
      · refine .inr (.inr (.inl ⟨ax,ay,vx,vy,rfl,rfl,qx,qy,hv,by rw[<-lx.length,<-ly.length];exact hz,?_⟩))
        refine⟨λhy=>?_,λhy q hq=>aY5 hr (lx.append ly) p q hq⟩
        subst hy
        refine bN8 hr qx ?_ p
        rcases b with _|⟨_,_⟩
        ·rw[yn];exact lx
        ·obtain⟨_,_,z,_⟩:=ly;cases z
    ·exact p.elim
  · rename_i i j
    unfold j9 at rx ry
    obtain⟨ax,mx,rfl⟩:=rx
    obtain⟨ay,my,rfl⟩:=ry
    obtain⟨ox,gx,p⟩:=U6 p
    obtain⟨oy,gy,p⟩:=U6 p
    have hx:=hr.obj i ox ax gx mx
    have hy:=hr.obj j oy ay gy my
    rcases ox with _|_|_|_<;>rcases oy with _|_|_|_<;>first
     |exact p.elim
     |skip
    obtain⟨vx,ex,lx⟩:=hx
    obtain⟨vy,ey,ly⟩:=hy
    dsimp only at p
    split at p
    · rename_i hz
      exact .inr (.inr (.inr (.inr ⟨ax,ay,vx,vy,rfl,rfl,ex,ey,by rw[<-lx.length,<-ly.length];exact hz,λq hq=>aE9 hr (lx.append ly) p q hq⟩)))
    ·exact p.elim
end
noncomputable def X5(G:DH):D->Option (Bool×List D)
 | .tup l=>some (true,l)
 | .ref i=>match G[i]? with
   |some (.lst l)=>some (false,l)
   |some (.rol l)=>some (false,l)
   |_=>none
 |_=>none
noncomputable def aR1:D->Bool
 | .non=>true
 | .bl _=>true
 | .int _=>true
 | .str _=>true
 |_=>false
def eqS:D->D->Option Bool
 | .non,.non=>some true
 | .bl a,.bl b=>some (a==b)
 | .int a,.int b=>some (a==b)
 | .str a,.str b=>some (a==b)
 | .bl a,.int b=>some ((if a then (1:Int)else 0)==b)
 | .int a,.bl b=>some (a==(if b then (1:Int)else 0))
 |x,y=>if aR1 x&&aR1 y then some false else none
noncomputable def eqL(f:D->D->Option Bool):List D->List D->Option Bool
 |[], []=>some true
 |[],_::_=>some false
 |_::_, []=>some false
 |x::xs,y::ys=>match f x y,eqL f xs ys with
   |some e,some r=>some (e&&r)
   |_,_=>none
def eqN:Nat->DH->D->D->Option Bool
 |0,_,_,_=>none
 |n+1,G,x,y=>match X5 G x,X5 G y with
   |some (k1,a),some (k2,b)=>if k1=k2 then (if k1=false/\a.length≠b.length then some false else eqL (eqN n G) a b)else some false
   |some _,none=>if aR1 y then some false else none
   |none,some _=>if aR1 x then some false else none
   |none,none=>eqS x y
theorem aU1{n:Nat}{G:DH}{x y:D}:eqN (n+1) G x y=match X5 G x,X5 G y with
 |some (k1,a),some (k2,b)=>if k1=k2 then (if k1=false/\a.length≠b.length then some false else eqL (eqN n G) a b)else some false
 |some _,none=>if aR1 y then some false else none
 |none,some _=>if aR1 x then some false else none
 |none,none=>eqS x y:=rfl
theorem bS6{f:D->D->Option Bool}{x y:D}{xs ys:List D}:eqL f (x::xs) (y::ys)=match f x y,eqL f xs ys with
 |some e,some r=>some (e&&r)
 |_,_=>none:=rfl
theorem cF7{f:D->D->Option Bool}{e:Nat->Bool}:∀(a b:List D) (r:Bool),eqL f a b=some r->(∀(j:Nat) x y,a[j]? =some x->b[j]? =some y->f x y=some (e j))->r= ((jB (min a.length b.length)).all e&&a.length==b.length)
 |[], [],r,h,_=>by cases h;rfl
 |[],_::_,r,h,_=>by cases h;simp
 |_::_, [],r,h,_=>by cases h;simp
 |x::xs,y::ys,r,h,he=>by
   rw[bS6]at h
   have h0:=he 0 x y rfl rfl
   rw[h0]at h
   rcases hr:eqL f xs ys with _|r'
   ·rw[hr]at h;exact J4 h
   ·
     rw[hr]at h
     have ih:=cF7 (e:=λj=>e (j+1)) xs ys r' hr λj x' y' h1 h2=>he (j+1) x' y' (by simpa using h1) (by simpa using h2)
     cases h
     rw[ih]
     have:min (x::xs).length (y::ys).length=min xs.length ys.length+1:=by simp only[zp];lia
     rw[this,YT,zB,yK]
     simp[xG,Zo]
theorem bX2{f:D->D->Option Bool}:∀(a b:List D) (r:Bool),eqL f a b=some r->∀(j:Nat) x y,a[j]? =some x->b[j]? =some y->∃e,f x y=some e
 |[],_,_,_,_,_,_,h,_=>by simp at h
 |_::_, [],_,_,_,_,_,_,h=>by simp at h
 |x::xs,y::ys,r,h,j,x',y',h1,h2=>by
   rw[bS6]at h
   rcases hf:f x y with _|e
   ·rw[hf]at h;exact J4 h
   ·
     rcases hr:eqL f xs ys with _|r'
     ·rw[hf,hr]at h;exact J4 h
     ·
       cases j with
       |zero=>simp at h1 h2;subst h1 h2;exact⟨e,hf⟩
       |succ j=>exact bX2 xs ys r' hr j x' y' (by simpa using h1) (by simpa using h2)
section
variable{X:Cx}{pins:PNS}{O:St}{H:Hp}{s:zm}{U:List Addr}{G:DH}
noncomputable def cS2(s:zm)(k:Bool)(a:Addr)(its:List ze):Prop:=if k then s.heap.IsTuple a its.toArray else s.heap.IsList a its.toArray
theorem aH6(I:Inv X pins O H s)(h:J8 (wc X) U G H){d:D}{x:V}{v:ze}{k:Bool}{l:List D}(e:X5 G d=some (k,l))(r:j9 (wc X) U H d x)(rv:M3 x v):
 ∃a vs its,x= .ref a/\v= .ref a/\J0 (wc X) U H l vs/\J7 vs its/\cS2 s k a its/\(if k then SqT X.K H a vs else SqL X.K H a vs):=by
 rcases d with _|_|_|_|l'|i|_|_<;>try (cases e;done)
 ·
   unfold X5 at e
   cases e
   unfold j9 at r
   obtain⟨a,vs,rfl,q,rl⟩:=r
   obtain⟨its,rr,p,_⟩:=I.tuple q
   exact⟨a,vs,its,rfl,rv,rl,rr,p,q⟩
 ·
   have e':(match G[i]? with|some (.lst l)=>some (false,l)|some (.rol l)=>some (false,l)|_=>none)=some (k,l):=e
   unfold j9 at r
   obtain⟨a,m,rfl⟩:=r
   have key:∀vs,SqL X.K H a vs->J0 (wc X) U H l vs->k=false->∃a' vs its,V.ref a= .ref a'/\v= .ref a'/\J0 (wc X) U H l vs/\J7 vs its/\cS2 s k a' its/\(if k then SqT X.K H a' vs else SqL X.K H a' vs):=λvs q rl hk=>by
    subst hk
    obtain⟨its,rr,p,_⟩:=I.list q
    exact⟨a,vs,its,rfl,rv,rl,rr,p.isList,q⟩
   generalize g:G[i]? =o at e'
   rcases o with _|l'|l'|_|_<;>cases e'
   · obtain⟨vs,q,rl⟩:=h.obj i _ a g m
     exact key vs (SqL.of q) rl rfl
   · obtain⟨vs,q,rl⟩:=h.obj i _ a g m
     exact key vs q.sq rl rfl
theorem bW1{d:D}{a:Addr}{c:Wc}(hs:aR1 d=true)(r:j9 c U H d (.ref a)):False:=by
 cases d<;>first
  |exact absurd (show false=true from hs) jc
  |(unfold j9 at r;cases r)
theorem cU3{x y:D}{b:Bool}(h:eqS x y=some b):aR1 x=true/\aR1 y=true:=by
 rcases x with _|_|_|_|_|_|_|_<;>rcases y with _|_|_|_|_|_|_|_<;>first
  |exact⟨rfl,rfl⟩
  |(cases h;done)
theorem dX6{x y:D}{b:Bool}{v:V}{c:Wc}(h:eqS x y=some b)(rx:j9 c U H x v)(ry:j9 c U H y v):b=true:=by
 obtain⟨s1,s2⟩:=cU3 h
 rcases x with _|_|_|_|_|_|_|_<;>rcases y with _|_|_|_|_|_|_|_<;>first
  |(cases s1;done)
  |(cases s2;done)
  |(unfold j9 at rx ry;rw[rx]at ry;cases ry;done)
  |(unfold j9 at rx ry;rw[rx]at ry;cases ry;cases h;first|rfl|simp)
theorem cY6(I:Inv X pins O H s){k k':Bool}{a:Addr}{its its':List ze}(h1:cS2 s k a its)(h2:cS2 s k' a its'):k=k':=by
 cases k<;>cases k'<;>first
  |rfl
  |exact absurd rfl (YJ h1 h2)
  |exact absurd rfl (YJ h2 h1)
theorem eqL_same{c:Wc}{f:D->D->Option Bool}:∀(l l':List D) (vs:List V) (b:Bool),J0 c U H l vs->J0 c U H l' vs->(∀d d' v b,v∈vs->j9 c U H d v->j9 c U H d' v->f d d'=some b->b=true)->eqL f l l'=some b->b=true
 |[], [],_,b,_,_,_,e=>by cases e;rfl
 |[],_::_,vs,b,r1,r2,_,_=>by cases r1;obtain⟨_,_,z,_⟩:=r2;exact bQ8 z
 |_::_, [],vs,b,r1,r2,_,_=>by cases r2;obtain⟨_,_,z,_⟩:=r1;cases z
 |d::ds,d'::ds',vs,b,r1,r2,k,e=>by
   obtain⟨v0,vr,rfl,q0,t0⟩:=r1
   obtain⟨v1,vr',e1,q1,t1⟩:=r2
   cases e1
   rw[bS6]at e
   rcases hf:f d d' with _|e0
   ·rw[hf]at e;exact J4 e
   ·
     rcases hr:eqL f ds ds' with _|r'
     ·rw[hf,hr]at e;exact J4 e
     ·
       rw[hf,hr]at e
       cases e
       have z1:=k d d' v0 e0 zc q0 q1 hf
       have z2:=eqL_same ds ds' vr r' t0 t1 (λa a' v b hm=>k a a' v b (zf _ hm)) hr
       rw[z1,z2];rfl
theorem cQ0(I:Inv X pins O H s)(h:J8 (wc X) U G H):∀(n:Nat) {dx dy:D} {x:V} {v:ze} {b:Bool},j9 (wc X) U H dx x->j9 (wc X) U H dy x->M3 x v->eqN n G dx dy=some b->b=true
 |0,_,_,_,_,_,_,_,_,e=>by exact J4 e
 |n+1,dx,dy,x,v,b,rx,ry,rv,e=>by
   rw[aU1]at e
   rcases hx:X5 G dx with _|p
   ·
     rw[hx]at e
     rcases hy:X5 G dy with _|p
     ·rw[hy]at e;exact dX6 e rx ry
     ·
       obtain⟨k,l⟩:=p
       rw[hy]at e
       dsimp only at e
       split at e
       · rename_i hs
         obtain⟨a,_,_,rfl,_⟩:=aH6 I h hy ry rv
         exact(bW1 hs rx).elim
       ·exact J4 e
   ·
     obtain⟨k,l⟩:=p
     rw[hx]at e
     rcases hy:X5 G dy with _|p'
     ·
       rw[hy]at e
       dsimp only at e
       split at e
       · rename_i hs
         obtain⟨a,_,_,rfl,_⟩:=aH6 I h hx rx rv
         exact(bW1 hs ry).elim
       ·exact J4 e
     ·
       obtain⟨k',l'⟩:=p'
       rw[hy]at e
       dsimp only at e
       obtain⟨a,vs,its,rfl,rfl,rl,rr,sq,q⟩:=aH6 I h hx rx rv
       obtain⟨a',vs',its',ea,_,rl',rr',sq',q'⟩:=aH6 I h hy ry rv
       cases ea
       have hk:k=k':=cY6 I sq sq'
       subst hk
       have hvs:vs=vs':=by
        rcases k with _|_
        ·exact I.list_inj q q'
        ·exact I.tuple_inj q q'
       subst hvs
       rw[if_pos rfl,if_neg (by rw[rl.length,rl'.length];simp)]at e
       have hv:∀v∈vs,∃u,M3 v u:=λv hv=>by
        obtain⟨i,hi⟩:=Xh hv
        obtain⟨u,_,ru⟩:=rr.get hi
        exact⟨u,ru⟩
       exact eqL_same l l' vs b rl rl' (λd d' v b hm r1 r2 ef=>by
        obtain⟨u,ru⟩:=hv v hm
        exact cQ0 I h n r1 r2 ru ef) e
theorem fL3{A:zK}{dx dy:D}{x y:V}{v u:ze}{b:Bool}{c:Wc}(rx:j9 c U H dx x)(ry:j9 c U H dy y)(rv:M3 x v)(ru:M3 y u)(e:eqS dx dy=some b):
 Zq A s v u b/\xS A s v u (!b)/\jG A s v u b:=by
 obtain⟨s1,s2⟩:=cU3 e
 rcases dx with _|i|i|i|_|_|_|_<;>try (cases s1;done)
 ·
   unfold j9 at rx;subst rx;cases rv
   rcases dy with _|j|j|j|_|_|_|_<;>try (cases s2;done)
   ·unfold j9 at ry;subst ry;cases ru;cases e;exact⟨SeqAt.RcAt.none_none,JR,Zs _⟩
   ·unfold j9 at ry;subst ry;cases ru;cases e;exact⟨SeqAt.RcAt.none_bool _,JT _,Yj _⟩
   ·unfold j9 at ry;subst ry;obtain⟨t,rfl⟩:=ru;cases e;exact⟨SeqAt.RcAt.none_int _ _,JS _ _,Yy _ _⟩
   ·unfold j9 at ry;subst ry;obtain⟨t,rfl⟩:=ru;cases e;exact⟨SeqAt.RcAt.none_str _ _,JQ _ _,Yx _ _⟩
 ·
   unfold j9 at rx;subst rx;cases rv
   rcases dy with _|j|j|j|_|_|_|_<;>try (cases s2;done)
   ·unfold j9 at ry;subst ry;cases ru;cases e;exact⟨SeqAt.RcAt.bool_none _,SeqAt.RcNeAt.bool_none _,Yk _⟩
   ·unfold j9 at ry;subst ry;cases ru;cases e;exact⟨SeqAt.RcAt.bool_bool _ _,SeqAt.RcNeAt.bool_bool _ _,Yl _ _⟩
   ·unfold j9 at ry;subst ry;obtain⟨t,rfl⟩:=ru;cases e;exact⟨SeqAt.RcAt.bool_int _ _ _,SeqAt.RcNeAt.bool_int _ _ _,YC _ _ _⟩
   ·unfold j9 at ry;subst ry;obtain⟨t,rfl⟩:=ru;cases e;exact⟨SeqAt.RcAt.bool_str _ _ _,SeqAt.RcNeAt.bool_str _ _ _,YB _ _ _⟩
 ·
   unfold j9 at rx;subst rx;obtain⟨t,rfl⟩:=rv
   rcases dy with _|j|j|j|_|_|_|_<;>try (cases s2;done)
   ·unfold j9 at ry;subst ry;cases ru;cases e;exact⟨SeqAt.RcAt.int_none _ _,JY _ _,Yz _ _⟩
   ·unfold j9 at ry;subst ry;cases ru;cases e;exact⟨SeqAt.RcAt.int_bool _ _ _,SeqAt.RcNeAt.int_bool _ _ _,YA _ _ _⟩
   ·unfold j9 at ry;subst ry;obtain⟨t,rfl⟩:=ru;cases e;exact⟨SeqAt.RcAt.int_int _ _ _ _,JZ _ _ _ _,YG _ _ _ _⟩
   ·unfold j9 at ry;subst ry;obtain⟨t,rfl⟩:=ru;cases e;exact⟨SeqAt.RcAt.int_str _ _ _ _,JX _ _ _ _,xZ _ _ _ _⟩
 ·
   unfold j9 at rx;subst rx;obtain⟨t,rfl⟩:=rv
   rcases dy with _|j|j|j|_|_|_|_<;>try (cases s2;done)
   ·unfold j9 at ry;subst ry;cases ru;cases e;exact⟨SeqAt.RcAt.str_none _ _,JN _ _,Yv _ _⟩
   ·unfold j9 at ry;subst ry;cases ru;cases e;exact⟨SeqAt.RcAt.str_bool _ _ _,JP _ _ _,Yw _ _ _⟩
   ·unfold j9 at ry;subst ry;obtain⟨t,rfl⟩:=ru;cases e;exact⟨SeqAt.RcAt.str_int _ _ _ _,JO _ _ _ _,xY _ _ _ _⟩
   ·unfold j9 at ry;subst ry;obtain⟨t,rfl⟩:=ru;cases e;exact⟨SeqAt.RcAt.str_str _ _ _ _,JM _ _ _ _,YF _ _ _ _⟩
theorem bR7{A:zK}(hu:A.units<yq){k:Bool}{a:Addr}{its:List ze}(sq:cS2 s k a its){dy:D}{y:V}{u:ze}{c:Wc}(ry:j9 c U H dy y)(ru:M3 y u)(hs:aR1 dy=true):
 (Zq A s (.ref a) u false/\xS A s (.ref a) u true/\jG A s (.ref a) u false)/\(Zq A s u (.ref a) false/\xS A s u (.ref a) true/\jG A s u (.ref a) false):=by
 rcases k with _|_
 ·
   rcases dy with _|j|j|j|_|_|_|_<;>try (cases hs;done)
   ·unfold j9 at ry;subst ry;cases ru;exact⟨⟨.list_none sq hu,.list_none sq hu,.list_none sq hu⟩,.none_list sq hu,.none_list sq hu,.none_list sq hu⟩
   ·unfold j9 at ry;subst ry;cases ru;exact⟨⟨.list_bool _ sq hu,.list_bool _ sq hu,.list_bool _ sq hu⟩,.bool_list _ sq hu,.bool_list _ sq hu,.bool_list _ sq hu⟩
   ·unfold j9 at ry;subst ry;obtain⟨t,rfl⟩:=ru;exact⟨⟨.list_int _ _ sq hu,.list_int _ _ sq hu,.list_int _ _ sq hu⟩,.int_list _ _ sq hu,.int_list _ _ sq hu,.int_list _ _ sq hu⟩
   ·unfold j9 at ry;subst ry;obtain⟨t,rfl⟩:=ru;exact⟨⟨.list_str _ _ sq hu,.list_str _ _ sq hu,.list_str _ _ sq hu⟩,.str_list _ _ sq hu,.str_list _ _ sq hu,.str_list _ _ sq hu⟩
 ·
   rcases dy with _|j|j|j|_|_|_|_<;>try (cases hs;done)
   ·unfold j9 at ry;subst ry;cases ru;exact⟨⟨.tuple_none sq hu,.tuple_none sq hu,.tuple_none sq hu⟩,.none_tuple sq hu,.none_tuple sq hu,.none_tuple sq hu⟩
   ·unfold j9 at ry;subst ry;cases ru;exact⟨⟨.tuple_bool _ sq hu,.tuple_bool _ sq hu,.tuple_bool _ sq hu⟩,.bool_tuple _ sq hu,.bool_tuple _ sq hu,.bool_tuple _ sq hu⟩
   ·unfold j9 at ry;subst ry;obtain⟨t,rfl⟩:=ru;exact⟨⟨.tuple_int _ _ sq hu,.tuple_int _ _ sq hu,.tuple_int _ _ sq hu⟩,.int_tuple _ _ sq hu,.int_tuple _ _ sq hu,.int_tuple _ _ sq hu⟩
   ·unfold j9 at ry;subst ry;obtain⟨t,rfl⟩:=ru;exact⟨⟨.tuple_str _ _ sq hu,.tuple_str _ _ sq hu,.tuple_str _ _ sq hu⟩,.str_tuple _ _ sq hu,.str_tuple _ _ sq hu,.str_tuple _ _ sq hu⟩
theorem bX1(I:Inv X pins O H s)(h:J8 (wc X) U G H):∀(n:Nat) (A:zK),A.units+n<yq->∀ {dx dy:D} {x y:V} {v u:ze} {b:Bool},j9 (wc X) U H dx x->j9 (wc X) U H dy y->M3 x v->M3 y u->eqN n G dx dy=some b->
 Zq A s v u b/\xS A s v u (!b)/\jG A s v u b
 |0,_,_,_,_,_,_,_,_,_,_,_,_,_,e=>by exact J4 e
 |n+1,A,hu,dx,dy,x,y,v,u,b,rx,ry,rv,ru,e=>by
   have hu0:A.units<yq:=by lia
   have hu1:A.in1.units+n<yq:=by show A.units+1+n<yq;lia
   have e0:=e
   rw[aU1]at e
   rcases hx:X5 G dx with _|p
   ·
     rw[hx]at e
     rcases hy:X5 G dy with _|p
     ·rw[hy]at e;exact fL3 rx ry rv ru e
     ·
       obtain⟨k,l⟩:=p
       rw[hy]at e
       dsimp only at e
       split at e
       · rename_i hs
         cases e
         obtain⟨a,vs,its,rfl,rfl,_,_,sq,_⟩:=aH6 I h hy ry ru
         exact(bR7 hu0 sq rx rv hs).2
       ·exact J4 e
   ·
     obtain⟨k,l⟩:=p
     rw[hx]at e
     obtain⟨a,vs,its,rfl,rfl,rl,rr,sq,q⟩:=aH6 I h hx rx rv
     rcases hy:X5 G dy with _|p'
     ·
       rw[hy]at e
       dsimp only at e
       split at e
       · rename_i hs
         cases e
         exact(bR7 hu0 sq ry ru hs).1
       ·exact J4 e
     ·
       obtain⟨k',l'⟩:=p'
       rw[hy]at e
       dsimp only at e
       obtain⟨a',vs',its',rfl,rfl,rl',rr',sq',q'⟩:=aH6 I h hy ry ru
       -- the two at one place
       have main:Zq A s (.ref a) (.ref a') b/\xS A s (.ref a) (.ref a') (!b):=by
        have len1:its.toArray.size=l.length:=by rw[zr,<-rr.length,rl.length]
        have len2:its'.toArray.size=l'.length:=by rw[zr,<-rr'.length,rl'.length]
        by_cases hk:k=k'
        · subst hk
          rw[if_pos rfl]at e
          by_cases hlen:k=false/\l.length≠l'.length
          · rw[if_pos hlen]at e
            cases e
            obtain⟨rfl,hne⟩:=hlen
            have hz:(its.toArray.size != its'.toArray.size)=true:=by rw[len1,len2];simpa using hne
            exact⟨SeqAt.RcAt.lists_lengths sq sq' hz hu0,JU sq sq' hz hu0⟩
          · rw[if_neg hlen]at e
            have items:∀j (h1:j<its.toArray.size) (h2:j<its'.toArray.size),∃e,eqN n G (l.getD j .non) (l'.getD j .non)=some e/\jG A.in1 s its.toArray[j] its'.toArray[j] e:=λj h1 h2=>by
             have j1:j<l.length:=by rw[<-len1];exact h1
             have j2:j<l'.length:=by rw[<-len2];exact h2
             have g1:l[j]? =some l[j]:=zD j1
             have g2:l'[j]? =some l'[j]:=zD j2
             obtain⟨e1,he1⟩:=bX2 l l' b e j _ _ g1 g2
             obtain⟨v1,hv1,r1⟩:=rl.get g1
             obtain⟨v2,hv2,r2⟩:=rl'.get g2
             obtain⟨u1,hu1',ru1⟩:=rr.get hv1
             obtain⟨u2,hu2',ru2⟩:=rr'.get hv2
             have w1:its.toArray[j]=u1:=by
              have:its.toArray[j]? =some u1:=by simpa using hu1'
              rw[yL h1]at this
              exact jd this
             have w2:its'.toArray[j]=u2:=by
              have:its'.toArray[j]? =some u2:=by simpa using hu2'
              rw[yL h2]at this
              exact jd this
             rw[w1,w2]
             refine⟨e1,?_,(bX1 I h n A.in1 hu1 r1 r2 ru1 ru2 he1).2.2⟩
             rw[jO,jO,g1,g2]
             exact he1
            have hr:=cF7 (e:=λj=>(eqN n G (l.getD j .non) (l'.getD j .non)).getD false) l l' b e λj x y g1 g2=>by
             obtain⟨e1,he1⟩:=bX2 l l' b e j x y g1 g2
             rw[jO,jO,g1,g2]
             simp only[Option.getD_some]
             rw[he1];rfl
            have he:∀j (h1:j<its.toArray.size) (h2:j<its'.toArray.size),jG A.in1 s its.toArray[j] its'.toArray[j] ((eqN n G (l.getD j .non) (l'.getD j .non)).getD false):=λj h1 h2=>by
             obtain⟨e1,he1,hh⟩:=items j h1 h2
             rw[he1];exact hh
            rcases k with _|_
            ·
              have hl:l.length=l'.length:=yF λz=>hlen ⟨rfl,z⟩
              have hsz:its.toArray.size=its'.toArray.size:=by rw[len1,len2,hl]
              have z1:=SeqAt.RcAt.lists (A:=A) sq sq' hsz hu0 he
              have z2:=JV (A:=A) sq sq' hsz hu0 he
              have hr2:b= (jB its.toArray.size).all λj=>(eqN n G (l.getD j .non) (l'.getD j .non)).getD false:=by
               rw[hr,len1,hl];simp
              rw[<-hr2]at z1 z2
              exact⟨z1,z2⟩
            ·
              have z1:=SeqAt.RcAt.tuples (A:=A) sq sq' hu0 he
              have z2:=JK (A:=A) sq sq' hu0 he
              rw[len1,len2,<-hr]at z1 z2
              exact⟨z1,z2⟩
        · rw[if_neg hk]at e
          cases e
          cases k<;>cases k'<;>first
           |exact absurd rfl hk
           |exact⟨SeqAt.RcAt.list_tuple sq sq' hu0,JW sq sq' hu0⟩
           |exact⟨SeqAt.RcAt.tuple_list sq sq' hu0,JL sq sq' hu0⟩
       refine⟨main.1,main.2,?_⟩
       by_cases ha:a=a'
       · subst ha
         have:b=true:=cQ0 I h (n+1) rx ry rv e0
         rw[this]
         exact Zs _
       ·exact SeqAt.EqAt.of_refs ha main.1
end
section
variable{X:Cx}{Z:XC}
def eqD:D->D->M D:=λx y G=>match eqN 40 G x y with
 |some b=>some (.ok (.bl b),G)
 |none=>none
def neD:D->D->M D:=λx y G=>match eqN 40 G x y with
 |some b=>some (.ok (.bl (!b)),G)
 |none=>none
theorem fY7(hu:X.A.units+64<yq):OpD X Z (zL .Eq) eqD:=⟨by
 intro pins s O H x y v u Q I rx ry hE0
 refine hE0.elim λdx dy U G rdx rdy hr p=>?_
 unfold eqD at p
 rcases e:eqN 40 G dx dy with _|b
 ·rw[e]at p;exact p.elim
 ·
   rw[e]at p
   exact(bX1 I hr 40 X.A (by lia) rdx rdy rx ry e).1 X.prog X.w X.xe _ ⟨.bl b,H,I,rfl,g8.ok p hr _ ofB⟩⟩
theorem fO5(hu:X.A.units+64<yq):OpD X Z (zL .NotEq) neD:=⟨by
 intro pins s O H x y v u Q I rx ry hE0
 refine hE0.elim λdx dy U G rdx rdy hr p=>?_
 unfold neD at p
 rcases e:eqN 40 G dx dy with _|b
 ·rw[e]at p;exact p.elim
 ·
   rw[e]at p
   exact(bX1 I hr 40 X.A (by lia) rdx rdy rx ry e).2.1 X.prog X.w X.xe _ ⟨.bl (!b),H,I,rfl,g8.ok p hr _ ofB⟩⟩
def leD:D->D->M D:=λx y=>match x,y with
 | .int i,.int j=>pure (.bl (decide (i<=j)))
 | .str i,.str j=>pure (.bl (!decide (j.cps.toList<i.cps.toList)))
 |_,_=>M.stuck
def gtD:D->D->M D:=λx y=>match x,y with
 | .int i,.int j=>pure (.bl (decide (j<i)))
 | .str i,.str j=>pure (.bl (decide (j.cps.toList<i.cps.toList)))
 |_,_=>M.stuck
theorem dG3{op:CmpOp}{fi:Int->Int->Bool}{fs:Str->Str->Bool}{o:D->D->M D}(hi:OpR X (zL op) (rI0 λi j=>.bl (fi i j)))
 (hs:∀(i j:Str) (t u:Tok) (s:zm) (Q:VSP) (E:VSP),Q (.bool (fs i j)) s->zy (zH X.prog X.w) X.A (zL op (.str i t) (.str j u)) Q E s)
 (h1:∀i j,o (.int i) (.int j)=pure (.bl (fi i j))) (h2:∀i j,o (.str i) (.str j)=pure (.bl (fs i j)))
 (h3:∀x y,(∀i j,¬(x= .int i/\y= .int j))->(∀i j,¬(x= .str i/\y= .str j))->o x y=M.stuck):OpD X Z (zL op) o:=⟨by
 intro pins s O H x y v u Q I rx ry hE0
 refine hE0.elim λdx dy U G rdx rdy hr p=>?_
 by_cases c1:∃i j,dx= .int i/\dy= .int j
 · obtain⟨i,j,rfl,rfl⟩:=c1
   rw[h1]at p
   exact hi pins s O H x y v u Q I rx ry ⟨i,j,aJ2 rdx,aJ2 rdy,g8.ok p hr _ ofB⟩
 · by_cases c2:∃i j,dx= .str i/\dy= .str j
   · obtain⟨i,j,rfl,rfl⟩:=c2
     rw[h2]at p
     have e1:=bB8 rdx
     have e2:=bB8 rdy
     subst e1 e2
     obtain⟨t,rfl⟩:=rx
     obtain⟨t',rfl⟩:=ry
     exact hs i j t t' s _ _ ⟨.bl (fs i j),H,I,rfl,g8.ok p hr _ ofB⟩
   · rw[h3 dx dy (λi j z=>c1 ⟨i,j,z⟩) (λi j z=>c2 ⟨i,j,z⟩)]at p
     exact p.elim⟩
theorem fX2:OpD X Z (zL .LtE) leD:=dG3 fS6 (λ_ _ _ _ _ _ _ q=>PySem.P.le_str q) (λ_ _=>rfl) (λ_ _=>rfl) λx y n1 n2=>by
 rcases x with _|_|_|_|_|_|_|_<;>rcases y with _|_|_|_|_|_|_|_<;>first
  |rfl
  |exact absurd ⟨rfl,rfl⟩ (n1 _ _)
  |exact absurd ⟨rfl,rfl⟩ (n2 _ _)
theorem fU0:OpD X Z (zL .Gt) gtD:=dG3 fS5 (λ_ _ _ _ _ _ _ q=>PySem.P.gt_str q) (λ_ _=>rfl) (λ_ _=>rfl) λx y n1 n2=>by
 rcases x with _|_|_|_|_|_|_|_<;>rcases y with _|_|_|_|_|_|_|_<;>first
  |rfl
  |exact absurd ⟨rfl,rfl⟩ (n1 _ _)
  |exact absurd ⟨rfl,rfl⟩ (n2 _ _)
noncomputable def U0:D->Bool
 | .non=>true
 |_=>false
theorem dF2{c:Wc}{U:List Addr}{H:Hp}{d:D}{v:V}(r:j9 c U H d v):decide (v= .non)=U0 d:=by
 cases d with
 |non=>rw[dY5 r];rfl
 |tup l=>unfold j9 at r;obtain⟨a,_,rfl,_⟩:=r;rfl
 |ref l=>unfold j9 at r;obtain⟨a,_,rfl⟩:=r;rfl
 |fn l=>unfold j9 at r;obtain⟨a,_,rfl⟩:=r;rfl
 |_=>unfold j9 at r;subst r;rfl
def cT8:D->M D:=λx=>match x with
 | .int i=>pure (.int (-i))
 |_=>M.stuck
theorem eX3:UnD X Z (unaryOp .USub) cT8:=⟨by
 intro pins s O H x v Q I rx hE0
 refine hE0.elim λdx U G rdx hr p=>?_
 cases dx<;>first
  |exact p.elim
  |exact dT3 pins s O H x v Q I rx ⟨_,aJ2 rdx,g8.ok p hr _ ofI⟩⟩
noncomputable instance (x:Str) (n:Int):Decidable (Ze x n):=by unfold Ze;infer_instance
def bP9:D->D->M D:=λx y=>match x,y with
 | .int i,.int j=>if cB6 i j then pure (.int (i*j))else M.stuck
 | .str x,.int n=>if Ze x n then pure (.str (XQ x n))else M.stuck
 |_,_=>M.stuck
theorem dC5:OpR X (jT .Mult) (λx y H Q=>∃z n,x= .str z/\y= .int n/\Ze z n/\Q (.str (XQ z n)) H):=by
 intro pins s O H x y v u Q I rx ry h
 obtain⟨z,n,rfl,rfl,hk,q⟩:=h
 obtain⟨t,rfl⟩:=rx
 obtain⟨t',rfl⟩:=ry
 exact PySem.SB.mul hk λt' k=>⟨.str _,H,I.tok _,⟨_,rfl⟩,q⟩
theorem fH1:OpD X Z (jT .Mult) bP9:=
 OpD.of (OpR.or fI0 dC5) λx y H Q hE0=>hE0.elim λdx dy U G rdx rdy hr p=>by
  rcases dx with _|_|_|_|_|_|_|_<;>rcases dy with _|_|_|_|_|_|_|_<;>first
   |exact p.elim
   |skip
  · unfold bP9 at p
    dsimp only at p
    split at p
    ·rename_i hc;exact .inl ⟨_,_,aJ2 rdx,aJ2 rdy,hc,g8.ok p hr _ ofI⟩
    ·exact p.elim
  · unfold bP9 at p
    dsimp only at p
    split at p
    ·rename_i hc;exact .inr ⟨_,_,bB8 rdx,aJ2 rdy,hc,g8.ok p hr _ ofS⟩
    ·exact p.elim
end
noncomputable def cZ1(A:zK)(s:zm)(y x:ze)(b:Bool):Prop:=
 ∀(prog:zE) (w:zP) (E:VSP) (Q:VSP),Q (.bool b) s->zy (zH prog w) A (richCompare .Lt y x) Q E s
inductive LtR(A:zK)(s:zm):List ze->List ze->Bool->Prop
 |nil:LtR A s [] [] false
 |nilc {y ys}:LtR A s [] (y::ys) true
 |cnil {x xs}:LtR A s (x::xs) [] false
 |eq {x y xs ys b}:jG A s x y true->LtR A s xs ys b->LtR A s (x::xs) (y::ys) b
 |ne {x y xs ys b}:jG A s x y false->cZ1 A s x y b->LtR A s (x::xs) (y::ys) b
section
open PySem.SeqAt
open PySem.AutoSeq1 (wpAny_loadPart')
open PySem.MeetsSeq PySem.MeetsSeq2 PySem.MeetsSeq3
theorem cX2(l b:Addr)(items items2:Array ze)(n n2:Nat)(dd dd2:Option Addr)(sl sl2:Array (Option ze))(k:Bool):
 Meets (Builtin.«tuple.__lt__» ⟨[.ref l,.ref b], []⟩)
  (λA R s=>s.heap.get? l=some {cls:=.type "tuple",dict:=dd,data:=.seq items n,slots:=sl}/\s.heap.get? b=some {cls:=.type "tuple",dict:=dd2,data:=.seq items2 n2,slots:=sl2}/\
    LtR A.in1 s items.toList items2.toList k/\R (.ok (.ret (.bool k))) s):=
 .of_wp λprog w A R s h=>by
  obtain⟨hp,g,d,tk,os⟩:=s;obtain⟨hl,hb,hk,h⟩:=h
  have f2:=ZY
  wp_walk using jg hl,jg hb,Jx _ (λW9 b s'=>b.1=none/\s'= ⟨hp,g,d,tk,os⟩/\∃(vs ws:List ze),W9=vs.zip ws/\
   vs.length+items2.size=ws.length+items.size/\LtR A.in1 ⟨hp,g,d,tk,os⟩ vs ws k) _
  case turn=>
   rintro⟨y,x⟩ W9 b s' ⟨hb',rfl,vs,ws,hz,hlen,hR⟩
   cases hR with
   |nil=>exact cH8 hz
   |nilc=>exact cH8 hz
   |cnil=>exact cH8 hz
   |eq he hR'=>
     rw[jv]at hz
     injection hz with hyx hrest
     injection hyx with hy hx
     subst hy hx
     refine za (he prog w _ _ ?_)
     wp_walk
     simp only[zp]at hlen
     exact⟨rfl,rfl,_,_,hrest,by lia,hR'⟩
   |ne he hc=>
     rw[jv]at hz
     injection hz with hyx hrest
     injection hyx with hy hx
     subst hy hx
     refine za (he prog w _ _ ?_)
     have hri:=hc prog w
     wp_walk using hri
     exact⟨_,rfl,h⟩
  case fin=>
   rintro⟨b1,b2⟩ s' ⟨hb',rfl,vs,ws,hz,hlen,hR⟩
   simp only at hb'
   subst hb'
   have hv:k=decide (items.size<items2.size):=by
    cases hR with
    |nil=>simp only[jk]at hlen;exact(decide_eq_false (by lia)).symm
    |nilc=>simp only[jk,zp]at hlen;exact(decide_eq_true (by lia)).symm
    |cnil=>simp only[jk,zp]at hlen;exact(decide_eq_false (by lia)).symm
    |eq _ _=>rw[jv]at hz;exact bQ8 hz
    |ne _ _=>rw[jv]at hz;exact bQ8 hz
   rw[hv]at h
   wp_walk
   exact⟨_,rfl,by simpa [Za]using h⟩
  case h=>
   exact⟨rfl,rfl,items.toList,items2.toList,rfl,by simp;lia,hk⟩
theorem dM1(l b:Addr)(items items2:Array ze)(n n2:Nat)(dd dd2:Option Addr)(sl sl2:Array (Option ze))(k:Bool):∀(vs ws:List ze) (i:Nat),items.toList.drop i=vs->items2.toList.drop i=ws->i<=items.size->i<=items2.size->
 Meets (Builtin.«list.__eq__.loop» ⟨[.ref l,.ref b,yH i,yH 0], []⟩)
  (λA R s=>s.heap.get? l=some {cls:=.type "list",dict:=dd,data:=.seq items n,slots:=sl}/\s.heap.get? b=some {cls:=.type "list",dict:=dd2,data:=.seq items2 n2,slots:=sl2}/\
    LtR A.in1 s vs ws k/\R (.ok (.ret (.bool k))) s):=by
 have dropn:∀(a:Array ze) (i:Nat),a.toList.drop i= []->i<=a.size->i=a.size:=λa i e hi=>by
  have:=List.drop_eq_nil_iff.mp e
  simp at this;lia
 have dropc:∀(a:Array ze) (i:Nat) (v:ze) (r:List ze),a.toList.drop i=v::r->i<a.size/\a[((i:Nat):Int).toNat]? =some v/\a.toList.drop (i+1)=r:=λa i v r e=>by
  have hlt:i<a.toList.length:=by
   rcases ZG i a.toList.length with q|q
   ·exact q
   ·rw[xU q]at e;exact bQ8 e
  rw[yk hlt]at e
  injection e with e1 e2
  refine⟨by simpa using hlt,?_,e2⟩
  simp at hlt
  simp[hlt]
  simpa using e1
 intro vs
 induction vs with
 |nil=>
   intro ws i hv hw hi hi2 prog w A R s h
   obtain⟨hp,g,d,tk,os⟩:=s;obtain⟨hl,hb,he,h⟩:=h
   have e1:=dropn items i hv hi
   wp_walk using jg hl,jg hb
   have hi1:items[((i:Nat):Int).toNat]? =none:=by simp;lia
   rw[hi1]
   rcases ws with _|⟨y,ys⟩
   ·
     have e2:=dropn items2 i hw hi2
     cases he
     wp_walk using jg hl,jg hb
     show R (.ok (.ret (.bool (decide (items.size<items2.size))))) _
     rw[decide_eq_false (by lia)]
     exact h
   ·
     obtain⟨hlt,_,_⟩:=dropc items2 i y ys hw
     cases he
     wp_walk using jg hl,jg hb
     show R (.ok (.ret (.bool (decide (items.size<items2.size))))) _
     rw[decide_eq_true (by lia)]
     exact h
 |cons x xs ih=>
   intro ws i hv hw hi hi2 prog w A R s h
   obtain⟨hp,g,d,tk,os⟩:=s;obtain⟨hl,hb,he,h⟩:=h
   obtain⟨hlt,g1,d1⟩:=dropc items i x xs hv
   wp_walk using jg hl,jg hb
   rcases ws with _|⟨y,ys⟩
   ·
     have e2:=dropn items2 i hw hi2
     have hi2':items2[((i:Nat):Int).toNat]? =none:=by simp;lia
     rw[g1,hi2']
     cases he
     wp_walk using jg hl,jg hb
     show R (.ok (.ret (.bool (decide (items.size<items2.size))))) _
     rw[decide_eq_false (by lia)]
     exact h
   ·
     obtain⟨hlt2,g2,d2⟩:=dropc items2 i y ys hw
     have hc:((i:Int)+1)= ((i+1:Nat):Int):=by push_cast;rfl
     rw[g1,g2]
     cases he with
     |eq he he'=>
       refine za (he prog w _ _ ?_)
       wp_walk
       rw[hc]
       exact⟨ZJ plain_eq_loop _,Zn entry_eq_loop (by
        rw[xh plain_eq_loop _]
        exact ih ys (i+1) d1 d2 (by lia) (by lia) prog w A R _ ⟨hl,hb,he',h⟩)⟩
     |ne he hcmp=>
       refine za (he prog w _ _ ?_)
       have hri:=hcmp prog w
       wp_walk using jg hl,jg hb
       rw[g1,g2]
       wp_walk using hri
       exact h
theorem dP1(l b:Addr)(items items2:Array ze)(n n2:Nat)(dd dd2:Option Addr)(sl sl2:Array (Option ze))(k:Bool):
 Meets (Builtin.«list.__lt__» ⟨[.ref l,.ref b], []⟩)
  (λA R s=>s.heap.get? l=some {cls:=.type "list",dict:=dd,data:=.seq items n,slots:=sl}/\s.heap.get? b=some {cls:=.type "list",dict:=dd2,data:=.seq items2 n2,slots:=sl2}/\
    LtR A.in1 s items.toList items2.toList k/\R (.ok (.ret (.bool k))) s):=by
 intro prog w A R s h
 obtain⟨hp,g,d,tk,os⟩:=s;obtain⟨hl,hb,he,h⟩:=h
 have f3:=AutoSeq1.sub_list_list
 wp_walk using jg hl,jg hb
 exact⟨ZJ plain_eq_loop _,Zn entry_eq_loop (by
  rw[xh plain_eq_loop _]
  exact dM1 l b items items2 n n2 dd dd2 sl sl2 k items.toList items2.toList 0 rfl rfl (je _) (je _) prog w A R _ ⟨hl,hb,he,h⟩)⟩
end
noncomputable def ltS:D->D->Option Bool
 | .int a,.int b=>some (decide (a<b))
 | .str a,.str b=>some (decide (a.cps.toList<b.cps.toList))
 | .bl a,.bl b=>some (decide (b2i a<b2i b))
 |_,_=>none
noncomputable def ltL(eq lt:D->D->Option Bool):List D->List D->Option Bool
 |[], []=>some false
 |[],_::_=>some true
 |_::_, []=>some false
 |x::xs,y::ys=>match eq x y with
   |some true=>ltL eq lt xs ys
   |some false=>lt x y
   |none=>none
def ltN:Nat->DH->D->D->Option Bool
 |0,_,_,_=>none
 |n+1,G,x,y=>match X5 G x,X5 G y with
   |some (k1,a),some (k2,b)=>if k1=k2 then ltL (eqN n G) (ltN n G) a b else none
   |none,none=>ltS x y
   |_,_=>none
theorem fQ7{n:Nat}{G:DH}{x y:D}:ltN (n+1) G x y=match X5 G x,X5 G y with
 |some (k1,a),some (k2,b)=>if k1=k2 then ltL (eqN n G) (ltN n G) a b else none
 |none,none=>ltS x y
 |_,_=>none:=rfl
section
variable{X:Cx}{Z:XC}{pins:PNS}{O:St}{H:Hp}{s:zm}{U:List Addr}{G:DH}
theorem fJ2{A:zK}{dx dy:D}{x y:V}{v u:ze}{b:Bool}{c:Wc}(rx:j9 c U H dx x)(ry:j9 c U H dy y)(rv:M3 x v)(ru:M3 y u)(e:ltS dx dy=some b):cZ1 A s v u b:=by
 intro prog w E Q hq
 rcases dx with _|_|_|_|_|_|_|_<;>rcases dy with _|_|_|_|_|_|_|_<;>first
  |(cases e;done)
  |skip
 · cases e
   unfold j9 at rx ry;subst rx ry;cases rv;cases ru
   exact(lt_bool hq:zy (zH prog w) A (zL .Lt _ _) Q E s)
 · cases e
   unfold j9 at rx ry;subst rx ry;obtain⟨t,rfl⟩:=rv;obtain⟨t',rfl⟩:=ru
   exact(lt_int hq:zy (zH prog w) A (zL .Lt _ _) Q E s)
 · cases e
   unfold j9 at rx ry;subst rx ry;obtain⟨t,rfl⟩:=rv;obtain⟨t',rfl⟩:=ru
   exact(lt_str hq:zy (zH prog w) A (zL .Lt _ _) Q E s)
theorem eT2(I:Inv X pins O H s)(h:J8 (wc X) U G H):∀(n:Nat) (A:zK),A.units+n<yq->∀ {dx dy:D} {x y:V} {v u:ze} {b:Bool},j9 (wc X) U H dx x->j9 (wc X) U H dy y->M3 x v->M3 y u->ltN n G dx dy=some b->cZ1 A s v u b
 |0,_,_,_,_,_,_,_,_,_,_,_,_,_,e=>by exact J4 e
 |n+1,A,hu,dx,dy,x,y,v,u,b,rx,ry,rv,ru,e=>by
   have hu0:A.units<yq:=by lia
   have hu1:A.in1.units+n<yq:=by show A.units+1+n<yq;lia
   rw[fQ7]at e
   rcases hx:X5 G dx with _|p
   ·
     rw[hx]at e
     rcases hy:X5 G dy with _|p
     ·rw[hy]at e;exact fJ2 rx ry rv ru e
     ·rw[hy]at e;exact J4 e
   ·
     obtain⟨k,l⟩:=p
     rw[hx]at e
     rcases hy:X5 G dy with _|p'
     ·rw[hy]at e;exact J4 e
     ·
       obtain⟨k',l'⟩:=p'
       rw[hy]at e
       dsimp only at e
       split at e
       case isFalse=>exact J4 e
       rename_i hk
       subst hk
       obtain⟨a,vs,its,rfl,rfl,rl,rr,sq,q⟩:=aH6 I h hx rx rv
       obtain⟨a',vs',its',rfl,rfl,rl',rr',sq',q'⟩:=aH6 I h hy ry ru
       have main:∀(l l':List D) (vs vs':List V) (its its':List ze),J0 (wc X) U H l vs->J0 (wc X) U H l' vs'->J7 vs its->J7 vs' its'->ltL (eqN n G) (ltN n G) l l'=some b->LtR A.in1 s its its' b:=by
        intro l
        induction l with
        |nil=>
          intro l' vs vs' its its' r r' q q' e
          cases r;cases q
          rcases l' with _|⟨_,_⟩
          ·cases r';cases q';cases e;exact .nil
          ·
            obtain⟨_,_,rfl,_,_⟩:=r'
            cases q'
            cases e
            exact .nilc
        |cons d ds ih=>
          intro l' vs vs' its its' r r' q q' e
          obtain⟨v0,vr,rfl,r0,rt⟩:=r
          cases q with
          |cons q0 qt=>
            rcases l' with _|⟨d',ds'⟩
            ·cases r';cases q';cases e;exact .cnil
            ·
              obtain⟨v1,vr',rfl,r1,rt'⟩:=r'
              cases q' with
              |cons q1 qt'=>
                unfold ltL at e
                rcases he:eqN n G d d' with _|b0
                ·rw[he]at e;exact J4 e
                ·
                  rw[he]at e
                  have hE:=(bX1 I h n A.in1 hu1 r0 r1 q0 q1 he).2.2
                  rcases b0 with _|_
                  ·exact .ne hE (eT2 I h n A.in1 hu1 r0 r1 q0 q1 e)
                  ·exact .eq hE (ih ds' vr vr' _ _ rt rt' qt qt' e)
       have hR:=main l l' vs vs' its its' rl rl' rr rr' e
       intro prog w E Q hq
       rcases k with _|_
       ·
         obtain⟨⟨cls,dd,data,sl⟩,ho,hc,m,hd⟩:=id sq
         obtain⟨⟨cls2,dd2,data2,sl2⟩,ho2,hc2,m2,hd2⟩:=id sq'
         simp only at hc hd hc2 hd2
         subst hc hd hc2 hd2
         exact Zj (op:=.Lt) ⟨_,ho,rfl⟩ ⟨_,ho2,rfl⟩ PySem.F.slot_list_lt PySem.F.entry_list_lt (PySem.F.args_list_lt_2 _ _) (dP1 a a' its.toArray its'.toArray m m2 dd dd2 sl sl2 b)
          ⟨ho,ho2,hR,show Value.bool b≠Value.notImplemented/\Q (.bool b) s from⟨(λx=>nomatch x),hq⟩⟩ hu0
       ·
         obtain⟨⟨cls,dd,data,sl⟩,ho,hc,m,hd⟩:=id sq
         obtain⟨⟨cls2,dd2,data2,sl2⟩,ho2,hc2,m2,hd2⟩:=id sq'
         simp only at hc hd hc2 hd2
         subst hc hd hc2 hd2
         exact Zj (op:=.Lt) ⟨_,ho,rfl⟩ ⟨_,ho2,rfl⟩ PySem.F.slot_tuple_lt PySem.F.entry_tuple_lt (PySem.F.args_tuple_lt_2 _ _) (cX2 a a' its.toArray its'.toArray m m2 dd dd2 sl sl2 b)
          ⟨ho,ho2,hR,show Value.bool b≠Value.notImplemented/\Q (.bool b) s from⟨(λx=>nomatch x),hq⟩⟩ hu0
def ltD:D->D->M D:=λx y G=>match ltN 40 G x y with
 |some b=>some (.ok (.bl b),G)
 |none=>none
theorem fU9(hu:X.A.units+64<yq):OpD X Z (zL .Lt) ltD:=⟨by
 intro pins s O H x y v u Q I rx ry hE0
 refine hE0.elim λdx dy U G rdx rdy hr p=>?_
 unfold ltD at p
 rcases e:ltN 40 G dx dy with _|b
 ·rw[e]at p;exact p.elim
 ·
   rw[e]at p
   exact eT2 I hr 40 X.A (by lia) rdx rdy rx ry e X.prog X.w X.xe _ ⟨.bl b,H,I,rfl,g8.ok p hr _ ofB⟩⟩
end
noncomputable def bA6:D->Bool
 | .non=>true
 | .bl _=>true
 | .int _=>true
 | .str _=>true
 |_=>false
noncomputable def toV:D->V
 | .bl b=>.bl b
 | .int i=>.int i
 | .str x=>.str x
 |_=>.non
noncomputable def dO2:D->Option Key
 | .int i=>some (.inl i)
 | .str x=>some (.inr x)
 |_=>none
noncomputable def bM4(l:List (Key×D))(k:Key):Option D:=(l.find? λkv=>decide (kv.1=k)).map (·.2)
def inB(x y:D)(G:DH):Option Bool:=match y with
 | .str j=>match x with
   | .str i=>some (!(jI j i 0 j.length 1).isEmpty)
   |_=>none
 | .ref r=>match G[r]? with
   |some (.dct l)=>(dO2 x).map λk=>(bM4 l k).isSome
   |some (.rod _)=>none
   |some (.lst l)=>if bA6 x&&l.all bA6 then some (inV (toV x) (l.map toV))else none
   |some (.rol l)=>if bA6 x&&l.all bA6 then some (inV (toV x) (l.map toV))else none
   |none=>none
 | .tup l=>if bA6 x&&l.all bA6 then some (inV (toV x) (l.map toV))else none
 |_=>none
def inD:D->D->M D:=λx y G=>match inB x y G with
 |some b=>some (.ok (.bl b),G)
 |none=>none
def aW5:D->D->M D:=λx y G=>match inB x y G with
 |some b=>some (.ok (.bl (!b)),G)
 |none=>none
section
variable{X:Cx}{Z:XC}{c:Wc}{U:List Addr}{H:Hp}{G:DH}
theorem cR7{d:D}{v:V}(f:bA6 d=true)(r:j9 c U H d v):v=toV d/\bF0 v=true:=by
 cases d<;>first
  |exact absurd (show false=true from f) jc
  |(unfold j9 at r;subst r;exact⟨rfl,rfl⟩)
theorem cE9:∀ {l:List D} {vs:List V},l.all bA6=true->J0 c U H l vs->vs=l.map toV/\vs.all bF0=true
 |[],_,_,r=>by cases r;exact⟨rfl,rfl⟩
 |d::ds,_,f,r=>by
   obtain⟨v,t,rfl,q,rt⟩:=r
   rw[zB,zg]at f
   obtain⟨e1,e2⟩:=cR7 f.1 q
   obtain⟨e3,e4⟩:=cE9 f.2 rt
   refine⟨by rw[zS,<-e1,<-e3],?_⟩
   rw[zB,e2,e4];rfl
theorem dD7{d:D}{k:Key}{v:V}(e:dO2 d=some k)(r:j9 c U H d v):v=kV k:=by
 cases d<;>first
  |(cases e;unfold j9 at r;exact r)
  |exact J4 e
theorem cF9{k:Key}:∀ {l:List (Key×D)} {kvs:List (Key×V)},aI9 c U H l kvs->match bM4 l k with|some d=>∃v,bF8 kvs k=some v/\j9 c U H d v|none=>bF8 kvs k=none
 |[],_,r=>by cases r;exact rfl
 |(k',d)::t,_,r=>by
  obtain⟨v,kt,rfl,q,rt⟩:=r
  by_cases e:k'=k
  · have h1:bM4 ((k',d)::t) k=some d:=by unfold bM4;simp[e]
    rw[h1]
    exact⟨v,bI6 e,q⟩
  · have h1:bM4 ((k',d)::t) k=bM4 t k:=by unfold bM4;simp[e]
    rw[h1]
    have ih:=cF9 (k:=k) rt
    rw[bK8 e]
    exact ih
theorem cX0{k:Key}{l:List (Key×D)}{kvs:List (Key×V)}(r:aI9 c U H l kvs):(bM4 l k).isSome= (bF8 kvs k).isSome:=by
 have q:=cF9 (k:=k) r
 rcases e:bM4 l k with _|d
 ·rw[e]at q;rw[q];rfl
 ·rw[e]at q;obtain⟨v,q,_⟩:=q;rw[q];rfl
theorem eQ7(hu:X.A.units+64<yq){pins:PNS}{O:St}{s:zm}{x y:V}{v u:ze}{dx dy:D}{b:Bool}{Q:VK}(I:Inv X pins O H s)(hr:J8 (wc X) U G H)(rdx:j9 (wc X) U H dx x)(rdy:j9 (wc X) U H dy y)(rx:M3 x v)(ry:M3 y u)
 (e:inB dx dy G=some b):
 (Q (.bl b) H->zy (zH X.prog X.w) X.A (zL .In v u) (EP X pins O Q) X.xe s)/\(Q (.bl (!b)) H->zy (zH X.prog X.w) X.A (zL .NotIn v u) (EP X pins O Q) X.xe s):=by
 have seq:∀(p:Addr) (l:List D) (vs:List V),y= .ref p->(SqL X.K H p vs\/SqT X.K H p vs)->J0 (wc X) U H l vs->(if (bA6 dx&&l.all bA6)=true then some (inV (toV dx) (l.map toV))else none)=some b->
  (Q (.bl b) H->zy (zH X.prog X.w) X.A (zL .In v u) (EP X pins O Q) X.xe s)/\(Q (.bl (!b)) H->zy (zH X.prog X.w) X.A (zL .NotIn v u) (EP X pins O Q) X.xe s):=by
  intro p l vs hy hq rl e
  split at e
  · rename_i hf
    rw[zg]at hf
    cases e
    obtain⟨e1,e2⟩:=cR7 hf.1 rdx
    obtain⟨e3,e4⟩:=cE9 hf.2 rl
    rw[<-e1,<-e3]
    exact⟨λq=>dO4 pins s O H x y v u Q I rx ry ⟨p,vs,hy,hq,e2,e4,q⟩,λq=>cJ6 pins s O H x y v u Q I rx ry ⟨p,vs,hy,hq,e2,e4,q⟩⟩
  ·exact J4 e
 rcases dy with _|_|_|j|l|i|_|_<;>try (cases e;done)
 ·
   rcases dx with _|_|_|i|_|_|_|_<;>try (cases e;done)
   ·
     cases e
     have e1:=bB8 rdx
     have e2:=bB8 rdy
     exact⟨λq=>dP2 pins s O H x y v u Q I rx ry ⟨i,j,e1,e2,q⟩,λq=>cM1 pins s O H x y v u Q I rx ry ⟨i,j,e1,e2,q⟩⟩
 ·
   unfold j9 at rdy
   obtain⟨a,vs,hy,q,rl⟩:=rdy
   exact seq a l vs hy (.inr q) rl e
 ·
   unfold j9 at rdy
   obtain⟨a,m,hy⟩:=rdy
   rcases g:G[i]? with _|o
   ·unfold inB at e;simp only[g]at e;exact J4 e
   ·
     have ro:=hr.obj i o a g m
     rcases o with l|l|l|l
     ·
       obtain⟨vs,q,rl⟩:=ro
       unfold inB at e;simp only[g]at e
       exact seq a l vs hy (.inl (SqL.of q)) rl e
     ·
       obtain⟨vs,q,rl⟩:=ro
       unfold inB at e;simp only[g]at e
       exact seq a l vs hy (.inl q.sq) rl e
     ·
       obtain⟨kvs,q,rk⟩:=ro
       unfold inB at e;simp only[g]at e
       rcases hk:dO2 dx with _|k
       ·rw[hk]at e;exact J4 e
       ·
         rw[hk]at e
         cases e
         have ek:=dD7 hk rdx
         have dg:dJ5 H a x (bF8 kvs k):=by rw[ek];exact dJ5.k q
         subst hy
         cases ry
         dsimp only
         rw[cX0 rk]
         exact⟨λq=>gA9 (by lia) I dg rx λs' I'=>⟨.bl _,H,I',rfl,q⟩,λq=>eQ4 (by lia) I dg rx λs' I'=>⟨.bl _,H,I',rfl,q⟩⟩
     ·unfold inB at e;simp only[g]at e;exact J4 e
theorem fR6(hu:X.A.units+64<yq):OpD X Z (zL .In) inD:=⟨by
 intro pins s O H x y v u Q I rx ry hE0
 refine hE0.elim λdx dy U G rdx rdy hr p=>?_
 unfold inD at p
 rcases e:inB dx dy G with _|b
 ·rw[e]at p;exact p.elim
 ·rw[e]at p;exact(eQ7 hu I hr rdx rdy rx ry e).1 (g8.ok p hr _ ofB)⟩
theorem dR5(hu:X.A.units+64<yq):OpD X Z (zL .NotIn) aW5:=⟨by
 intro pins s O H x y v u Q I rx ry hE0
 refine hE0.elim λdx dy U G rdx rdy hr p=>?_
 unfold aW5 at p
 rcases e:inB dx dy G with _|b
 ·rw[e]at p;exact p.elim
 ·rw[e]at p;exact(eQ7 hu I hr rdx rdy rx ry e).2 (g8.ok p hr _ ofB)⟩
inductive Ty where
 |int|bool|str|tuple|list|dict
 deriving DecidableEq
noncomputable def Ty.name:Ty->String
 | .int=> "int"| .bool=> "bool"| .str=> "str"| .tuple=> "tuple"| .list=> "list"| .dict=> "dict"
noncomputable def Ty.of(n:String):Option Ty:=if n= "int" then some .int else if n= "bool" then some .bool else if n= "str" then some .str else if n= "tuple" then some .tuple else if n= "list" then some .list else if n= "dict" then some .dict else none
theorem Ty.of_name{n:String}{T:Ty}(h:Ty.of n=some T):n=T.name:=by
 unfold Ty.of at h
 split at h
 ·rename_i e;cases h;exact e
 split at h
 ·rename_i e;cases h;exact e
 split at h
 ·rename_i e;cases h;exact e
 split at h
 ·rename_i e;cases h;exact e
 split at h
 ·rename_i e;cases h;exact e
 split at h
 ·rename_i e;cases h;exact e
 ·exact J4 h
inductive Kd where
 |non|bool|int|str|tuple|list|dict
noncomputable def Kd.is:Kd->Ty->Bool
 | .bool,.int=>true
 | .bool,.bool=>true
 | .int,.int=>true
 | .str,.str=>true
 | .tuple,.tuple=>true
 | .list,.list=>true
 | .dict,.dict=>true
 |_,_=>false
def Kd.name:Kd->String
 | .non=> "NoneType"| .bool=> "bool"| .int=> "int"| .str=> "str"| .tuple=> "tuple"| .list=> "list"| .dict=> "dict"
noncomputable def aW0(G:DH):D->Option Kd
 | .non=>some .non
 | .bl _=>some .bool
 | .int _=>some .int
 | .str _=>some .str
 | .tup _=>some .tuple
 | .ref i=>match G[i]? with
   |some (.lst _)=>some .list
   |some (.rol _)=>some .list
   |some (.dct _)=>some .dict
   |some (.rod _)=>some .dict
   |none=>none
 |_=>none
def cH5:List D->Option (List Ty)
 |[]=>some []
 | .ty n::r=>match Ty.of n,cH5 r with
   |some T,some Ts=>some (T::Ts)
   |_,_=>none
 |_=>none
def o6:List D->M D:=λds G=>match ds with
 |[d,.ty n]=>match aW0 G d,Ty.of n with
   |some k,some T=>some (.ok (.bl (k.is T)),G)
   |_,_=>none
 |[d,.tup l]=>match aW0 G d,cH5 l with
   |some k,some Ts=>some (.ok (.bl (Ts.any k.is)),G)
   |_,_=>none
 |_=>none
theorem eI8(K:zk)(k:Kd)(T:Ty):PySem.W.kitOne K (.type k.name) (.type T.name)=some (k.is T):=by
 cases k<;>cases T<;>rfl
theorem dZ2{A:zK}{E:VSP}{pins:PNS}{O:St}{s:zm}{d:D}{x:V}{v:ze}{k:Kd}(I:Inv X pins O H s)(hr:J8 (wc X) U G H)(r:j9 (wc X) U H d x)(rv:M3 x v)(e:aW0 G d=some k):
 ∃HH:Heap->Prop,PySem.W.KitX X.K v (.type k.name) HH/\HH s.heap/\v≠ .builtin "__main__.__loader__#opaque":=by
 rcases d with _|b|b|b|l|i|_|_<;>try (cases e;done)
 ·cases e;unfold j9 at r;subst r;cases rv;exact⟨_,PySem.W.kitx_none,True.intro,λz=>nomatch z⟩
 ·cases e;unfold j9 at r;subst r;cases rv;exact⟨_,PySem.W.kitx_bool,True.intro,λz=>nomatch z⟩
 ·cases e;unfold j9 at r;subst r;obtain⟨t,rfl⟩:=rv;exact⟨_,PySem.W.kitx_int,True.intro,λz=>nomatch z⟩
 ·cases e;unfold j9 at r;subst r;obtain⟨t,rfl⟩:=rv;exact⟨_,PySem.W.kitx_str,True.intro,λz=>nomatch z⟩
 ·
   cases e
   unfold j9 at r
   obtain⟨a,vs,rfl,q,_⟩:=r
   cases rv
   obtain⟨its,_,⟨o,h1,h2,_⟩,_⟩:=I.tuple q
   exact⟨_,PySem.W.kitx_tuple,⟨o,h1,h2⟩,λz=>nomatch z⟩
 ·
   unfold j9 at r
   obtain⟨a,m,rfl⟩:=r
   cases rv
   unfold aW0 at e
   rcases g:G[i]? with _|o
   ·simp only[g]at e;exact J4 e
   ·
     have ro:=hr.obj i o a g m
     simp only[g]at e
     rcases o with l|l|l|l
     ·
       cases e
       obtain⟨vs,q,_⟩:=ro
       obtain⟨its,_,⟨o,n,h1,h2,_⟩,_⟩:=I.list (SqL.of q)
       exact⟨_,Xb,⟨o,h1,h2⟩,λz=>nomatch z⟩
     ·
       cases e
       obtain⟨vs,q,_⟩:=ro
       obtain⟨its,_,⟨o,n,h1,h2,_⟩,_⟩:=I.list q.sq
       exact⟨_,Xb,⟨o,h1,h2⟩,λz=>nomatch z⟩
     ·
       cases e
       obtain⟨kvs,q,_⟩:=ro
       obtain⟨_,_,vs,_,o,es,ep,h1,h2,_⟩:=(show W7 X.prog X.w H s.heap a (.dK kvs)from I.hok a _ q)
       exact⟨_,Xc,⟨o,h1,h2.1⟩,λz=>nomatch z⟩
     ·
       cases e
       obtain⟨kvs,ob,q,_⟩:=ro
       obtain⟨_,_,_,vs,_,o,es,ep,h1,h2,_⟩:=(show W7 X.prog X.w H s.heap a (.frz ob (.dK kvs))from I.hok a _ q)
       exact⟨_,Xc,⟨o,h1,h2.1⟩,λz=>nomatch z⟩
theorem dG5:∀ {l:List D} {vs:List V} {us:List ze} {Ts:List Ty},cH5 l=some Ts->J0 c U H l vs->J7 vs us->us=Ts.map λT=>.type T.name
 |[],_,_,_,e,r,q=>by cases e;cases r;cases q;rfl
 |d::ds,_,_,Ts,e,r,q=>by
   obtain⟨v,t,rfl,r0,rt⟩:=r
   cases q with
   |cons q0 qt=>
     rcases d with _|_|_|_|_|_|_|n<;>try (cases e;done)
     ·
       replace e:(match Ty.of n,cH5 ds with|some T,some Ts=>some (T::Ts)|_,_=>none)=some Ts:=e
       rcases h1:Ty.of n with _|T
       ·rw[h1]at e;exact J4 e
       ·
         rcases h2:cH5 ds with _|Ts'
         ·rw[h1,h2]at e;exact J4 e
         ·
           rw[h1,h2]at e
           cases e
           unfold j9 at r0
           subst r0
           rw[dG5 h2 rt qt,zS,show _=Value.type n from q0,Ty.of_name h1]
theorem dG0(K:zk)(k:Kd):∀Ts:List Ty,PySem.W.kitAny K (.type k.name) (Ts.map λT=>.type T.name)=some (Ts.any k.is)
 |[]=>rfl
 |T::Ts=>by
   have ih:=dG0 K k Ts
   cases k<;>cases T<;>first
    |rfl
    |exact ih
theorem dO8:aE6 X Z (.builtin "isinstance") o6:=⟨by
 intro pins s O H xs us Q I r hE0
 obtain⟨ds,U,G,rl,hr,p⟩:=hE0
 rcases ds with _|⟨d,_|⟨_|_|_|_|l|_|_|n,_|⟨_,_⟩⟩⟩<;>try exact p.elim
 all_goals (delta o6 at p;dsimp only at p)
 · obtain⟨v,t,rfl,r0,v1,t1,rfl,r1,e⟩:=rl
   cases e
   obtain⟨u,u',rfl,ru,ru'⟩:=bV5 r
   unfold j9 at r1
   obtain⟨a,vs,rfl,q,rll⟩:=r1
   cases ru'
   rcases hk:aW0 G d with _|k
   ·rw[hk]at p;exact p.elim
   ·
     rcases hT:cH5 l with _|Ts
     ·rw[hk,hT]at p;exact p.elim
     ·
       rw[hk,hT]at p
       obtain⟨HH,kx,hh,hne⟩:=dZ2 (A:=X.A) (E:=X.xe) I hr r0 ru hk
       obtain⟨its,rr,⟨⟨cls,dd,data,sl⟩,h1,h2,n,h3⟩,_⟩:=I.tuple q
       simp only at h2 h3
       subst h2 h3
       exact PySem.W.kia_tup kx I.kIn hh h1 (by rw[dG5 hT rll rr];exact dG0 X.K k Ts) hne λtk=>⟨.bl _,H,I.tok tk,rfl,g8.ok p hr _ ofB⟩
 · obtain⟨v,t,rfl,r0,v1,t1,rfl,r1,e⟩:=rl
   cases e
   obtain⟨u,u',rfl,ru,ru'⟩:=bV5 r
   unfold j9 at r1
   subst r1
   cases ru'
   rcases hk:aW0 G d with _|k
   ·rw[hk]at p;exact p.elim
   ·
     rcases hT:Ty.of n with _|T
     ·rw[hk,hT]at p;exact p.elim
     ·
       rw[hk,hT]at p
       rw[Ty.of_name hT]
       obtain⟨HH,kx,hh,hne⟩:=dZ2 (A:=X.A) (E:=X.xe) I hr r0 ru hk
       exact PySem.W.kia_one kx I.kIn hh (eI8 X.K k T) hne λtk=>⟨.bl _,H,I.tok tk,rfl,g8.ok p hr _ ofB⟩⟩
end
theorem dI2{c:Wc}{U:List Addr}{H:Hp}{l:List D}{vs:List V}{i:Int}{d:D}(r:J0 c U H l vs)(e:atI l i=some d):∃v,atI vs i=some v/\j9 c U H d v:=by
 unfold atI at e ⊢
 rw[<-r.length]
 cases h:ixN l.length i with
 |none=>rw[h]at e;cases e
 |some j=>
   rw[h]at e
   obtain⟨v,h1,h2⟩:=r.get e
   exact⟨v,h1,h2⟩
def ixD:D->D->M D:=λx y=>match x,y with
 | .tup l,.int i=>bB7 (atI l i)
 | .str z,.int i=>if z.length<=zh then do
    let c <-bB7 (atI z.cps.toList i)
    pure (.str ⟨#[c]⟩)
   else M.stuck
 | .ref r,.int i=>do
   let l <-V6 r >>= listOf
   bB7 (atI l i)
 |_,_=>M.stuck
section
variable{X:Cx}{Z:XC}{a b e:Expr}{fa fb:Fe}{pos:Pos}
def IxD(X:Cx)(Z:XC)(o:D->D->M D):Prop:=IxR X (bN9 (wc X) Z o)
theorem eV9{o:D->D->M D}(ho:IxD X Z o)(ha:DE X Z a fa)(hb:DE X Z b fb)(hs:cM0 b):DE X Z (.Subscript a b pos) (d7 o fa fb):=DE.of (fW7 ho ha.h hb.h hs) bI2
theorem cQ2{c:Wc}{U:List Addr}{H:Hp}{G:DH}{r:Option D}{K:D->List Addr->DH->Hp->Prop}(h:J8 c U G H)(p:g8 c Z U H (bB7 r G) K):∃d,r=some d/\K d U G H:=by
 cases r with
 |none=>exact p.elim
 |some d=>exact⟨d,rfl,g8.ok p h⟩
theorem fR3:IxD X Z ixD:=IxR.mono (eE6.or (ix_tup.or ix_str)) λx y H Q hE0=>hE0.elim λdx dy U G rx ry hr p=>by
 rcases dx with _|_|_|_|_|_|_|_<;>rcases dy with _|_|_|_|_|_|_|_<;>first
  |exact p.elim
  |skip
 · rename_i z i
   refine .inr (.inr ?_)
   unfold ixD at p
   dsimp only at p
   split at p
   · rename_i hz
     obtain⟨c,ec,p2⟩:=aT7 p
     exact⟨z,i,c,bB8 rx,aJ2 ry,hz,ec,g8.ok p2 hr _ ofS⟩
   ·exact p.elim
 · rename_i l i
   refine .inr (.inl ?_)
   unfold j9 at rx
   obtain⟨a,vs,rfl,q,rl⟩:=rx
   obtain⟨d,ed,k⟩:=cQ2 hr p
   obtain⟨v,ev,rv⟩:=dI2 rl ed
   exact⟨a,vs,i,v,rfl,aJ2 ry,q,ev,k v rv⟩
 · rename_i r i
   refine .inl ?_
   obtain⟨l,a,vs,rfl,rl,p2,hq⟩:=bD7 (d:=.ref r) (f:=λl=>bB7 (atI l i)) hr rx p
   obtain⟨d,ed,k⟩:=cQ2 hr p2
   obtain⟨v,ev,rv⟩:=dI2 rl ed
   rcases hq with⟨z,_⟩|⟨_,_,_,⟨_,q⟩|⟨_,q⟩⟩
   ·cases z
   ·exact⟨a,vs,i,v,rfl,aJ2 ry,SqL.of q,ev,k v rv⟩
   ·exact⟨a,vs,i,v,rfl,aJ2 ry,q.sq,ev,k v rv⟩
theorem fQ5(ha:DE X Z a fa)(hb:DE X Z b fb)(hs:cM0 b):DE X Z (.Subscript a b pos) (d7 ixD fa fb):=eV9 fR3 ha hb hs
def cutD(xs:List D)(lo hi:Option Int):List D:=(xs.drop (HT.sIx xs.length 0 lo)).take (HT.sIx xs.length xs.length hi-HT.sIx xs.length 0 lo)
abbrev Fo:=DSt->M (Option Int)
def Q6:Fo:=λ_=>pure none
def T5(f:Fe):Fo:=λO=>do
 match <-f O with
 | .int i=>pure (some i)
 |_=>M.stuck
def dH5(c:Wc)(Z:XC)(f:Fo):TO:=λO H Q=>∃X9 U G,N6 c U H X9 O/\J8 c U G H/\g8 c Z U H (f X9 G) λo _ _ H'=>Q o H'
theorem dH5.elim{c:Wc}{Z:XC}{P:Prop}{f:Fo}{O:St}{H:Hp}{Q:Option Int->Hp->Prop}(h:dH5 c Z f O H Q)(k:∀X9 U G,N6 c U H X9 O->J8 c U G H->g8 c Z U H (f X9 G) (λo _ _ H'=>Q o H')->P):P:=by
 obtain⟨e0,e1,e2,e3,e4,e5⟩:=h
 exact k e0 e1 e2 e3 e4 e5
structure DOp(X:Cx)(Z:XC)(e:Option Expr)(f:Fo):Prop where
 h:PO X e (dH5 (wc X) Z f)
theorem PO.mono{e:Option Expr}{t t':TO}(h:PO X e t)(k:∀ O H Q,t' O H Q->t O H Q):PO X e t':=λpins s O H Q I q=>h pins s O H Q I (k O H Q q)
theorem DOp.of{e:Option Expr}{f:Fo}{t:TO}(h:PO X e t)(k:∀ O H Q,dH5 (wc X) Z f O H Q->t O H Q):DOp X Z e f:=⟨PO.mono h k⟩
theorem eD9:DOp X Z none Q6:=DOp.of eN4 λO H Q hE0=>hE0.elim λX9 U G s h p=>g8.ok p h
theorem eN5(h:DE X Z e fa):DOp X Z (some e) (T5 fa):=DOp.of (eK5 h.h) λO H Q hE0=>hE0.elim λX9 U G s h p=>⟨X9,U,G,s,h,(g8.bind p).mono λd X0 G1 H1 x1 h1 p1 v rv=>by
 cases d with
 |int i=>exact⟨i,aJ2 rv,g8.ok p1 h1⟩
 |_=>exact p1.elim⟩
def slD:D->Option Int->Option Int->M D:=λx lo hi=>match x with
 | .tup l=>pure (.tup (cutD l lo hi))
 | .ref r=>do
   let l <-V6 r >>= listOf
   S6 (.lst (cutD l lo hi))
 |_=>M.stuck
def SlD(X:Cx)(Z:XC)(o:D->Option Int->Option Int->M D):Prop:=
 SlR X λx lo hi H Q=>∃dx U G,j9 (wc X) U H dx x/\J8 (wc X) U G H/\g8 (wc X) Z U H (o dx lo hi G) λd X2 _ H'=>∀v,j9 (wc X) X2 H' d v->Q v H'
theorem SlR.mono{r r':V->Option Int->Option Int->Hp->VK->Prop}(h:SlR X r)(k:∀x lo hi H Q,r' x lo hi H Q->r x lo hi H Q):SlR X r':=λpins s O H x v vl vu lo hi sl Q I rx hs pl pu q=>h pins s O H x v vl vu lo hi sl Q I rx hs pl pu (k x lo hi H Q q)
theorem bD9{prog:zE}{w:zP}{A:zK}{E:VSP}{s:zm}{t sl:Addr}{items:Array ze}{vl vu:ze}{lo hi:Option Int}{Q:VSP}(ht:IsTup s.heap t items)(hs:s.heap.IsSliceOf sl vl vu .none)(pl:IsPart vl lo)(pu:IsPart vu hi)
 (hw:HT.sIx items.size 0 lo=0/\HT.sIx items.size items.size hi=items.size) (h:Q (.ref t) s):zy (zH prog w) A (getItem (.ref t) (.ref sl)) Q E s:=by
 obtain⟨os,hos,hcs,hds⟩:=id hs
 have hTs:s.TypeIs (.ref sl) "slice":=⟨os,hos,hcs⟩
 unfold getItem
 try with_reducible refine jK ?_
 first|refine za (zt ?_)|skip
 refine za (Yb ht.typeIs (by decide) ?_)
 refine za (js (name:=jz "__getitem__") ht.typeIs zX
  (jH zX ht.typeIs ZD ?_ (ZS _ _)))
 show zy _ _ (xf (.ref t) >>= _) _ _ s
 refine za (Xq ht ?_)
 refine za (Zi hTs ?_)
 rw[if_pos (by decide)]
 refine za (HT.sliceApplied_gen hs pl pu ?_)
 have hyes:(((HT.sIx items.size 0 lo:Nat):Int)==0&&(1:Int)==1&&(HT.sIx items.size items.size hi-HT.sIx items.size 0 lo)==items.size)=true:=by
  rw[hw.1,hw.2];simp
 show zy _ _ (if (((HT.sIx items.size 0 lo:Nat):Int)==0&&(1:Int)==1&&(HT.sIx items.size items.size hi-HT.sIx items.size 0 lo)==items.size)=true then _ else _) _ _ s
 rw[if_pos hyes]
 unfold JA
 refine za (za (Zi ht.typeIs (zt ?_)))
 rw[if_pos (by decide)]
 exact za (ZP (zt ⟨_,rfl,zt h⟩))
def fZ6(K:zk):V->Option Int->Option Int->Hp->VK->Prop:=λx lo hi H Q=>∃a xs,x= .ref a/\SqT K H a xs/\(HT.sIx xs.length 0 lo=0/\HT.sIx xs.length xs.length hi=xs.length)/\Q (.ref a) H
theorem eM8:SlR X (fZ6 X.K):=by
 intro pins s O H x v vl vu lo hi sl Q I rx hs pl pu h
 obtain⟨a,xs,rfl,hx,hw,q⟩:=h
 cases rx
 obtain⟨its,r,ht,hz⟩:=I.tuple hx
 have hlen:its.toArray.size=xs.length:=by rw[zr];exact r.length.symm
 exact⟨"tuple",_,zX.lookup,ht.typeIs,bD9 ht hs pl pu (by rw[hlen];exact hw) ⟨.ref a,H,I,rfl,q⟩⟩
theorem cL9{c:Wc}{U:List Addr}{H:Hp}{l:List D}{vs:List V}(r:J0 c U H l vs)(lo hi:Option Int):J0 c U H (cutD l lo hi) (cC9 vs lo hi):=by
 unfold cutD cC9
 rw[r.length]
 exact(r.drop _).take _
theorem fY1:SlD X Z slD:=SlR.mono (sl_tup.or (eM8.or eN2)) λx lo hi H Q ⟨dx,U,G,rx,hr,p⟩=>by
 rcases dx with _|_|_|_|l|r|_|_<;>try (exact p.elim;done)
 ·
   unfold j9 at rx
   obtain⟨a,vs,rfl,q,rl⟩:=rx
   by_cases hw:HT.sIx vs.length 0 lo=0/\HT.sIx vs.length vs.length hi=vs.length
   · refine .inr (.inl ⟨a,vs,rfl,q,hw,bN8 hr q ?_ p⟩)
     have e:cC9 vs lo hi=vs:=by unfold cC9;rw[hw.1,hw.2];simp
     have:=cL9 rl lo hi
     rw[e]at this
     exact this
   ·exact .inl ⟨a,vs,rfl,q,hw,λp' hp=>aY5 hr (cL9 rl lo hi) p p' hp⟩
 ·
   obtain⟨l,a,vs,rfl,rl,p2,hq⟩:=bD7 (d:=.ref r) (f:=λl=>S6 (.lst (cutD l lo hi))) hr rx p
   have hs:SqL (wc X).K H a vs:=by
    rcases hq with⟨z,_⟩|⟨_,_,_,⟨_,q⟩|⟨_,q⟩⟩
    ·cases z
    ·exact SqL.of q
    ·exact q.sq
   exact .inr (.inr ⟨a,vs,rfl,hs,λp' hp=>aE9 hr (cL9 rl lo hi) p2 p' hp⟩)
variable{lo hi:Option Expr}{fl fh:Fo}{p2:Pos}
theorem bN1{prog:zE}{w:zP}{A:zK}{E:VSP}{s:zm}{sl:Addr}{t:Tok}{n:Nat}{Q:Int×Int×Nat->zm->Prop}(hs:s.heap.IsSliceOf sl .none .none (.int (-1) t))
 (h:Q ((n:Int)-1, -1,n) s):zy (zH prog w) A (yz (.ref sl) (pure (n:Int))) Q E s:=by
 obtain⟨os,hos,hcs,hds⟩:=id hs
 unfold yz Zt
 refine za (za (jj hos hds (x:=.none) rfl (za (jj hos hds (x:=.none) rfl (za (jj hos hds (x:=.int (-1) t) rfl (zt ?_)))))))
 refine za (slicePart_int ?_)
 show zy _ _ (if ((-1:Int)==0)=true then _ else _) _ _ s
 rw[if_neg (by decide)]
 refine za (Zw (za (Zw (za (zt ?_)))))
 have e1:jN none none (-1) (n:Int)= ((n:Int)-1, -1):=by simp[jN]
 have e2:jp ((n:Int)-1) (-1) (-1)=n:=by
  unfold jp
  rw[if_neg (by decide)]
  by_cases h0:n=0
  ·subst h0;rfl
  · rw[if_pos (by lia)]
    have e:((n:Int)-1 - -1-1) / (- -1)+1=n:=by
     rw[show (- -1:Int)=1 by decide,JG];lia
    rw[e];simp
 show zy _ _ (match jN none none (-1) (n:Int) with|(lo,hi)=>pure (lo,(-1:Int),jp lo hi (-1))) _ _ s
 rw[e1]
 show zy _ _ (pure ((n:Int)-1,(-1:Int),jp ((n:Int)-1) (-1) (-1))) _ _ s
 rw[e2]
 exact zt h
theorem dV7(l:List ze):((jB l.length).filterMap fun(k:Nat)=>l.toArray[(((l.length:Nat):Int)-1+(k:Int)*(-1)).toNat]?)=l.reverse:=by
 have gen:∀n,n<=l.length->((jB n).filterMap fun(k:Nat)=>l.toArray[(((l.length:Nat):Int)-1+(k:Int)*(-1)).toNat]?)=l.reverse.take n:=by
  intro n
  induction n with
  |zero=>intro _;simp
  |succ n ih=>
    intro hn
    rw[Jd,List.filterMap_append,ih (by lia)]
    have hlt:n<l.reverse.length:=by simp;lia
    rw[List.take_succ_eq_append_getElem hlt]
    congr 1
    have e1:(((l.length:Nat):Int)-1+(n:Int)*(-1)).toNat=l.length-1-n:=by lia
    have hlt2:l.length-1-n<l.length:=by omega
    show List.filterMap _ [n]=_
    rw[xx,e1]
    have e2:l.toArray[l.length-1-n]? =some l[l.length-1-n]:=by simp[hlt2]
    rw[e2]
    simp
 have:=gen l.length (zd _)
 rw[this]
 rw[yB (by simp)]
theorem bK9{prog:zE}{w:zP}{A:zK}{E:VSP}{s:zm}{t sl:Addr}{tk:Tok}{its:List ze}{Q:VSP}(ht:IsTup s.heap t its.toArray)(hs:s.heap.IsSliceOf sl .none .none (.int (-1) tk))
 (h:Q (.ref s.heap.objs.size) {s with heap:=s.heap.push {cls:=.type "tuple",data:=.seq its.reverse.toArray}}) (hsz:its.length<=zh):zy (zH prog w) A (getItem (.ref t) (.ref sl)) Q E s:=by
 have htake:sizeOk (.seq its.reverse.toArray):=by
  show its.reverse.toArray.size<=zh
  rw[zr,xv];exact hsz
 obtain⟨os,hos,hcs,hds⟩:=id hs
 have hTs:s.TypeIs (.ref sl) "slice":=⟨os,hos,hcs⟩
 unfold getItem
 try with_reducible refine jK ?_
 first|refine za (zt ?_)|skip
 refine za (Yb ht.typeIs (by decide) ?_)
 refine za (js (name:=jz "__getitem__") ht.typeIs zX
  (jH zX ht.typeIs ZD ?_ (ZS _ _)))
 show zy _ _ (xf (.ref t) >>= _) _ _ s
 refine za (Xq ht ?_)
 refine za (Zi hTs ?_)
 rw[if_pos (by decide)]
 refine za (bN1 hs ?_)
 show zy _ _ (if ((((its.toArray.size:Nat):Int)-1)==0&&(-1:Int)==1&&its.toArray.size==its.toArray.size)=true then _ else _) _ _ s
 rw[if_neg (by simp)]
 have e:=dV7 its
 have e2:((jB its.toArray.size).filterMap fun(k:Nat)=>its.toArray[(((its.toArray.size:Nat):Int)-1+(k:Int)*(-1)).toNat]?)=its.reverse:=by
  rw[zr];exact e
 rw[e2]
 first
  |exact za (m:=jt _) (jA (zt ⟨_,rfl,zt h⟩) htake)
  |exact za (m:=jt _) (jA (za (zt (zt ⟨_,rfl,zt h⟩))) htake)
  |exact za (za (m:=jt _) (jA (zt (zt ⟨_,rfl,zt h⟩)) htake))
  |exact za (za (m:=jt _) (jA (zt ⟨_,rfl,zt h⟩) htake))
def fO8:D->M D:=λx=>match x with
 | .tup l=>pure (.tup l.reverse)
 | .ref r=>do
   let l <-V6 r >>= listOf
   S6 (.lst l.reverse)
 |_=>M.stuck
end
noncomputable def bU1(r:Nat)(o:DO):M Unit:=λG=>some (.ok (),G.set r o)
noncomputable def bS9(l:List (Key×D))(k:Key)(d:D):List (Key×D):=if l.any (λkv=>decide (kv.1=k))then l.map (λkv=>if kv.1=k then (kv.1,d)else kv)else l++[(k,d)]
def dB0:D->D->D->M Unit:=λo i d=>match o with
 | .ref r=>do
   match <-V6 r with
   | .lst l=>match i with
     | .int k=>match ixN l.length k with
       |some j=>bU1 r (.lst (l.set j d))
       |none=>M.stuck
     |_=>M.stuck
   | .dct l=>match dO2 i with
     |some k=>if l.length<zh then bU1 r (.dct (bS9 l k d))else M.stuck
     |none=>M.stuck
   | .rol _=>M.stuck
   | .rod _=>M.stuck
 |_=>M.stuck
def bT6(fo fi:Fe):Fg:=λd O=>do
 let o <-fo O
 let i <-fi O
 let _ <-dB0 o i d
 pure O
section
variable{X:Cx}{Z:XC}{c:Wc}{U:List Addr}{H:Hp}{G:DH}
theorem eB2{k:Key}{d:D}{v:V}(rv:j9 c U H d v):∀ {l:List (Key×D)} {kvs:List (Key×V)},aI9 c U H l kvs->aI9 c U H (bS9 l k d) (bP1 kvs k v):=by
 have any_eq:∀ {l:List (Key×D)} {kvs:List (Key×V)},aI9 c U H l kvs->(l.any λkv=>decide (kv.1=k))= (kvs.any λkv=>decide (kv.1=k)):=by
  intro l
  induction l with
  |nil=>intro kvs r;cases r;rfl
  |cons p t ih=>
    intro kvs r
    obtain⟨v',kt,rfl,_,rt⟩:=r
    rw[jq,jq,ih rt]
 have map_eq:∀ {l:List (Key×D)} {kvs:List (Key×V)},aI9 c U H l kvs->aI9 c U H (l.map λkv=>if kv.1=k then (kv.1,d)else kv) (kvs.map λkv=>if kv.1=k then (kv.1,v)else kv):=by
  intro l
  induction l with
  |nil=>intro kvs r;cases r;rfl
  |cons p t ih=>
    intro kvs r
    obtain⟨k',d'⟩:=p
    obtain⟨v',kt,rfl,q,rt⟩:=r
    rw[zS,zS]
    by_cases e:k'=k
    · simp only[e,if_true]
      exact⟨v,_,rfl,rv,ih rt⟩
    · simp only[e,if_false]
      exact⟨v',_,rfl,q,ih rt⟩
 have app_eq:∀ {l:List (Key×D)} {kvs:List (Key×V)},aI9 c U H l kvs->aI9 c U H (l++[(k,d)]) (kvs++[(k,v)]):=by
  intro l
  induction l with
  |nil=>intro kvs r;cases r;exact⟨v, [],rfl,rv,rfl⟩
  |cons p t ih=>
    intro kvs r
    obtain⟨v',kt,rfl,q,rt⟩:=r
    exact⟨v',_,rfl,q,ih rt⟩
 intro l kvs r
 unfold bS9 bP1
 rw[any_eq r]
 split
 ·exact map_eq r
 ·exact app_eq r
theorem aI9.length:∀ {l:List (Key×D)} {kvs:List (Key×V)},aI9 c U H l kvs->l.length=kvs.length
 |[],_,r=>by cases r;rfl
 |_::_,_,r=>by obtain⟨_,_,rfl,_,t⟩:=r;simp[aI9.length t]
theorem cP9{r:Nat}{a:Addr}{o o':DO}{u:HO}{Q:List Addr->DH->Hp->Prop}(h:J8 c U G H)(g:G[r]? =some o)(n:¬aT9 (some o))(m:U[r]? =some a)(n':¬aT9 (some o'))(ho:∀x:Ext U H U (upd H a u),aR6 c U (upd H a u) a o')
 (p:g8 c Z U H (bU1 r o' G) λ_ X2 G' H'=>Q X2 G' H'):Q U (G.set r o') (upd H a u):=by
 obtain⟨u',e,n1,n2⟩:=(h.obj r o a g m).some_of n
 have x:Ext U H U (upd H a u):=Ext.mut (jC m) e n1 n2 u
 exact p U _ x (h.set g n m x n' (ho x))
def eF1(c:Wc)(Z:XC)(f:D->D->D->M Unit):eF4:=λo i v H Q=>∃d1 d2 d3 U G,j9 c U H d1 o/\j9 c U H d2 i/\j9 c U H d3 v/\J8 c U G H/\g8 c Z U H (f d1 d2 d3 G) λ_ _ _ H'=>Q H'
theorem fG9(hu:X.A.units+64<yq):fF7 X (eF1 (wc X) Z dB0):=by
 intro pins s O H o i v ov iv u Q I ro ri rv hE0
 obtain⟨d1,d2,d3,U,G,r1,r2,r3,hr,p⟩:=hE0
 rcases d1 with _|_|_|_|_|r|_|_<;>try (exact p.elim;done)
 ·
   unfold j9 at r1
   obtain⟨a,m,rfl⟩:=r1
   obtain⟨ob,g,p1⟩:=U6 p
   have rob:=hr.obj r ob a g m
   rcases ob with l|l|l|l
   ·
     obtain⟨vs,ea,rl⟩:=rob
     rcases d2 with _|_|k|_|_|_|_|_<;>try (exact p1.elim;done)
     ·
       dsimp only at p1
       rcases hk:ixN l.length k with _|j
       ·simp only[hk]at p1;exact p1.elim
       ·
         simp only[hk]at p1
         exact dT5 pins s O H (.ref a) i v ov iv u Q I ro ri rv ⟨a,vs,k,j,rfl,aJ2 r2,ea,by rw[<-rl.length];exact hk,cP9 (o':=.lst (l.set j d3)) (Q:=λ_ _ H'=>Q H') hr g (λz=>z) m (λz=>z) (λx=>⟨_,T7,(rl.mono x).set (r3.mono x) j⟩) p1⟩
   ·exact p1.elim
   ·
     obtain⟨kvs,ea,rk⟩:=rob
     dsimp only at p1
     rcases hk:dO2 d2 with _|k
     ·simp only[hk]at p1;exact p1.elim
     ·
       simp only[hk]at p1
       split at p1
       · rename_i hz
         have ei:=dD7 hk r2
         subst ei
         cases ro
         refine dP6 (by lia) I (eI3.k ea (by rw[<-rk.length];exact hz)) ri rv λs' I'=>⟨_,I',?_⟩
         exact cP9 (o':=.dct (bS9 l k d3)) (Q:=λ_ _ H'=>Q H') hr g (λz=>z) m (λz=>z) (λx=>⟨_,T7,eB2 (r3.mono x) (rk.mono x)⟩) p1
       ·exact p1.elim
   ·exact p1.elim
variable{a b e o i:Expr}{fa fb fo fi:Fe}{pos:Pos}
theorem fI4(hu:X.A.units+64<yq)(ho:DE X Z o fo)(hi:DE X Z i fi)
 (ha:∀v,assign (.Subscript o i pos) X.env v= (do
   let ov <-holding [v] (eval o X.env)
   let iv <-holding [v,ov] (eval i X.env)
   standAt pos
   holding [v,ov,iv] (setItem ov iv v)
   release [v,ov,iv] [])):DG X Z (.Subscript o i pos) (bT6 fo fi):=
 DG.of (fA1 ho.h hi.h (fG9 hu) ha) λv O H Q hE0=>hE0.elim λd X9 U G r s h p=>⟨X9,U,G,s,h,(g8.bind p).mono λd1 X0 G1 H1 x1 h1 p1 v1 r1=>
  ⟨X9,X0,G1,s.mono x1,h1,(g8.bind p1).mono λd2 WU G2 H2 x2 h2 p2 v2 r2=>⟨d1,d2,d,WU,G2,r1.mono x2,r2,r.mono (x1.trans x2),h2,(g8.bind p2).mono λ_ μ3 G3 H3 x3 h3 p3=>g8.ok p3 h3 O (s.mono (x1.trans (x2.trans x3)))⟩⟩⟩
def aK8:Fe:=λ_=>S6 (.dct [])
theorem dZ9:DE X Z (.Dict [] [] pos) aK8:=DE.of dQ7 λO H Q hE0=>hE0.elim λX9 U G s h p q hq=>by
 have k:Ext U H (U++[q]) (upd H q (.dK [])):=Ext.add hq _
 refine p (U++[q]) _ k (h.new hq ⟨[],T7,rfl⟩) _ ?_
 unfold j9
 exact⟨q,by rw[<-h.len];simp,rfl⟩
def X4:D->M Unit:=λx=>match x with
 | .ref r=>do
   match <-V6 r with
   | .lst _=>pure ()
   |_=>M.stuck
 |_=>M.stuck
noncomputable def mtE(t:D->M Unit)(m:D->List D->M D)(fo:Fe)(fs:DSt->M (List D)):Fe:=λO=>do
 let x <-fo O
 let _ <-t x
 let xs <-fs O
 m x xs
def lstM(r:Nat):M (List D):=do
 match <-V6 r with
 | .lst l=>pure l
 |_=>M.stuck
def aR3:D->List D->M D:=λx xs=>match x,xs with
 | .ref r, [y]=>do
   let l <-lstM r
   if l.length<zh then do
    let _ <-bU1 r (.lst (l++[y]))
    pure .non
   else M.stuck
 |_,_=>M.stuck
def aQ4:D->List D->M D:=λx xs=>match x,xs with
 | .ref r, [.ref q]=>do
   let l <-lstM r
   let k <-lstM q
   if l.length+k.length<=zh then do
    let _ <-bU1 r (.lst (l++k))
    pure .non
   else M.stuck
 |_,_=>M.stuck
def eO5:D->List D->M D:=λx xs=>match x,xs with
 | .ref r, []=>do
   let l <-lstM r
   match l.getLast? with
   |some y=>do
     let _ <-bU1 r (.lst l.dropLast)
     pure y
   |none=>M.stuck
 |_,_=>M.stuck
theorem bC9{α:Type}{r:Nat}{a:Addr}{f:List D->M α}{K:α->List Addr->DH->Hp->Prop}(h:J8 c U G H)(m:U[r]? =some a)(p:g8 c Z U H ((lstM r >>= f) G) K):
 ∃l vs,G[r]? =some (.lst l)/\H a=some (.lst vs)/\J0 c U H l vs/\g8 c Z U H (f l G) K:=by
 have p':g8 c Z U H ((V6 r >>= λo=>(match o with| .lst l=>pure l|_=>M.stuck:M (List D)) >>= f) G) K:=by rw[<-M.bind_assoc];exact p
 obtain⟨o,g,p2⟩:=U6 p'
 have ro:=h.obj r o a g m
 rcases o with l|_|_|_<;>try (exact p2.elim;done)
 ·obtain⟨vs,e,rl⟩:=ro;exact⟨l,vs,g,e,rl,p2⟩
def MtD(X:Cx)(Z:XC)(id:String)(m:D->List D->M D):Prop:=
 MtR X id λx xs H Q=>∃d ds U G,j9 (wc X) U H d x/\J0 (wc X) U H ds xs/\J8 (wc X) U G H/\g8 (wc X) Z U H (m d ds G) λd X2 _ H'=>∀v,j9 (wc X) X2 H' d v->Q v H'
theorem bW3{α:Type}{r:Nat}{a:Addr}{l l':List D}{vs':List V}{f:M α}{K:α->List Addr->DH->Hp->Prop}(h:J8 c U G H)(g:G[r]? =some (.lst l))(m:U[r]? =some a)(rl:∀x:Ext U H U (upd H a (.lst vs')),J0 c U (upd H a (.lst vs')) l' vs')
 (p:g8 c Z U H ((bU1 r (.lst l') >>= λ_=>f) G) K):Ext U H U (upd H a (.lst vs'))/\J8 c U (G.set r (.lst l')) (upd H a (.lst vs'))/\g8 c Z U (upd H a (.lst vs')) (f (G.set r (.lst l'))) K:=by
 obtain⟨u',e,n1,n2⟩:=(h.obj r _ a g m).some_of (λz=>z)
 have x:Ext U H U (upd H a (.lst vs')):=Ext.mut (jC m) e n1 n2 _
 have h':J8 c U (G.set r (.lst l')) (upd H a (.lst vs')):=h.set g (λz=>z) m x (λz=>z) ⟨vs',T7,rl x⟩
 exact⟨x,h',g8.from p x⟩
theorem dN6:MtD X Z "list.append" aR3:=by
 intro pins s O H x xs v us Q I rx rs hE0
 obtain⟨d,ds,U,G,rd,rds,hr,p⟩:=hE0
 rcases d with _|_|_|_|_|r|_|_<;>try (exact p.elim;done)
 ·
   unfold j9 at rd
   obtain⟨a,m,rfl⟩:=rd
   rcases ds with _|⟨y,t⟩
   ·exact p.elim
   ·
     rcases t with _|⟨_,_⟩
     ·
       obtain⟨yv,tv,rfl,ry,e⟩:=rds
       cases e
       obtain⟨l,vs,g,ea,rl,p1⟩:=bC9 hr m p
       split at p1
       · rename_i hz
         obtain⟨x1,h1,p2⟩:=bW3 (l':=l++[y]) (vs':=vs++[yv]) hr g m (λx=>(rl.mono x).append (J0.cons (ry.mono x) J0.nil)) p1
         exact cG5 pins s O H (.ref a) [yv] v us Q I rx rs ⟨a,vs,yv,rfl,rfl,ea,by rw[<-rl.length];exact hz,g8.ok p2 h1 _ ofN⟩
       ·exact p1.elim
     ·exact p.elim
theorem dL9:MtD X Z "list.extend" aQ4:=by
 intro pins s O H x xs v us Q I rx rs hE0
 obtain⟨d,ds,U,G,rd,rds,hr,p⟩:=hE0
 rcases d with _|_|_|_|_|r|_|_<;>try (exact p.elim;done)
 ·
   unfold j9 at rd
   obtain⟨a,m,rfl⟩:=rd
   rcases ds with _|⟨y,t⟩
   ·exact p.elim
   ·
     rcases t with _|⟨_,_⟩
     ·
       obtain⟨yv,tv,rfl,ry,e⟩:=rds
       cases e
       rcases y with _|_|_|_|_|q|_|_<;>try (exact p.elim;done)
       ·
         unfold j9 at ry
         obtain⟨b,m2,rfl⟩:=ry
         obtain⟨l,vs,g,ea,rl,p1⟩:=bC9 hr m p
         obtain⟨k,ws,g2,eb,rk,p2⟩:=bC9 hr m2 p1
         split at p2
         · rename_i hz
           obtain⟨x1,h1,p3⟩:=bW3 (vs':=vs++ws) hr g m (λx=>(rl.mono x).append (rk.mono x)) p2
           exact dO3 pins s O H (.ref a) [.ref b] v us Q I rx rs ⟨a,b,vs,ws,rfl,rfl,ea,eb,by rw[<-rl.length,<-rk.length];exact hz,g8.ok p3 h1 _ ofN⟩
         ·exact p2.elim
     ·cases y<;>exact p.elim
theorem eX9:MtD X Z "list.pop" eO5:=by
 intro pins s O H x xs v us Q I rx rs hE0
 obtain⟨d,ds,U,G,rd,rds,hr,p⟩:=hE0
 rcases d with _|_|_|_|_|r|_|_<;>try (exact p.elim;done)
 ·
   unfold j9 at rd
   obtain⟨a,m,rfl⟩:=rd
   rcases ds with _|⟨_,_⟩
   ·
     cases rds
     obtain⟨l,vs,g,ea,rl,p1⟩:=bC9 hr m p
     rcases hy:l.getLast? with _|y
     ·simp only[hy]at p1;exact p1.elim
     ·
       simp only[hy]at p1
       obtain⟨x1,h1,p2⟩:=bW3 (vs':=vs.dropLast) hr g m (λx=>(rl.mono x).dropLast) p1
       rw[List.getLast?_eq_getElem?]at hy
       obtain⟨yv,e1,ry⟩:=rl.get hy
       rw[rl.length]at e1
       exact fH9 pins s O H (.ref a) [] v us Q I rx rs ⟨a,vs,yv,rfl,rfl,ea,e1,g8.ok p2 h1 _ (ry.mono x1)⟩
   ·exact p.elim
variable{es:List Expr}{fs:DSt->M (List D)}{name:Str}{apos cpos:Pos}{id:String}{mm:D->List D->M D}
theorem bQ4{α:Type}{d:D}{v:V}{f:Unit->M α}{K:α->List Addr->DH->Hp->Prop}(h:J8 c U G H)(r:j9 c U H d v)(p:g8 c Z U H ((X4 d >>= f) G) K):tyV c.K "list" v H/\g8 c Z U H (f () G) K:=by
 rcases d with _|_|_|_|_|i|_|_<;>try (exact p.elim;done)
 ·
   unfold j9 at r
   obtain⟨a,m,rfl⟩:=r
   have p':g8 c Z U H ((V6 i >>= λo=>(match o with| .lst _=>pure ()|_=>M.stuck:M Unit) >>= f) G) K:=by rw[<-M.bind_assoc];exact p
   obtain⟨o,g,p2⟩:=U6 p'
   have ro:=h.obj i o a g m
   rcases o with l|_|_|_<;>try (exact p2.elim;done)
   ·obtain⟨vs,e,rl⟩:=ro;exact⟨.inl ⟨rfl,vs,SqL.of e⟩,p2⟩
theorem eS4(slot:Slot "list" name id)(hty:typeOf (.builtin id)=pure (.type "method_descriptor"))(hm:MtD X Z id mm)(ho:DE X Z o fo)(ha:DA X Z (e::es) fs)
 (hbase:attributeBase o name X.env (eval o X.env)=eval o X.env)
 (hfew:((backTo cpos (zJ (e::es) X.env)).all (λx=> !x.1)&&(backToKw cpos (keywordEach [] X.env)).all (λx=>x.1.isSome)
   && decide ((e::es).length+([]:List Keyword).length+(if ([]:List Keyword).isEmpty then 0 else 1)<30))=true)
 (hline:(apos.endLine==cpos.line)=true) (hs:zJ (e::es) X.env= (false,eval e X.env)::zJ es X.env) (hplain:(backTo cpos (zJ es X.env)).any (·.1)=false):
 DE X Z (.Call (.Attribute o name apos) (e::es) [] cpos) (mtE X4 mm fo fs):=
 DE.of (fN8 Ym slot hty hm ho.h ha.h hbase hfew hline hs hplain) λO H Q hE0=>hE0.elim λX9 U G s h p=>⟨X9,U,G,s,h,(g8.bind p).mono λd X0 G1 H1 x1 h1 p1 v rv=>by
  obtain⟨ty,p2⟩:=bQ4 h1 rv p1
  exact⟨ty,X9,X0,G1,s.mono x1,h1,(g8.bind p2).mono λds WU G2 H2 x2 h2 p3 vs rvs=>⟨d,ds,WU,G2,rv.mono x2,rvs,h2,p3⟩⟩⟩
theorem eZ1(slot:Slot "list" name id)(hty:typeOf (.builtin id)=pure (.type "method_descriptor"))(hm:MtD X Z id mm)(ho:DE X Z o fo)
 (hbase:attributeBase o name X.env (eval o X.env)=eval o X.env) (hline:(apos.endLine==cpos.line)=true):DE X Z (.Call (.Attribute o name apos) [] [] cpos) (mtE X4 mm fo q14):=
 DE.of (dW1 Ym slot hty hm ho.h hbase hline) λO H Q hE0=>hE0.elim λX9 U G s h p=>⟨X9,U,G,s,h,(g8.bind p).mono λd X0 G1 H1 x1 h1 p1 v rv=>by
  obtain⟨ty,p2⟩:=bQ4 h1 rv p1
  exact⟨ty,d, [],X0,G1,rv,rfl,h1,p2⟩⟩
end
noncomputable def SI(k:Bool)(h:Heap)(it a:Addr)(i:Nat):Prop:=if k then h.IsTupleIter it a i else h.IsListIter it a i
noncomputable def SC(k:Bool)(h:Heap)(a:Addr)(items:Array ze):Prop:=if k then h.IsTuple a items else h.IsList a items
section
variable{prog:zE}{w:zP}{A:zK}{E:VSP}{s:zm}{k:Bool}
theorem SI.keep{h h':Heap}{it a:Addr}{i:Nat}(x:SI k h it a i)(q:∀o,h.get? it=some o->h'.get? it=some o):SI k h' it a i:=by
 rcases k with _|_
 ·exact Heap.IsListIter.at (show h.IsListIter it a i from x) q
 ·exact Heap.IsTupleIter.at (show h.IsTupleIter it a i from x) q
theorem SC.keep{h h':Heap}{a:Addr}{its:Array ze}(x:SC k h a its)(q:∀o,h.get? a=some o->h'.get? a=some o):SC k h' a its:=by
 rcases k with _|_
 ·obtain⟨o,e,r⟩:=(show h.IsList a its from x);exact⟨o,q o e,r⟩
 ·obtain⟨o,e,r⟩:=(show h.IsTuple a its from x);exact⟨o,q o e,r⟩
theorem SI.there{h:Heap}{it a:Addr}{i:Nat}(x:SI k h it a i):∃o,h.get? it=some o/\∀v,o.data≠ .cell v:=by
 rcases k with _|_
 ·obtain⟨o,e,c,d⟩:=(show h.IsListIter it a i from x);exact⟨o,e,λv z=>by rw[d]at z;cases z⟩
 ·obtain⟨o,e,c,d⟩:=(show h.IsTupleIter it a i from x);exact⟨o,e,λv z=>by rw[d]at z;cases z⟩
theorem bI7{it t:Addr}{i:Nat}{items:Array ze}{x:ze}{Q:VSP}(hit:s.heap.IsTupleIter it t i)(ht:s.heap.IsTuple t items)(hx:items[i]? =some x)
 (hQ:∀h',h'.IsTupleIter it t (i+1)->yJ it s.heap h'->Q x {s with heap:=h'}):zy (zH prog w) A (zM (.ref it)) Q E s:=by
 obtain⟨ob,hob,hcls,hdat⟩:=id hit
 obtain⟨ot,hot,_,nt,hdt⟩:=ht
 unfold zM
 refine za (js (name:=jz "__next__") hit.typeIs yM (jH yM hit.typeIs YH ?_ (YD _)))
 show zy _ _ (field (.ref it) 0 >>= _) _ _ s
 refine za (jj hob hdat (x:=.ref t) rfl ?_)
 show zy _ _ (if (Value.ref t==Value.none)=true then _ else _) _ _ s
 rw[if_neg (show ¬((Value.ref t==Value.none)=true)from jc)]
 show zy _ _ (field (.ref it) 1 >>= _) _ _ s
 refine za (jj hob hdat (x:=.int i 0) rfl ?_)
 show zy _ _ (seqItems? (.ref t) >>= _) _ _ s
 refine za (jS hot hdt ?_)
 simp only[xa,hx]
 refine za (wpAny_setField hob hdat (by simp) (zt ⟨x,rfl,zt (hQ _ ?_ (Ye ..))⟩))
 exact⟨_,yh _ hob (Obj.isFreed_of_fields (XH hdat _)),(Obj.cls_mapFields ..).trans hcls,by rw[XH hdat];simp[yH]⟩
theorem bP2{it t:Addr}{i:Nat}{items:Array ze}{Q:VSP}(hh:A.handled=none)(hit:s.heap.IsTupleIter it t i)(ht:s.heap.IsTuple t items)(hx:items[i]? =none)
 (hE:∀h' e,Jz it s.heap h'->(∃o,h'.get? e=some o/\o.cls= .type "StopIteration")->E (.ref e) {s with heap:=h'}):zy (zH prog w) A (zM (.ref it)) Q E s:=by
 obtain⟨ob,hob,hcls,hdat⟩:=id hit
 obtain⟨ot,hot,_,nt,hdt⟩:=ht
 unfold zM
 refine za (js (name:=jz "__next__") hit.typeIs yM (jH yM hit.typeIs YH ?_ (YD _)))
 show zy _ _ (field (.ref it) 0 >>= _) _ _ s
 refine za (jj hob hdat (x:=.ref t) rfl ?_)
 show zy _ _ (if (Value.ref t==Value.none)=true then _ else _) _ _ s
 rw[if_neg (show ¬((Value.ref t==Value.none)=true)from jc)]
 show zy _ _ (field (.ref it) 1 >>= _) _ _ s
 refine za (jj hob hdat (x:=.int i 0) rfl ?_)
 show zy _ _ (seqItems? (.ref t) >>= _) _ _ s
 refine za (jS hot hdt ?_)
 simp only[xa,hx]
 refine za (ZP (za (wpAny_setField hob hdat (by simp) ?_)))
 show zy _ _ (newExc (.type "StopIteration") [] >>= _) _ _ _
 refine za ?_
 simp only[newExc,newTuple]
 refine za (jA ?_ (by size_fits))
 refine za (m:=firstArgMember _ _) (wpAny_of_eq (a:=Value.none) (by first|rfl|(simp only[firstArgMember];rfl)) ?_)
 refine jA ?_ (by size_fits)
 delta raiseNew;dsimp only
 refine za (wpAny_handled ?_)
 first|rw[show A.in1.handled=none from hh]|rw[hh]
 refine za (zt (wpAny_throw ?_))
 exact hE _ _ (((Ye ..).extBut.push _).push _) ⟨_,zC _ rfl,rfl⟩
theorem aG4{it a:Addr}{i:Nat}{items:Array ze}{x:ze}{Q:VSP}(hit:SI k s.heap it a i)(hl:SC k s.heap a items)(hx:items[i]? =some x)
 (hQ:∀h',SI k h' it a (i+1)->yJ it s.heap h'->Q x {s with heap:=h'}):zy (zH prog w) A (zM (.ref it)) Q E s:=by
 rcases k with _|_
 ·exact wpAny_nextOf_list_item hit hl hx hQ
 ·exact bI7 hit hl hx hQ
theorem aV9{it a:Addr}{i:Nat}{items:Array ze}{Q:VSP}(hh:A.handled=none)(hit:SI k s.heap it a i)(hl:SC k s.heap a items)(hx:items[i]? =none)
 (hE:∀h' e,Jz it s.heap h'->(∃o,h'.get? e=some o/\o.cls= .type "StopIteration")->E (.ref e) {s with heap:=h'}):zy (zH prog w) A (zM (.ref it)) Q E s:=by
 rcases k with _|_
 ·exact wpAny_nextOf_list_end hh hit hl hx hE
 ·exact bP2 hh hit hl hx hE
structure ZA(z TI TO i1 i2:Addr):Prop where
 TIz:TI≠z
 TOz:TO≠z
 i1z:i1≠z
 i2z:i2≠z
 TITO:TI≠TO
 TIi1:TI≠i1
 TIi2:TI≠i2
 TOi1:TO≠i1
 TOi2:TO≠i2
 i12:i1≠i2
theorem eT1(n:Nat):ZA (n+4:Nat) (n+2:Nat) (n+3:Nat) n (n+1:Nat):=⟨(by show @Ne Nat _ _;lia),(by show @Ne Nat _ _;lia),(by show @Ne Nat _ _;lia),(by show @Ne Nat _ _;lia),(by show @Ne Nat _ _;lia),(by show @Ne Nat _ _;lia),(by show @Ne Nat _ _;lia),(by show @Ne Nat _ _;lia),(by show @Ne Nat _ _;lia),(by show @Ne Nat _ _;lia)⟩
theorem bW4{l n:Nat}(h:l<n):¬ @xP Addr (List Addr) xw [(n+4:Nat),(n+3:Nat),n,(n+1:Nat)] l:=by
 simp only[zi,zu,or_false,not_or]
 exact⟨(by show ¬ @Eq Nat _ _;lia),(by show ¬ @Eq Nat _ _;lia),(by show ¬ @Eq Nat _ _;lia),(by show ¬ @Eq Nat _ _;lia)⟩
theorem fO4{l1 l2 n m:Nat}(h1:l1<n)(h2:l2<n)(e:m=n+5):∀b, @xP Addr (List Addr) xw [(n+4:Nat),(n+2:Nat),(n+3:Nat),n,(n+1:Nat),l1,l2] b-> @Jg Nat instLTNat b m:=λb hb=>by
 subst e
 simp only[zi,zu,or_false]at hb
 rcases hb with rfl|rfl|rfl|rfl|rfl|rfl|rfl<;>(show @Jg Nat instLTNat _ _;lia)
theorem fZ0{n:Nat}{b:Addr}(hb: @xP Addr (List Addr) xw [(n+4:Nat),(n+2:Nat),(n+3:Nat),n,(n+1:Nat)] b): @LE.le Nat instLENat n b:=by
 simp only[zi,zu,or_false]at hb
 rcases hb with rfl|rfl|rfl|rfl|rfl<;>(show @LE.le Nat instLENat _ _;lia)
theorem eZ0{b n:Nat}(h:b<n):¬ @xP Addr (List Addr) xw [(n+4:Nat),(n+3:Nat),n,(n+1:Nat)] b:=bW4 h
variable{z TI TO i1 i2 l1 l2:Addr}{xs ys:Array ze}{k1 k2:Bool}{i:Nat}
theorem dV5{x y a b:ze}{Q:VSP}(Ap:ZA z TI TO i1 i2)(n1:l1∉ [z,TO,i1,i2])(n2:l2∉ [z,TO,i1,i2])
 (hz:IsZip s.heap z TI TO .none) (hTI:jE s.heap TI (.ref i1) (.ref i2)) (hTO:jE s.heap TO a b)
 (h1:SI k1 s.heap i1 l1 i) (h2:SI k2 s.heap i2 l2 i) (hl1:SC k1 s.heap l1 xs) (hl2:SC k2 s.heap l2 ys) (hx:xs[i]? =some x) (hy:ys[i]? =some y)
 (hQ:∀h',IsZip h' z TI TO (yH s.heap.objs.size)->jE h' TO x y->SI k1 h' i1 l1 (i+1)->SI k2 h' i2 l2 (i+1)->jE h' s.heap.objs.size x y->h'.objs.size=s.heap.objs.size+1->
   (∀c o,c≠z->c≠TO->c≠i1->c≠i2->s.heap.get? c=some o->h'.get? c=some o)->Q (.ref s.heap.objs.size) {s with heap:=h'}):
 zy (zH prog w) A (Builtin.«zip.__next__» ⟨[.ref z], []⟩) (λfin s'=>∃v,fin= .done (.ret v)/\Q v s') E s:=by
 simp only[zi,zu,or_false,not_or]at n1 n2
 show zy _ _ (field (.ref z) 2 >>= _) _ _ _
 refine za (jj hz rfl (x:=.bool false) rfl ?_)
 show zy _ _ (field (.ref z) 3 >>= _) _ _ _
 refine za (jj hz rfl (x:=.ref TI) rfl ?_)
 refine za (jS hTI rfl ?_)
 show zy _ _ (ja (.ref z) >>= _) _ _ _
 refine za ?_
 unfold ja
 refine za (jj hz rfl (x:=.none) rfl (zt ?_))
 simp only[if_true]
 refine za (ZP ?_)
 refine za (jj hz rfl (x:=.ref TO) rfl ?_)
 refine za (ym hz (by simp) λg₁ WP WY=>?_)
 replace WP:IsZip g₁ z TI TO .ellipsis:=WP
 refine za ?_
 simp only[ZM,ZZ,xp,Zh]
 refine za (za (ZH ?_))
 show zy _ _ (zM (.ref i1) >>= _) _ _ _
 refine za (aG4 (h1.keep λo e=>WY.extBut _ _ Ap.i1z e) (hl1.keep λo e=>WY.extBut _ _ n1.1 e) hx λWK h1₂ WX=>zt ?_)
 have hTO₂:jE WK TO a b:=WX.extBut _ _ Ap.TOi1 (WY.extBut _ _ Ap.TOz hTO)
 refine za (jS hTO₂ rfl ?_)
 refine za (Zv hTO₂ λWN hTO₃ WW=>?_)
 replace hTO₃:jE WN TO x b:=hTO₃
 refine za (YE (zt ?_))
 refine za (za (ZH ?_))
 show zy _ _ (zM (.ref i2) >>= _) _ _ _
 have up3:∀c o,c≠z->c≠TO->c≠i1->s.heap.get? c=some o->WN.get? c=some o:=λc o c1 c2 c3 e=>WW.extBut _ _ c2 (WX.extBut _ _ c3 (WY.extBut _ _ c1 e))
 refine za (aG4 (h2.keep λo e=>up3 _ _ Ap.i2z Ap.TOi2.symm Ap.i12.symm e) (hl2.keep λo e=>up3 _ _ n2.1 n2.2.1 n2.2.2.1 e) hy λg₄ h2₄ hs₄=>zt ?_)
 have hTO₄:jE g₄ TO x b:=hs₄.extBut _ _ Ap.TOi2 hTO₃
 refine za (jS hTO₄ rfl ?_)
 refine za (Zv hTO₄ λWR hTO₅ hs₅=>?_)
 replace hTO₅:jE WR TO x y:=hTO₅
 refine za (YE (zt (zt ?_)))
 refine za (jS hTO₅ rfl ?_)
 refine za (wpAny_newTuple ?_)
 have hsz:WR.objs.size=s.heap.objs.size:=by rw[hs₅.1,hs₄.1,WW.1,WX.1,WY.1]
 have hz₅:IsZip WR z TI TO .ellipsis:=hs₅.extBut _ _ Ap.TOz.symm (hs₄.extBut _ _ Ap.i2z.symm (WW.extBut _ _ Ap.TOz.symm (WX.extBut _ _ Ap.i1z.symm WP)))
 have hk₅:∀c o,c≠z->c≠TO->c≠i1->c≠i2->s.heap.get? c=some o->WR.get? c=some o:=λc o c1 c2 c3 c4 e=>hs₅.extBut _ _ c2 (hs₄.extBut _ _ c4 (up3 c o c1 c2 c3 e))
 have h1₅:SI k1 WR i1 l1 (i+1):=h1₂.keep λo e=>hs₅.extBut _ _ Ap.TOi1.symm (hs₄.extBut _ _ Ap.i12 (WW.extBut _ _ Ap.TOi1.symm e))
 have h2₅:SI k2 WR i2 l2 (i+1):=h2₄.keep λo e=>hs₅.extBut _ _ Ap.TOi2.symm e
 have hzlt:z<WR.objs.size:=zA hz₅
 show zy _ _ (xC (.ref z) (.ref WR.objs.size) >>= _) _ _ _
 refine za ?_
 unfold xC
 have hz₆:IsZip (WR.push {cls:=.type "tuple",data:=.seq #[x,y]}) z TI TO .ellipsis:=zj _ hz₅
 refine za (ym hz₆ (by simp) λg₇ hz₇ hs₇=>?_)
 replace hz₇:IsZip g₇ z TI TO (yH WR.objs.size):=hz₇
 refine ym hz₇ (by simp) λg₈ hz₈ hs₈=>?_
 replace hz₈:IsZip g₈ z TI TO (yH WR.objs.size):=hz₈
 have up:∀c o,c≠z->WR.get? c=some o->g₈.get? c=some o:=λc o c1 e=>hs₈.extBut _ _ c1 (hs₇.extBut _ _ c1 (zj _ e))
 have hT₈:jE g₈ WR.objs.size x y:=hs₈.extBut _ _ (xA hzlt) (hs₇.extBut _ _ (xA hzlt) (zC _ rfl))
 have hz8:g₈.objs.size=WR.objs.size+1:=by rw[hs₈.1,hs₇.1,jX]
 rw[hsz]at hz₈ hT₈ hz8
 refine zt ⟨_,rfl,?_⟩
 show Q (.ref WR.objs.size) _
 rw[hsz]
 exact hQ g₈ hz₈ (up _ _ Ap.TOz hTO₅) (h1₅.keep λo e=>up _ o Ap.i1z e) (h2₅.keep λo e=>up _ o Ap.i2z e) hT₈ hz8 λc o c1 c2 c3 c4 e=>up c o c1 (hk₅ c o c1 c2 c3 c4 e)
theorem eM5{a b:ze}{Q:Fin->zm->Prop}(hh:A.handled=none)(Ap:ZA z TI TO i1 i2)(n1:l1∉ [z,TO,i1,i2])(n2:l2∉ [z,TO,i1,i2])
 (hz:IsZip s.heap z TI TO .none) (hTI:jE s.heap TI (.ref i1) (.ref i2)) (hTO:jE s.heap TO a b)
 (h1:SI k1 s.heap i1 l1 i) (h2:SI k2 s.heap i2 l2 i) (hl1:SC k1 s.heap l1 xs) (hl2:SC k2 s.heap l2 ys) (hend:xs[i]? =none\/ys[i]? =none)
 (hE:∀h' e,(∀c o,c≠z->c≠TO->c≠i1->c≠i2->s.heap.get? c=some o->h'.get? c=some o)->(∃o,h'.get? e=some o/\o.cls= .type "StopIteration")->E (.ref e) {s with heap:=h'}):
 zy (zH prog w) A (Builtin.«zip.__next__» ⟨[.ref z], []⟩) Q E s:=by
 simp only[zi,zu,or_false,not_or]at n1 n2
 show zy _ _ (field (.ref z) 2 >>= _) _ _ _
 refine za (jj hz rfl (x:=.bool false) rfl ?_)
 show zy _ _ (field (.ref z) 3 >>= _) _ _ _
 refine za (jj hz rfl (x:=.ref TI) rfl ?_)
 refine za (jS hTI rfl ?_)
 show zy _ _ (ja (.ref z) >>= _) _ _ _
 refine za ?_
 unfold ja
 refine za (jj hz rfl (x:=.none) rfl (zt ?_))
 simp only[if_true]
 refine za (ZP ?_)
 refine za (jj hz rfl (x:=.ref TO) rfl ?_)
 refine za (ym hz (by simp) λg₁ WP WY=>?_)
 replace WP:IsZip g₁ z TI TO .ellipsis:=WP
 refine za ?_
 simp only[ZM,ZZ,xp,Zh]
 refine za (za (ZH ?_))
 show zy _ _ (zM (.ref i1) >>= _) _ _ _
 rcases hx:xs[i]? with _|x
 ·
   refine za (aV9 hh (h1.keep λo e=>WY.extBut _ _ Ap.i1z e) (hl1.keep λo e=>WY.extBut _ _ n1.1 e) hx λWK e WX he=>?_)
   obtain⟨oe,hoe,hce⟩:=he
   have hz₂:IsZip WK z TI TO .ellipsis:=WX _ _ Ap.i1z.symm WP
   have hez:e≠z:=λq=>by subst q;rw[hz₂]at hoe;cases hoe;simp at hce
   exact ym hz₂ (by simp) λWN _ WW=>hE WN e (λc o c1 _ c3 _ q=>WW.extBut _ _ c1 (WX _ _ c3 (WY.extBut _ _ c1 q))) ⟨oe,WW.extBut _ _ hez hoe,hce⟩
 ·
   have hy:ys[i]? =none:=by
    rcases hend with h|h
    ·rw[hx]at h;exact eL1 h
    ·exact h
   refine za (aG4 (h1.keep λo e=>WY.extBut _ _ Ap.i1z e) (hl1.keep λo e=>WY.extBut _ _ n1.1 e) hx λWK h1₂ WX=>zt ?_)
   have hTO₂:jE WK TO a b:=WX.extBut _ _ Ap.TOi1 (WY.extBut _ _ Ap.TOz hTO)
   refine za (jS hTO₂ rfl ?_)
   refine za (Zv hTO₂ λWN hTO₃ WW=>?_)
   refine za (YE (zt ?_))
   refine za (za (ZH ?_))
   show zy _ _ (zM (.ref i2) >>= _) _ _ _
   have up3:∀c o,c≠z->c≠TO->c≠i1->s.heap.get? c=some o->WN.get? c=some o:=λc o c1 c2 c3 e=>WW.extBut _ _ c2 (WX.extBut _ _ c3 (WY.extBut _ _ c1 e))
   refine za (aV9 hh (h2.keep λo e=>up3 _ _ Ap.i2z Ap.TOi2.symm Ap.i12.symm e) (hl2.keep λo e=>up3 _ _ n2.1 n2.2.1 n2.2.2.1 e) hy λg₄ e hs₄ he=>?_)
   obtain⟨oe,hoe,hce⟩:=he
   have hz₄:IsZip g₄ z TI TO .ellipsis:=hs₄ _ _ Ap.i2z.symm (WW.extBut _ _ Ap.TOz.symm (WX.extBut _ _ Ap.i1z.symm WP))
   have hez:e≠z:=λq=>by subst q;rw[hz₄]at hoe;cases hoe;simp at hce
   exact ym hz₄ (by simp) λWR _ hs₅=>hE WR e (λc o c1 c2 c3 c4 q=>hs₅.extBut _ _ c1 (hs₄ _ _ c4 (up3 c o c1 c2 c3 q))) ⟨oe,hs₅.extBut _ _ hez hoe,hce⟩
theorem aX6{x y a b:ze}{Q:Option ze->zm->Prop}(Ap:ZA z TI TO i1 i2)(n1:l1∉ [z,TO,i1,i2])(n2:l2∉ [z,TO,i1,i2])
 (hz:IsZip s.heap z TI TO .none) (hTI:jE s.heap TI (.ref i1) (.ref i2)) (hTO:jE s.heap TO a b)
 (h1:SI k1 s.heap i1 l1 i) (h2:SI k2 s.heap i2 l2 i) (hl1:SC k1 s.heap l1 xs) (hl2:SC k2 s.heap l2 ys) (hx:xs[i]? =some x) (hy:ys[i]? =some y)
 (hQ:∀h',IsZip h' z TI TO (yH s.heap.objs.size)->jE h' TO x y->SI k1 h' i1 l1 (i+1)->SI k2 h' i2 l2 (i+1)->jE h' s.heap.objs.size x y->h'.objs.size=s.heap.objs.size+1->
   (∀c o,c≠z->c≠TO->c≠i1->c≠i2->s.heap.get? c=some o->h'.get? c=some o)->Q (some (.ref s.heap.objs.size)) {s with heap:=h'}):
 zy (zH prog w) A (pyNext (.ref z)) Q E s:=by
 have hT:s.TypeIs (.ref z) "zip":=⟨_,hz,rfl⟩
 unfold pyNext
 exact za (ZI (js (name:=jz "__next__") hT yo (jH yo hT xV
  (dV5 Ap n1 n2 hz hTI hTO h1 h2 hl1 hl2 hx hy λh' a1 a2 a3 a4 a5 a6 a7=>zt (hQ h' a1 a2 a3 a4 a5 a6 a7)) (xO _))))
theorem aZ9{a b:ze}{Q:Option ze->zm->Prop}(hh:A.handled=none)(Ap:ZA z TI TO i1 i2)(n1:l1∉ [z,TO,i1,i2])(n2:l2∉ [z,TO,i1,i2])
 (hz:IsZip s.heap z TI TO .none) (hTI:jE s.heap TI (.ref i1) (.ref i2)) (hTO:jE s.heap TO a b)
 (h1:SI k1 s.heap i1 l1 i) (h2:SI k2 s.heap i2 l2 i) (hl1:SC k1 s.heap l1 xs) (hl2:SC k2 s.heap l2 ys) (hend:xs[i]? =none\/ys[i]? =none)
 (hQ:∀h',(∀c o,c≠z->c≠TO->c≠i1->c≠i2->s.heap.get? c=some o->h'.get? c=some o)->Q none {s with heap:=h'}):zy (zH prog w) A (pyNext (.ref z)) Q E s:=by
 have hT:s.TypeIs (.ref z) "zip":=⟨_,hz,rfl⟩
 unfold pyNext
 refine za (ZI (js (name:=jz "__next__") hT yo (jH yo hT xV
  (eM5 hh Ap n1 n2 hz hTI hTO h1 h2 hl1 hl2 hend λh' e hk he=>?_) (xO _))))
 obtain⟨o,ho,hc⟩:=he
 exact za (Jw (T:= "StopIteration") (b:=true) ⟨o,ho,hc⟩ isSubtype_stop (zt (hQ _ hk)))
end
noncomputable def cE0(k:Bool)(a:Addr):Obj:={cls:=.type (if k then "tuple_iterator" else "list_iterator"),data:=.fields #[.ref a,.int 0 0]}
abbrev zh1(k1:Bool)(h:Heap)(l1:Addr):Heap:=h.push (cE0 k1 l1)
abbrev zh2(k1 k2:Bool)(h:Heap)(l1 l2:Addr):Heap:=(zh1 k1 h l1).push (cE0 k2 l2)
noncomputable abbrev zh3(k1 k2:Bool)(h:Heap)(l1 l2:Addr):Heap:=(zh2 k1 k2 h l1 l2).push {cls:=.type "tuple",data:=.seq #[.ref h.objs.size,.ref (zh1 k1 h l1).objs.size]}
noncomputable abbrev zh4(k1 k2:Bool)(h:Heap)(l1 l2:Addr):Heap:=(zh3 k1 k2 h l1 l2).push {cls:=.type "tuple",data:=.seq #[.none,.none]}
noncomputable abbrev zh5(k1 k2:Bool)(h:Heap)(l1 l2:Addr):Heap:=(zh4 k1 k2 h l1 l2).push {cls:=.type "zip",data:=.fields #[.none,.bool false,.bool false,.ref (zh2 k1 k2 h l1 l2).objs.size,.ref (zh3 k1 k2 h l1 l2).objs.size]}
theorem bY9{prog:zE}{w:zP}{A:zK}{E:VSP}{s:zm}{k:Bool}{a:Addr}{items:Array ze}{Q:VSP}(hl:SC k s.heap a items)(h:Q (.ref s.heap.objs.size) {s with heap:=s.heap.push (cE0 k a)}):zy (zH prog w) A (pyIter (.ref a)) Q E s:=by
 rcases k with _|_
 ·exact Yc hl h
 ·exact Jk hl h
theorem eI7(k1 k2:Bool)(l1 l2:Addr)(xs ys:Array ze):
 Meets (Builtin.«zip.__new__» ⟨[.type "zip",.ref l1,.ref l2], []⟩) (λ_ R s=>SC k1 s.heap l1 xs/\SC k2 s.heap l2 ys/\R (.ok (.ret (.ref (zh4 k1 k2 s.heap l1 l2).objs.size))) {s with heap:=zh5 k1 k2 s.heap l1 l2}):=
 .of_wp λprog w A R s h=>by
  obtain⟨hp,g,d,tk,os⟩:=s
  obtain⟨hl1,hl2,h⟩:=h
  have hsub:=sub_zip
  have hL1:SC k1 (Jn ⟨hp,g,d,tk,os⟩) l1 xs:=hl1
  have hL2:SC k2 (Jn ⟨hp.push (cE0 k1 l1),g,d,tk,os⟩) l2 ys:=hl2.keep λo e=>zj _ e
  wp_walk using bY9 hL1,bY9 hL2
  exact⟨_,rfl,h⟩
section
variable{X:Cx}{pins:PNS}{O:St}{H:Hp}{s:zm}
theorem cE3{h':Heap}{t':Nat}{ch:List Addr}{vs:List V}{us:List ze}(I:Inv X pins O H s)(hf:∀b∈ch,bB9 X pins H b)(k:∀b o,b∉ch->s.heap.get? b=some o->h'.get? b=some o)
 (hz:vs.length<=zh) (rv:J7 vs us) (ht:aJ7 h' s.heap.objs.size us.toArray):Inv X pins O (upd H s.heap.objs.size (.tup vs)) {s with heap:=h',toks:=t'}:=by
 have hq:H s.heap.objs.size=none:=I.hok.fresh (zd _)
 have neq:∀b o,s.heap.get? b=some o->b≠s.heap.objs.size:=λb o e=>zW (zA e)
 have nch:∀b u,H b=some u->b∉ch:=λb u e z=>by rw[(hf b z).1]at e;cases e
 refine I.step (g':=s.gens) (d':=s.drawn) (ch:=ch) (λb hb=>⟨(hf b hb).2.2.2.1,(hf b hb).2.1,(hf b hb).2.2.2.2.1,(hf b hb).2.2.2.2.2⟩) (λb o _ _ hc e _=>k b o hc e) (λb o _ _ hc e _=>⟨o.slots,k b o hc e⟩)
  (λb o _ e n=>by rw[K5 (neq b o e)];exact n) (λb o hc e=>⟨o,k b o hc e⟩) (λb xs e=>by rw[K5 (K7 e hq)];exact e) (λb o u e=>by rw[K5 (K7 e hq)];exact e)
  (λb ps e=>⟨#[],by rw[K5 (K7 e hq),e];simp⟩) (λm hm=>?_) (λb u e=>?_) I.bare
 · obtain⟨o,es,ep,ho,r⟩:=hm
   exact⟨o,es,ep,k _ o (λz=>(hf _ z).2.1 rfl) ho,r⟩
 · by_cases hb:b=s.heap.objs.size
   · subst hb
     rw[T7]at e
     cases e
     exact⟨hz,us,rv,ht⟩
   · rw[K5 hb]at e
     refine(I.hok b u e).stay (λc v hc q=>k c v ?_ q) (λc q=>by rw[K5 (K7 q hq)];exact q) λc xs q=>by rw[K5 (K7 q hq)];exact q
     rcases hc with z|z
     ·rw[z];exact nch b u e
     ·exact nch c _ z
theorem bY6{h':Heap}{t':Nat}{ch:List Addr}(I:Inv X pins O H s)(hf:∀b∈ch,bB9 X pins H b)(k:∀b o,b∉ch->s.heap.get? b=some o->h'.get? b=some o):Inv X pins O H {s with heap:=h',toks:=t'}:=by
 have nch:∀b u,H b=some u->b∉ch:=λb u e z=>by rw[(hf b z).1]at e;cases e
 refine I.step (g':=s.gens) (d':=s.drawn) (ch:=ch) (λb hb=>⟨(hf b hb).2.2.2.1,(hf b hb).2.1,(hf b hb).2.2.2.2.1,(hf b hb).2.2.2.2.2⟩) (λb o _ _ hc e _=>k b o hc e) (λb o _ _ hc e _=>⟨o.slots,k b o hc e⟩)
  (λ_ _ _ _ n=>n) (λb o hc e=>⟨o,k b o hc e⟩) (λ_ _ e=>e) (λ_ _ _ e=>e) (λb ps e=>⟨#[],by rw[e];simp⟩) (λm hm=>?_) (λb u e=>?_) I.bare
 · obtain⟨o,es,ep,ho,r⟩:=hm
   exact⟨o,es,ep,k _ o (λz=>(hf _ z).2.1 rfl) ho,r⟩
 · refine(I.hok b u e).stay (λc v hc q=>k c v ?_ q) (λ_ q=>q) λ_ _ q=>q
   rcases hc with z|z
   ·rw[z];exact nch b u e
   ·exact nch c _ z
end
def Sq(K:zk)(k:Bool)(H:Hp)(a:Addr)(vs:List V):Prop:=if k then SqT K H a vs else SqL K H a vs
theorem cE1{X:Cx}{pins:PNS}{O:St}{H:Hp}{s:zm}{k:Bool}{a:Addr}{vs:List V}(I:Inv X pins O H s)(h:Sq X.K k H a vs):∃its:List ze,J7 vs its/\SC k s.heap a its.toArray/\vs.length<=zh:=by
 rcases k with _|_
 ·obtain⟨its,r,p,z⟩:=I.list h;exact⟨its,r,p.isList,z⟩
 ·obtain⟨its,r,p,z⟩:=I.tuple h;exact⟨its,r,p,z⟩
theorem dW9{X:Cx}{pins:PNS}{O:St}{H:Hp}{s:zm}{k:Bool}{a:Addr}{vs ws:List V}(I:Inv X pins O H s)(h:Sq X.K k H a vs)(h':Sq X.K k H a ws):vs=ws:=by
 rcases k with _|_
 ·exact I.list_inj h h'
 ·exact I.tuple_inj h h'
def Itz(K:zk)(k1 k2:Bool)(a b:Addr):It:=
 ⟨λi H=>∃xs ys x y,Sq K k1 H a xs/\Sq K k2 H b ys/\xs[i]? =some x/\ys[i]? =some y,
  λi H v H'=>∃q x y,H q=none/\v= .ref q/\H'=upd H q (.tup [x,y])/\(∀xs,Sq K k1 H a xs->xs[i]? =some x)/\∀ys,Sq K k2 H b ys->ys[i]? =some y,
  λi H=>∃xs ys,Sq K k1 H a xs/\Sq K k2 H b ys/\(xs.length<=i\/ys.length<=i)⟩
theorem bI9{vs:List V}{its:List ze}(r:J7 vs its){i:Nat}{x:V}(h:vs[i]? =some x):∃u,its.toArray[i]? =some u/\M3 x u:=by
 obtain⟨u,e,ru⟩:=r.get h
 exact⟨u,by simpa using e,ru⟩
theorem eA8{P:zE}{w:zP}{K:zk}{es:List Expr}{x1:Nat}{tp:Pos}{k1 k2:Bool}{l1 l2 z TI TO i1 i2:Addr}(Ap:ZA z TI TO i1 i2)(n1:l1∉ [z,TO,i1,i2])(n2:l2∉ [z,TO,i1,i2]):
 bZ7 P w K (.Tuple es x1 tp) (Itz K k1 k2 l1 l2) [z,TI,TO,i1,i2] z (λi h=>IsZip h z TI TO .none/\jE h TI (.ref i1) (.ref i2)/\(∃a b,jE h TO a b)/\SI k1 h i1 l1 i/\SI k2 h i2 l2 i) where
 mem:=by simp
 obj:=λi h st b hb=>by
  obtain⟨s1,s2,⟨a,c,s3⟩,s4,s5⟩:=st
  simp only[zi,zu,or_false]at hb
  rcases hb with rfl|rfl|rfl|rfl|rfl
  ·exact⟨_,s1,λv z=>nomatch z⟩
  ·exact⟨_,s2,λv z=>nomatch z⟩
  ·exact⟨_,s3,λv z=>nomatch z⟩
  ·exact s4.there
  ·exact s5.there
 keep:=λi h h' st k=>by
  obtain⟨s1,s2,⟨a,c,s3⟩,s4,s5⟩:=st
  exact⟨k _ (by simp) _ s1,k _ (by simp) _ s2,⟨a,c,k _ (by simp) _ s3⟩,s4.keep (k _ (by simp)),s5.keep (k _ (by simp))⟩
 item:=by
  intro X hP hw hK hc i pins s O H E I hf st hg
  subst hP hw hK
  obtain⟨xs,ys,x,y,q1,q2,hx,hy⟩:=hg
  obtain⟨its1,r1,c1,z1⟩:=cE1 I q1
  obtain⟨its2,r2,c2,z2⟩:=cE1 I q2
  obtain⟨u1,e1,ru1⟩:=bI9 r1 hx
  obtain⟨u2,e2,ru2⟩:=bI9 r2 hy
  obtain⟨s1,s2,⟨a,c,s3⟩,s4,s5⟩:=st
  refine aX6 Ap n1 n2 s1 s2 s3 s4 s5 c1 c2 e1 e2 λg b1 b2 b3 b4 b5 b6 b7=>⟨_,rfl,?_⟩
  refine wpAny_letOwnedTupleGo_zip b1 λg2 c1' sb=>?_
  have keep:∀b o,b∉ [z,TI,TO,i1,i2]->s.heap.get? b=some o->g2.get? b=some o:=λb o hb e=>by
   simp only[zi,zu,or_false,not_or]at hb
   exact(sb.2 b hb.1).trans (b7 b o hb.1 hb.2.2.1 hb.2.2.2.1 hb.2.2.2.2 e)
  have zlt:z<s.heap.objs.size:=zA s1
  have hnew:aJ7 g2 s.heap.objs.size [u1,u2].toArray:=⟨_,(sb.2 _ (xA zlt)).trans b5,rfl,_,rfl⟩
  have hq:H s.heap.objs.size=none:=I.hok.fresh (zd _)
  refine⟨.ref s.heap.objs.size,upd H s.heap.objs.size (.tup [x,y]),cE3 I hf keep (by show 2<=zh;decide) (.cons ru1 (.cons ru2 .nil)) hnew,rfl,⟨_,x,y,hq,rfl,rfl,λxs' h=>by rw[dW9 I h q1];exact hx,λys' h=>by rw[dW9 I h q2];exact hy⟩,?_,λb hb=>?_⟩
  · refine⟨c1',?_,⟨_,_,(sb.2 _ Ap.TOz).trans b2⟩,b3.keep λo e=>(sb.2 _ Ap.i1z).trans e,b4.keep λo e=>(sb.2 _ Ap.i2z).trans e⟩
    exact(sb.2 _ Ap.TIz).trans (b7 TI _ Ap.TIz Ap.TITO Ap.TIi1 Ap.TIi2 s2)
  · have hb':b<s.heap.objs.size:=by
     simp only[zi,zu,or_false]at hb
     rcases hb with rfl|rfl|rfl|rfl|rfl
     ·exact zlt
     ·exact zA s2
     ·exact zA s3
     ·obtain⟨_,e,_⟩:=s4.there;exact zA e
     ·obtain⟨_,e,_⟩:=s5.there;exact zA e
    rw[K5 (zW hb')]
    exact(hf b hb).1
 done:=by
  intro X hP hw hK hc i pins s O H E I hf st hg
  subst hP hw hK
  obtain⟨xs,ys,q1,q2,hend⟩:=hg
  obtain⟨its1,r1,c1,z1⟩:=cE1 I q1
  obtain⟨its2,r2,c2,z2⟩:=cE1 I q2
  obtain⟨s1,s2,⟨a,c,s3⟩,s4,s5⟩:=st
  have hl1:=r1.length
  have hl2:=r2.length
  refine aZ9 (I.ok.hd hc) Ap n1 n2 s1 s2 s3 s4 s5 c1 c2 (by rcases hend with h|h;left;simp;lia;right;simp;lia) λg b7=>⟨rfl,bY6 (t':=s.toks) I hf λb o hb e=>?_⟩
  simp only[zi,zu,or_false,not_or]at hb
  exact b7 b o hb.1 hb.2.2.1 hb.2.2.2.1 hb.2.2.2.2 e
 self:=λ_ _ _ _ _ st h=>Ys st.1 h
def gD7(K:zk)(ta:TA):TI:=λO H R=>ta O H λvs H1=>∃k1 k2 a b xs ys,vs= [.ref a,.ref b]/\Sq K k1 H1 a xs/\Sq K k2 H1 b ys/\R (Itz K k1 k2 a b) H1
section
variable{X:Cx}{Z:XC}
theorem cO6{prog:zE}{w:zP}{A:zK}{E:VSP}{s:zm}{k1 k2:Bool}{l1 l2:Addr}{xs ys:Array ze}{Q:VSP}(hl1:SC k1 s.heap l1 xs)(hl2:SC k2 s.heap l2 ys)
 (h:Q (.ref (zh4 k1 k2 s.heap l1 l2).objs.size) {s with heap:=zh5 k1 k2 s.heap l1 l2}):zy (zH prog w) A (call (.type "zip") [.ref l1,.ref l2]) Q E s:=by
 refine callType_new F.called_zip (by decide) (F.typeCall_zip_2 _ _) (F.newCall_zip_2 _ _) (λobj=>F.args_object_init_3 obj _ _) F.entry_zip_new (eI7 k1 k2 l1 l2 xs ys) ⟨hl1,hl2,?_⟩
 exact⟨⟨_,zC _ rfl,rfl⟩,h⟩
structure ZMk(k1 k2:Bool)(h h5:Heap)(l1 l2:Addr)(n:Nat):Prop where
 keep:∀b o,h.get? b=some o->h5.get? b=some o
 sz:h5.objs.size=n+5
 g5:IsZip h5 (n+4:Nat) (n+2:Nat) (n+3:Nat) .none
 g4:jE h5 (n+3:Nat) .none .none
 g3:jE h5 (n+2:Nat) (.ref n) (.ref (n+1:Nat))
 s1:SI k1 h5 n l1 0
 s2:SI k2 h5 (n+1:Nat) l2 0
theorem zmk{k1 k2:Bool}{h:Heap}{l1 l2:Addr}:(zh4 k1 k2 h l1 l2).objs.size=h.objs.size+4/\ZMk k1 k2 h (zh5 k1 k2 h l1 l2) l1 l2 h.objs.size:=by
 have z1:(zh1 k1 h l1).objs.size=h.objs.size+1:=jX ..
 have z2:(zh2 k1 k2 h l1 l2).objs.size=h.objs.size+2:=by rw[jX,z1]
 have z3:(zh3 k1 k2 h l1 l2).objs.size=h.objs.size+3:=by rw[jX,z2]
 have z4:(zh4 k1 k2 h l1 l2).objs.size=h.objs.size+4:=by rw[jX,z3]
 have z5:(zh5 k1 k2 h l1 l2).objs.size=h.objs.size+5:=by rw[jX,z4]
 have g5:IsZip (zh5 k1 k2 h l1 l2) (zh4 k1 k2 h l1 l2).objs.size (zh2 k1 k2 h l1 l2).objs.size (zh3 k1 k2 h l1 l2).objs.size .none:=zC _ rfl
 have g4:jE (zh5 k1 k2 h l1 l2) (zh3 k1 k2 h l1 l2).objs.size .none .none:=zj _ (zC _ rfl)
 have g3:jE (zh5 k1 k2 h l1 l2) (zh2 k1 k2 h l1 l2).objs.size (.ref h.objs.size) (.ref (zh1 k1 h l1).objs.size):=zj _ (zj _ (zC _ rfl))
 have g2:(zh5 k1 k2 h l1 l2).get? (zh1 k1 h l1).objs.size=some (cE0 k2 l2):=zj _ (zj _ (zj _ (zC _ (by cases k2<;>rfl))))
 have g1:(zh5 k1 k2 h l1 l2).get? h.objs.size=some (cE0 k1 l1):=zj _ (zj _ (zj _ (zj _ (zC _ (by cases k1<;>rfl)))))
 rw[z4,z2,z3]at g5
 rw[z3]at g4
 rw[z2,z1]at g3
 rw[z1]at g2
 refine⟨z4,λb o e=>zj _ (zj _ (zj _ (zj _ (zj _ e)))),z5,g5,g4,g3,?_,?_⟩
 · rcases k1 with _|_
   ·exact⟨_,g1,rfl,rfl⟩
   ·exact⟨_,g1,rfl,rfl⟩
 · rcases k2 with _|_
   ·exact⟨_,g2,rfl,rfl⟩
   ·exact⟨_,g2,rfl,rfl⟩
theorem SC.lt{k:Bool}{h:Heap}{a:Addr}{xs:Array ze}(c:SC k h a xs): @Jg Nat instLTNat a h.objs.size:=by
 rcases k with _|_
 ·obtain⟨o,e,_⟩:=(show h.IsList a _ from c);exact zA e
 ·obtain⟨o,e,_⟩:=(show h.IsTuple a _ from c);exact zA e
theorem bT0{prog:zE}{w:zP}{A:zK}{E:VSP}{s:zm}{k1 k2:Bool}{l1 l2:Addr}{xs ys:Array ze}{Q:VSP}(hl1:SC k1 s.heap l1 xs)(hl2:SC k2 s.heap l2 ys)
 (h:∀(h5:Heap) (n:Nat),n=s.heap.objs.size->ZMk k1 k2 s.heap h5 l1 l2 n->Q (.ref (n+4:Nat)) {s with heap:=h5}):zy (zH prog w) A (call (.type "zip") [.ref l1,.ref l2]) Q E s:=by
 refine cO6 hl1 hl2 ?_
 have:=zmk (k1:=k1) (k2:=k2) (h:=s.heap) (l1:=l1) (l2:=l2)
 rw[this.1]
 exact h _ _ rfl this.2
theorem fH5{es:List Expr}{x1:Nat}{tp:Pos}{a b:Expr}{ta:TA}{p pos:Pos}(hg:Gl X "zip")(hm:X.mg "zip" =none)(ha:PA X [a,b] ta)(hs:zJ [a,b] X.env= [(false,eval a X.env),(false,eval b X.env)])(hs2:zJ [b] X.env= [(false,eval b X.env)])(hbt:zR "zip" =some (.type "zip")):
 PI X (.Tuple es x1 tp) (.Call (.Name "zip" p) [a,b] [] pos) (gD7 X.K ta):=by
 intro pins s O H R I h
 refine Jv (aW2 I hg hm hbt (jw (thn (ha pos pins s O H _ I h) λus s1 hE1=>hE1.elim λvs H1 I1 r1 q1=>?_) (by rw[hs,hs2]) (by rw[hs2];rfl)))
 obtain⟨k1,k2,l1,l2,xs,ys,rfl,q1,q2,q⟩:=q1
 obtain⟨u1,u2,rfl,ru1,ru2⟩:=bV5 r1
 cases ru1
 cases ru2
 obtain⟨its1,rr1,c1,z1⟩:=cE1 I1 q1
 obtain⟨its2,rr2,c2,z2⟩:=cE1 I1 q2
 refine bT0 c1 c2 λh5 n en Z=>?_
 have n1:=bW4 (en▸c1.lt)
 have n2:=bW4 (en▸c2.lt)
 refine Ys Z.g5 ?_
 refine⟨(n+4:Nat),_,_,Itz X.K k1 k2 l1 l2,H1,rfl,I1.kept (t':=s1.toks) Z.keep,eA8 (eT1 n) n1 n2,⟨Z.g5,Z.g3,⟨_,_,Z.g4⟩,Z.s1,Z.s2⟩,λb hb=>?_,q⟩
 have hb':s1.heap.objs.size<=b:=en▸fZ0 hb
 exact I1.fpOk hb' (I1.hok.fresh hb')
end
def Ite(K:zk)(a:Addr):It:=
 ⟨λi H=>∃xs x,SqL K H a xs/\xs[i]? =some x,
  λi H v H'=>∃q x,H q=none/\v= .ref q/\H'=upd H q (.tup [.int i,x])/\∀xs,SqL K H a xs->xs[i]? =some x,
  λi H=>∃xs,SqL K H a xs/\xs.length<=i⟩
theorem dQ2{P:zE}{w:zP}{K:zk}{es:List Expr}{x1:Nat}{tp:Pos}{l e it:Addr}(hne:e≠it):
 bZ7 P w K (.Tuple es x1 tp) (Ite K l) [e,it] e (λi h=>(∃old,IsEnum h e it i old)/\h.IsListIter it l i) where
 mem:=by simp
 obj:=λi h st b hb=>by
  obtain⟨⟨old,s1⟩,s2⟩:=st
  simp only[zi,zu,or_false]at hb
  rcases hb with rfl|rfl
  ·exact⟨_,s1,λv z=>nomatch z⟩
  · obtain⟨o,q,c,d⟩:=s2
    exact⟨o,q,λv z=>by rw[d]at z;cases z⟩
 keep:=λi h h' st k=>by
  obtain⟨⟨old,s1⟩,s2⟩:=st
  exact⟨⟨old,k _ (by simp) _ s1⟩,s2.at λo q=>k _ (by simp) o q⟩
 item:=by
  intro X hP hw hK hc i pins s O H E I hf st hg
  subst hP hw hK
  obtain⟨xs,x,q1,hx⟩:=hg
  obtain⟨its,r1,c1,z1⟩:=I.list q1
  obtain⟨u,e1,ru⟩:=bI9 r1 hx
  obtain⟨⟨old,s1⟩,s2⟩:=st
  refine wpAny_pyNext_enum_item s1 s2 c1.isList e1 hne λg b1 b2 b3 b4 b5=>⟨_,rfl,?_⟩
  refine wpAny_letOwnedTupleGo_enum b1 λg2 c1' sb=>?_
  have elt:e<s.heap.objs.size:=zA s1
  have ilt:it<s.heap.objs.size:=by obtain⟨_,q,_⟩:=s2;exact zA q
  have keep:∀b o,b∉ [e,it]->s.heap.get? b=some o->g2.get? b=some o:=λb o hb q=>by
   simp only[zi,zu,or_false,not_or]at hb
   exact(sb.2 b hb.1).trans (b5 b o hb.1 hb.2 q)
  have hnew:aJ7 g2 s.heap.objs.size [.int (i:Int) s.toks,u].toArray:=⟨_,(sb.2 _ (xA elt)).trans b3,rfl,_,rfl⟩
  have hq:H s.heap.objs.size=none:=I.hok.fresh (zd _)
  refine⟨.ref s.heap.objs.size,upd H s.heap.objs.size (.tup [.int i,x]),cE3 I hf keep (by show 2<=zh;decide) (.cons ⟨_,rfl⟩ (.cons ru .nil)) hnew,rfl,⟨_,x,hq,rfl,rfl,λxs' h=>by rw[I.list_inj h q1];exact hx⟩,?_,λb hb=>?_⟩
  ·exact⟨⟨_,c1'⟩,b2.at λo q=>(sb.2 _ (yP hne)).trans q⟩
  · have hb':b<s.heap.objs.size:=by
     simp only[zi,zu,or_false]at hb
     rcases hb with rfl|rfl
     ·exact elt
     ·exact ilt
    rw[K5 (zW hb')]
    exact(hf b hb).1
 done:=by
  intro X hP hw hK hc i pins s O H E I hf st hg
  subst hP hw hK
  obtain⟨xs,q1,hend⟩:=hg
  obtain⟨its,r1,c1,z1⟩:=I.list q1
  obtain⟨⟨old,s1⟩,s2⟩:=st
  have hl:=r1.length
  refine wpAny_pyNext_enum_end (I.ok.hd hc) s1 s2 c1.isList (by simp;lia) λg b7=>⟨rfl,bY6 (t':=s.toks) I hf λb o hb q=>?_⟩
  simp only[zi,zu,or_false,not_or]at hb
  exact b7 b o hb.2 q
 self:=λ_ _ _ _ _ st h=>by obtain⟨⟨old,s1⟩,_⟩:=st;exact Js s1 h
def fX9(K:zk)(ta:TA):TI:=λO H R=>ta O H λvs H1=>∃a xs,vs= [.ref a]/\SqL K H1 a xs/\R (Ite K a) H1
section
variable{X:Cx}{Z:XC}
theorem eN9{es:List Expr}{x1:Nat}{tp:Pos}{a:Expr}{ta:TA}{p pos:Pos}(hg:Gl X "enumerate")(hm:X.mg "enumerate" =none)(ha:PA X [a] ta)(hs:zJ [a] X.env= [(false,eval a X.env)])(hbt:zR "enumerate" =some (.type "enumerate")):
 PI X (.Tuple es x1 tp) (.Call (.Name "enumerate" p) [a] [] pos) (fX9 X.K ta):=by
 intro pins s O H R I h
 refine Jv (aW2 I hg hm hbt (jw (thn (ha pos pins s O H _ I h) λus s1 hE1=>hE1.elim λvs H1 I1 r1 q1=>?_) hs rfl))
 obtain⟨l,xs,rfl,q1,q⟩:=q1
 obtain⟨u1,rfl,ru1⟩:=aT1 r1
 cases ru1
 obtain⟨its,rr,c1,z1⟩:=I1.list q1
 refine call_enumerate_list c1.isList λg b1 b2 b3 b4=>Js b1 ?_
 have hne: @Ne Nat (s1.heap.objs.size+1) s1.heap.objs.size:=by lia
 refine⟨s1.heap.objs.size+1, [s1.heap.objs.size+1,s1.heap.objs.size],_,Ite X.K l,H1,rfl,I1.kept (t':=s1.toks) b4,dQ2 hne,⟨⟨_,b1⟩,b2⟩,λb hb=>?_,q⟩
 have hb':s1.heap.objs.size<=b:=by
  simp only[zi,zu,or_false]at hb
  rcases hb with rfl|rfl
  ·exact jh _
  ·exact zd _
 exact I1.fpOk hb' (I1.hok.fresh hb')
variable{tg e:Expr}
open Classical in
noncomputable def ckO(r:Nat)(o:DO):DH->Bool:=λG=>decide (G[r]? =some o)
def aK6:D->M Src:=λx=>match x with
 | .tup l=>pure ⟨l,λ_=>true⟩
 | .ref r=>do
   let o <-V6 r
   let l <-listOf o
   pure ⟨l,ckO r o⟩
 |_=>M.stuck
def fY3(c:Wc)(U:List Addr)(H:Hp)(k:Bool)(a:Addr)(s:Src):Prop:=∀ X2 G' H',Ext U H X2 H'->J8 c X2 G' H'->s.ck G'=true->∃vs,Sq c.K k H' a vs/\J0 c X2 H' s.items vs
theorem bD5{α:Type}{c:Wc}{U:List Addr}{H:Hp}{G:DH}{d:D}{v:V}{f:Src->M α}{K:α->List Addr->DH->Hp->Prop}(h:J8 c U G H)(r:j9 c U H d v)(p:g8 c Z U H ((aK6 d >>= f) G) K):
 ∃s k a vs,v= .ref a/\Sq c.K k H a vs/\J0 c U H s.items vs/\fY3 c U H k a s/\s.ck G=true/\(∀i,d= .ref i->k=false)/\g8 c Z U H (f s G) K:=by
 rcases d with _|_|_|_|l|i|_|_<;>try (exact p.elim;done)
 ·
   unfold j9 at r
   obtain⟨a,vs,rfl,q,rl⟩:=r
   exact⟨⟨l,λ_=>true⟩,true,a,vs,rfl,q,rl,λX2 G' H' x h' _=>⟨vs,x.sqT q,rl.mono x⟩,rfl,(λi z=>nomatch z),p⟩
 ·
   unfold j9 at r
   obtain⟨a,m,rfl⟩:=r
   have p':g8 c Z U H ((V6 i >>= λo=>(listOf o >>= λl=>(pure ⟨l,ckO i o⟩:M Src)) >>= f) G) K:=by rw[<-M.bind_assoc];exact p
   obtain⟨o,g,p2⟩:=U6 p'
   have ro:=h.obj i o a g m
   have ck:ckO i o G=true:=by unfold ckO;simp[g]
   cases o with
   |lst l=>
     obtain⟨vs,q,rl⟩:=ro
     refine⟨⟨l,ckO i (.lst l)⟩,false,a,vs,rfl,SqL.of q,rl,λX2 G' H' x h' hck=>?_,ck,(λ_ _=>rfl),p2⟩
     have g':G'[i]? =some (.lst l):=by unfold ckO at hck;simpa using hck
     obtain⟨vs',q',rl'⟩:=h'.obj i _ a g' (cO2 x.pre m)
     exact⟨vs',SqL.of q',rl'⟩
   |rol l=>
     obtain⟨vs,q,rl⟩:=ro
     refine⟨⟨l,ckO i (.rol l)⟩,false,a,vs,rfl,q.sq,rl,λX2 G' H' x h' hck=>?_,ck,(λ_ _=>rfl),p2⟩
     have g':G'[i]? =some (.rol l):=by unfold ckO at hck;simpa using hck
     obtain⟨vs',q',rl'⟩:=h'.obj i _ a g' (cO2 x.pre m)
     exact⟨vs',q'.sq,rl'⟩
   |dct l=>exact p2.elim
   |rod l=>exact p2.elim
theorem dE3{c:Wc}{U:List Addr}{H:Hp}{l:List D}{vs:List V}{i:Nat}{d:D}{x:V}(r:J0 c U H l vs)(h:l[i]? =some d)(hx:vs[i]? =some x):j9 c U H d x:=by
 obtain⟨v,e,q⟩:=r.get h
 rw[hx]at e
 cases e
 exact q
noncomputable def K6(lo:Int)(n:Nat):List D:=(jB n).map fun(i:Nat)=>D.int (lo+(i:Int))
def aG0(fs:DSt->M (List D)):DSt->M Src:=λO=>do
 match <-fs O with
 |[.int j]=>if -(2 ^ 62)<=j/\j<2 ^ 62 then pure ⟨K6 0 j.toNat,λ_=>true⟩else M.stuck
 |_=>M.stuck
def bG5(fs:DSt->M (List D)):DSt->M Src:=λO=>do
 match <-fs O with
 |[.int i,.int j]=>if -(2 ^ 62)<=i/\i<2 ^ 62/\ -(2 ^ 62)<=j/\j<2 ^ 62 then pure ⟨K6 i (j-i).toNat,λ_=>true⟩else M.stuck
 |_=>M.stuck
theorem cD7{c:Wc}{U:List Addr}{H:Hp}(lo:Int)(n:Nat):ItD c U H (Itr lo n) ⟨K6 lo n,λ_=>true⟩:=λX2 G' H' x' h' _ i=>by
 refine⟨λd hd=>?_,λhi=>?_⟩
 · have hi:i<n:=by have:=lt_of_get hd;simpa [K6]using this
   have e:d= .int (lo+i):=by
    unfold K6 at hd
    rw[jl,Xr hi]at hd
    simp at hd
    exact hd.symm
   subst e
   exact⟨hi,λx H2 ⟨e1,e2⟩=>by subst e1 e2;exact⟨Ext.refl _ _,h',ofI⟩⟩
 · show n<=i
   simpa [K6]using hi
theorem eJ2{a:Expr}{fs:DSt->M (List D)}{p pos:Pos}(hg:Gl X "range")(hm:X.mg "range" =none)(ha:DA X Z [a] fs)(hs:zJ [a] X.env= [(false,eval a X.env)]):DI X Z tg (.Call (.Name "range" p) [a] [] pos) (aG0 fs):=
 DI.of (dM3 hg hm ha.h hs) λO H R hE0=>hE0.elim λX9 U G s h p=>⟨X9,U,G,s,h,(g8.bind p).mono λds X0 G1 H1 x1 h1 p1 vs rv=>by
  rcases ds with _|⟨_|_|j|_|_|_|_|_,_|⟨_,_⟩⟩<;>dsimp only at p1<;>try exact p1.elim
  · split at p1
    · rename_i hj
      obtain⟨v,t,rfl,r0,e⟩:=rv
      cases e
      exact⟨j,by rw[aJ2 r0],hj.1,hj.2,g8.ok p1 h1 _ (cD7 0 _)⟩
    ·exact p1.elim⟩
theorem eJ8{a b:Expr}{fs:DSt->M (List D)}{p pos:Pos}(hg:Gl X "range")(hm:X.mg "range" =none)(ha:DA X Z [a,b] fs)(hs:zJ [a,b] X.env= [(false,eval a X.env),(false,eval b X.env)])(hs2:zJ [b] X.env= [(false,eval b X.env)]):DI X Z tg (.Call (.Name "range" p) [a,b] [] pos) (bG5 fs):=
 DI.of (dL1 hg hm ha.h hs hs2) λO H R hE0=>hE0.elim λX9 U G s h p=>⟨X9,U,G,s,h,(g8.bind p).mono λds X0 G1 H1 x1 h1 p1 vs rv=>by
  rcases ds with _|⟨_|_|i|_|_|_|_|_,t⟩<;>try exact p1.elim
  rcases t with _|⟨_|_|j|_|_|_|_|_,_|⟨_,_⟩⟩<;>dsimp only at p1<;>try exact p1.elim
  · split at p1
    · rename_i hj
      obtain⟨v,t,rfl,r0,v1,t1,rfl,r1,e⟩:=rv
      cases e
      exact⟨i,j,by rw[aJ2 r0,aJ2 r1],hj,g8.ok p1 h1 _ (cD7 i _)⟩
    ·exact p1.elim⟩
def bZ0(fs:DSt->M (List D)):DSt->M Src:=λO=>do
 match <-fs O with
 |[a,b]=>do
   let s1 <-aK6 a
   let s2 <-aK6 b
   pure ⟨(s1.items.zip s2.items).map λp=>.tup [p.1,p.2],λG=>s1.ck G&&s2.ck G⟩
 |_=>M.stuck
def bQ2(fs:DSt->M (List D)):DSt->M Src:=λO=>do
 match <-fs O with
 |[.ref r]=>do
   let s <-aK6 (.ref r)
   pure ⟨s.items.zipIdx.map λp=>.tup [.int ((p.2:Nat):Int),p.1],s.ck⟩
 |_=>M.stuck
theorem dC7{c:Wc}{U:List Addr}{H:Hp}{G:DH}{q:Addr}{ds:List D}{vs:List V}(h:J8 c U G H)(hq:H q=none)(r:J0 c U H ds vs):Ext U H U (upd H q (.tup vs))/\J8 c U G (upd H q (.tup vs))/\j9 c U (upd H q (.tup vs)) (.tup ds) (.ref q):=by
 have k:Ext U H U (upd H q (.tup vs)):=Ext.lay hq _
 refine⟨k,h.same k λa o e n=>by rw[K5 (K7 e hq)];exact e,?_⟩
 unfold j9
 exact⟨q,vs,rfl,SqT.of T7,r.mono k⟩
theorem fI5{es:List Expr}{x1:Nat}{tp:Pos}{a b:Expr}{fs:DSt->M (List D)}{p pos:Pos}(hg:Gl X "zip")(hm:X.mg "zip" =none)(ha:DA X Z [a,b] fs)(hs:zJ [a,b] X.env= [(false,eval a X.env),(false,eval b X.env)])(hs2:zJ [b] X.env= [(false,eval b X.env)])(hbt:zR "zip" =some (.type "zip")):
 DI X Z (.Tuple es x1 tp) (.Call (.Name "zip" p) [a,b] [] pos) (bZ0 fs):=
 DI.of (fH5 hg hm ha.h hs hs2 hbt) λO H R hE0=>hE0.elim λX9 U G s h p=>⟨X9,U,G,s,h,(g8.bind p).mono λds X0 G1 H1 x1 h1 p1 vs rv=>by
  rcases ds with _|⟨d1,_|⟨d2,_|⟨_,_⟩⟩⟩<;>dsimp only at p1<;>try exact p1.elim
  · obtain⟨v1,t1,rfl,r1,v2,t2,rfl,r2,e⟩:=rv
    cases e
    obtain⟨s1,k1,a1,w1,rfl,q1,l1,is1,ck1,_,p2⟩:=bD5 h1 r1 p1
    obtain⟨s2,k2,a2,w2,rfl,q2,l2,is2,ck2,_,p3⟩:=bD5 h1 r2 p2
    refine⟨k1,k2,a1,a2,w1,w2,rfl,q1,q2,g8.ok p3 h1 _ λX2 G' H' x' h' ck' i=>?_⟩
    have ck'':s1.ck G'=true/\s2.ck G'=true:=by simpa using ck'
    obtain⟨u1,q1',l1'⟩:=is1 X2 G' H' x' h' ck''.1
    obtain⟨u2,q2',l2'⟩:=is2 X2 G' H' x' h' ck''.2
    refine⟨λd hd=>?_,λhi=>?_⟩
    · rw[jl]at hd
      rcases hz:(s1.items.zip s2.items)[i]? with _|pr
      ·rw[hz]at hd;cases hd
      ·
        rw[hz]at hd
        obtain⟨e1,e2⟩:=pr
        have hd':d= .tup [e1,e2]:=by simpa using hd.symm
        subst hd'
        rw[jU]at hz
        obtain⟨y1,hy1,ry1⟩:=l1'.get hz.1
        obtain⟨y2,hy2,ry2⟩:=l2'.get hz.2
        refine⟨⟨u1,u2,y1,y2,q1',q2',hy1,hy2⟩,λx H2 ⟨q,z1,z2,hq,ex,eH,f1,f2⟩=>?_⟩
        subst ex eH
        have g1:=f1 u1 q1'
        have g2:=f2 u2 q2'
        rw[hy1]at g1
        rw[hy2]at g2
        cases g1
        cases g2
        exact dC7 h' hq ⟨y1,_,rfl,ry1,y2,_,rfl,ry2,rfl⟩
    · refine⟨u1,u2,q1',q2',?_⟩
      rw[<-l1'.length,<-l2'.length]
      simp at hi
      lia⟩
theorem eK1{es:List Expr}{x1:Nat}{tp:Pos}{a:Expr}{fs:DSt->M (List D)}{p pos:Pos}(hg:Gl X "enumerate")(hm:X.mg "enumerate" =none)(ha:DA X Z [a] fs)(hs:zJ [a] X.env= [(false,eval a X.env)])(hbt:zR "enumerate" =some (.type "enumerate")):
 DI X Z (.Tuple es x1 tp) (.Call (.Name "enumerate" p) [a] [] pos) (bQ2 fs):=
 DI.of (eN9 hg hm ha.h hs hbt) λO H R hE0=>hE0.elim λX9 U G s h p=>⟨X9,U,G,s,h,(g8.bind p).mono λds X0 G1 H1 x1 h1 p1 vs rv=>by
  rcases ds with _|⟨_|_|_|_|_|r|_|_,_|⟨_,_⟩⟩<;>dsimp only at p1<;>try exact p1.elim
  · obtain⟨v1,t1,rfl,r1,e⟩:=rv
    cases e
    obtain⟨s1,k1,a1,w1,rfl,q1,l1,is1,ck1,hk,p2⟩:=bD5 h1 r1 p1
    have hk:=hk r rfl
    subst hk
    refine⟨a1,w1,rfl,q1,g8.ok p2 h1 _ λX2 G' H' x' h' ck' i=>?_⟩
    obtain⟨u1,q1',l1'⟩:=is1 X2 G' H' x' h' ck'
    refine⟨λd hd=>?_,λhi=>?_⟩
    · rw[jl,List.getElem?_zipIdx]at hd
      rcases hz:s1.items[i]? with _|e1
      ·rw[hz]at hd;cases hd
      ·
        rw[hz]at hd
        have hd':d= .tup [.int ((i:Nat):Int),e1]:=by simpa using hd.symm
        subst hd'
        obtain⟨y1,hy1,ry1⟩:=l1'.get hz
        refine⟨⟨u1,y1,q1',hy1⟩,λx H2 ⟨q,z1,hq,ex,eH,f1⟩=>?_⟩
        subst ex eH
        have g1:=f1 u1 q1'
        rw[hy1]at g1
        cases g1
        exact dC7 h' hq ⟨_,_,rfl,ofI,y1,_,rfl,ry1,rfl⟩
    · refine⟨u1,q1',?_⟩
      rw[<-l1'.length]
      simpa using hi⟩
end
def W8:List D->M D:=λds=>match ds with
 |[.str z]=>if z.length<=zh then pure (.int z.length)else M.stuck
 |[.tup l]=>pure (.int l.length)
 |[.ref r]=>do
   match <-V6 r with
   | .lst l=>pure (.int l.length)
   | .rol l=>pure (.int l.length)
   | .dct l=>pure (.int l.length)
   | .rod _=>M.stuck
 |_=>M.stuck
def aL8:List D->M D:=λds=>match ds with
 |[.tup l]=>pure (.tup l)
 |[.ref r]=>do
   let l <-V6 r >>= listOf
   pure (.tup l)
 |_=>M.stuck
def bH9:List D->M D:=λds=>match ds with
 |[.tup l]=>S6 (.lst l)
 |[.ref r]=>do
   let l <-V6 r >>= listOf
   S6 (.lst l)
 |_=>M.stuck
def dL0:List D->M D:=λds=>match ds with
 |[.int i,.int j]=>pure (.int (if j<i then j else i))
 |_=>M.stuck
def cQ1:List D->M D:=λds=>match ds with
 |[.int i]=>pure (.int i)
 |[.bl k]=>pure (.int (if k then 1 else 0))
 |_=>M.stuck
noncomputable def aY8:List D->Option (List Int)
 |[]=>some []
 | .int i::r=>(aY8 r).map (i :: ·)
 |_=>none
noncomputable def bV9:List D->Option (List Bool)
 |[]=>some []
 | .bl b::r=>(bV9 r).map (b :: ·)
 |_=>none
def dO9:List D->M D:=λds=>match ds with
 |[.ref r]=>do
   let l <-V6 r >>= listOf
   let ns <-bB7 (aY8 l)
   pure (.int ns.sum)
 |_=>M.stuck
def aY1:List D->M D:=λds=>match ds with
 |[.ref r]=>do
   let l <-V6 r >>= listOf
   let bs <-bB7 (bV9 l)
   pure (.bl (bs.all id))
 |_=>M.stuck
theorem dU0{α:Type}{F:List D->M α}{c:Wc}{Z:XC}{U:List Addr}{H:Hp}{G:DH}{K:α->List Addr->DH->Hp->Prop}{ds:List D}(p:g8 c Z U H (F ds G) K)(h0:F []=M.stuck)(h2:∀a b t,F (a::b::t)=M.stuck)(hn:F [.non]=M.stuck)(hb:∀b,F [.bl b]=M.stuck)(hi:∀b,F [.int b]=M.stuck)(hs:∀b,F [.str b]=M.stuck)(ht:∀b,F [.tup b]=M.stuck)(hf:∀b,F [.fn b]=M.stuck)(hy:∀b,F [.ty b]=M.stuck):∃r,ds= [.ref r]:=by
 rcases ds with _|⟨d,_|⟨_,_⟩⟩
 ·rw[h0]at p;exact p.elim
 · rcases d with _|b|b|b|b|b|b|b
   ·rw[hn]at p;exact p.elim
   ·rw[hb]at p;exact p.elim
   ·rw[hi]at p;exact p.elim
   ·rw[hs]at p;exact p.elim
   ·rw[ht]at p;exact p.elim
   ·exact⟨b,rfl⟩
   ·rw[hf]at p;exact p.elim
   ·rw[hy]at p;exact p.elim
 ·rw[h2]at p;exact p.elim
section
variable{X:Cx}{Z:XC}{c:Wc}{U:List Addr}{H:Hp}{G:DH}
theorem bK2{d:D}{vs:List V}(r:J0 c U H [d] vs):∃v,vs= [v]/\j9 c U H d v:=by
 obtain⟨v,t,rfl,q,e⟩:=r
 cases e
 exact⟨v,rfl,q⟩
theorem fI6{d e:D}{vs:List V}(r:J0 c U H [d,e] vs):∃v w,vs= [v,w]/\j9 c U H d v/\j9 c U H e w:=by
 obtain⟨v,t,rfl,q,v',t',rfl,q',z⟩:=r
 cases z
 exact⟨v,v',rfl,q,q'⟩
theorem fC5:aE6 X Z (.builtin "len") W8:=aE6.of (aE5.or cL4 (aE5.or cN0 dN2)) λxs H Q hE0=>hE0.elim λds U G rl hr p=>by
 rcases ds with _|⟨_|_|_|z|l|i|_|_,_|⟨_,_⟩⟩<;>try exact p.elim
 all_goals (delta W8 at p;dsimp only at p)
 · obtain⟨v,rfl,r⟩:=bK2 rl
   split at p
   · rename_i hz
     exact .inr (.inl ⟨z,by rw[bB8 r],hz,g8.ok p hr _ ofI⟩)
   ·exact p.elim
 · obtain⟨v,rfl,r⟩:=bK2 rl
   unfold j9 at r
   obtain⟨a,vs,rfl,q,rl'⟩:=r
   exact .inl ⟨a,vs,rfl,.inr q,by rw[<-rl'.length];exact g8.ok p hr _ ofI⟩
 · obtain⟨v,rfl,r⟩:=bK2 rl
   unfold j9 at r
   obtain⟨a,m,rfl⟩:=r
   obtain⟨o,g,p1⟩:=U6 p
   have ro:=hr.obj i o a g m
   rcases o with l|l|l|l
   ·obtain⟨vs,q,rl'⟩:=ro;exact .inl ⟨a,vs,rfl,.inl (SqL.of q),by rw[<-rl'.length];exact g8.ok p1 hr _ ofI⟩
   ·obtain⟨vs,q,rl'⟩:=ro;exact .inl ⟨a,vs,rfl,.inl q.sq,by rw[<-rl'.length];exact g8.ok p1 hr _ ofI⟩
   ·obtain⟨kvs,q,rk⟩:=ro;exact .inr (.inr ⟨a,kvs,rfl,q,by rw[<-rk.length];exact g8.ok p1 hr _ ofI⟩)
   ·exact p1.elim
theorem aJ0{α:Type}{r:Nat}{v:V}{f:List D->M α}{K:α->List Addr->DH->Hp->Prop}(h:J8 c U G H)(rv:j9 c U H (.ref r) v)(p:g8 c Z U H (((V6 r >>= listOf) >>= f) G) K):
 ∃l a vs,v= .ref a/\J0 c U H l vs/\SqL c.K H a vs/\g8 c Z U H (f l G) K:=by
 obtain⟨l,a,vs,rfl,rl,p2,hq⟩:=bD7 (d:=.ref r) (f:=f) h rv p
 refine⟨l,a,vs,rfl,rl,?_,p2⟩
 rcases hq with⟨z,_⟩|⟨_,_,_,⟨_,q⟩|⟨_,q⟩⟩
 ·cases z
 ·exact SqL.of q
 ·exact q.sq
theorem eA2:aE6 X Z (.type "tuple") aL8:=aE6.of cB7 λxs H Q hE0=>hE0.elim λds U G rl hr p=>by
 rcases ds with _|⟨_|_|_|_|l|i|_|_,_|⟨_,_⟩⟩<;>try exact p.elim
 all_goals (delta aL8 at p;dsimp only at p)
 · obtain⟨v,rfl,r⟩:=bK2 rl
   have r':=r
   unfold j9 at r'
   obtain⟨a,vs,rfl,q,rl'⟩:=r'
   exact⟨a,vs,rfl,.inr ⟨q,g8.ok p hr _ r⟩⟩
 · obtain⟨v,rfl,r⟩:=bK2 rl
   obtain⟨l,a,vs,rfl,rl',q,p2⟩:=aJ0 hr r p
   exact⟨a,vs,rfl,.inl ⟨q,λl' hl=>aY5 hr rl' p2 l' hl⟩⟩
theorem eL0:aE6 X Z (.type "list") bH9:=aE6.of cL6 λxs H Q hE0=>hE0.elim λds U G rl hr p=>by
 rcases ds with _|⟨_|_|_|_|l|i|_|_,_|⟨_,_⟩⟩<;>try exact p.elim
 all_goals (delta bH9 at p;dsimp only at p)
 · obtain⟨v,rfl,r⟩:=bK2 rl
   unfold j9 at r
   obtain⟨a,vs,rfl,q,rl'⟩:=r
   exact⟨a,vs,rfl,.inr q,λl' hl=>aE9 hr rl' p l' hl⟩
 · obtain⟨v,rfl,r⟩:=bK2 rl
   obtain⟨l,a,vs,rfl,rl',q,p2⟩:=aJ0 hr r p
   exact⟨a,vs,rfl,.inl q,λl' hl=>aE9 hr rl' p2 l' hl⟩
theorem fC1(hc:X.calm=true):aE6 X Z (.builtin "min") dL0:=aE6.of (dP7 hc) λxs H Q hE0=>hE0.elim λds U G rl hr p=>by
 delta dL0 at p
 rcases ds with _|⟨_|_|i|_|_|_|_|_,t⟩<;>try exact p.elim
 rcases t with _|⟨_|_|j|_|_|_|_|_,_|⟨_,_⟩⟩<;>try exact p.elim
 obtain⟨v,w,rfl,r,r'⟩:=fI6 rl
 exact⟨_,_,by rw[aJ2 r,aJ2 r'],g8.ok p hr _ ofI⟩
theorem fD6:aE6 X Z (.type "int") cQ1:=aE6.of dJ3 λxs H Q hE0=>hE0.elim λds U G rl hr p=>by
 rcases ds with _|⟨_|_|_|_|_|_|_|_,_|⟨_,_⟩⟩<;>try exact p.elim
 all_goals (delta cQ1 at p;dsimp only at p)
 · obtain⟨v,rfl,r⟩:=bK2 rl
   exact .inr ⟨_,by rw[cC8 r],g8.ok p hr _ ofI⟩
 · obtain⟨v,rfl,r⟩:=bK2 rl
   exact .inl ⟨_,by rw[aJ2 r],g8.ok p hr _ ofI⟩
theorem cE4:∀ {l:List D} {ns:List Int} {vs:List V} {us:List ze},aY8 l=some ns->J0 c U H l vs->J7 vs us->us.length=ns.length/\∀(i:Nat) (u:ze),us[i]? =some u->∃t,u=Value.int (ns.getD i 0) t
 |[],_,_,_,e,r,q=>by cases e;cases r;cases q;exact⟨rfl,λi u h=>by simp at h⟩
 |d::ds,ns,_,_,e,r,q=>by
   obtain⟨v,t,rfl,r0,rt⟩:=r
   cases q with
   |cons q0 qt=>
     rcases d with _|_|n|_|_|_|_|_<;>try (cases e;done)
     ·
       replace e:(aY8 ds).map (n :: ·)=some ns:=e
       rcases h:aY8 ds with _|ms
       ·rw[h]at e;exact J4 e
       ·
         rw[h]at e
         cases e
         obtain⟨h1,h2⟩:=cE4 h rt qt
         refine⟨by simp[h1],λi u hu=>?_⟩
         cases i with
         |zero=>
           simp at hu;subst hu
           rw[aJ2 r0]at q0
           exact q0
         |succ i=>simpa using h2 i u (by simpa using hu)
theorem cS1:∀ {l:List D} {bs:List Bool} {vs:List V} {us:List ze},bV9 l=some bs->J0 c U H l vs->J7 vs us->us.length=bs.length/\∀(i:Nat) (u:ze),us[i]? =some u->u=Value.bool (bs.getD i false)
 |[],_,_,_,e,r,q=>by cases e;cases r;cases q;exact⟨rfl,λi u h=>by simp at h⟩
 |d::ds,ns,_,_,e,r,q=>by
   obtain⟨v,t,rfl,r0,rt⟩:=r
   cases q with
   |cons q0 qt=>
     rcases d with _|n|_|_|_|_|_|_<;>try (cases e;done)
     ·
       replace e:(bV9 ds).map (n :: ·)=some ns:=e
       rcases h:bV9 ds with _|ms
       ·rw[h]at e;exact J4 e
       ·
         rw[h]at e
         cases e
         obtain⟨h1,h2⟩:=cS1 h rt qt
         refine⟨by simp[h1],λi u hu=>?_⟩
         cases i with
         |zero=>
           simp at hu;subst hu
           rw[cC8 r0]at q0
           exact q0
         |succ i=>simpa using h2 i u (by simpa using hu)
theorem dL4(bs:List Bool):((jB bs.length).all λi=>bs.getD i false)=bs.all id:=by
 induction bs with
 |nil=>rfl
 |cons b t ih=>rw[zp,YT,zB,yK,zB];simp[Zo];rw[<-ih];simp
theorem cG6{pins:PNS}{O:St}{s:zm}{a:Addr}{its:List ze}(hc:X.calm=true)(I:Inv X pins O H s)(hl:s.heap.IsList a its.toArray){Q:VSP}{E:VSP}
 (h:Walks X.prog X.w X.A.in1 s.heap.objs.size [s.heap.objs.size,a] [s.heap.objs.size] its.toArray.size (λi v=>its.toArray[i]? =some v) (λi h=>h.IsListIter s.heap.objs.size a i/\h.IsList a its.toArray)->
   ∀h2:Heap,(h2.IsListIter s.heap.objs.size a 0/\h2.IsList a its.toArray)->(∀b∈ [s.heap.objs.size,a],b<h2.objs.size)->(∀h' tk,(∀b o,b∉ [s.heap.objs.size]->h2.get? b=some o->h'.get? b=some o)->Inv X pins O H {s with heap:=h',toks:=tk})->Q (.ref s.heap.objs.size) {s with heap:=h2}):
 zy (zH X.prog X.w) X.A.in1 (pyIter (.ref a)) Q E s:=by
 have hlt:a<s.heap.objs.size:=by obtain⟨_,e,_⟩:=hl;exact zA e
 refine Yc hl ?_
 have hh:X.A.in1.handled=none:=I.ok.hd hc
 refine h (Walks.list hh s.heap.objs.size a (zW hlt) its.toArray) _ ⟨⟨_,zC _ rfl,rfl,rfl⟩,hl.push _⟩ (λb hb=>?_) λh' tk k=>?_
 · rw[jX]
   simp only[zi,zu,or_false]at hb
   rcases hb with rfl|rfl
   ·exact xk _
   ·exact yZ hlt
 ·exact I.kept λb o e=>k b o (by simp only[zq];exact zW (zA e)) (zj _ e)
theorem fF3(hc:X.calm=true):aE6 X Z (.builtin "sum") dO9:=⟨by
 intro pins s O H xs us Q I r hE0
 obtain⟨ds,U,G,rl,hr,p⟩:=hE0
 obtain⟨i,rfl⟩:=dU0 (F:=dO9) p rfl (λa _ _=>by cases a<;>rfl) rfl (λ_=>rfl) (λ_=>rfl) (λ_=>rfl) (λ_=>rfl) (λ_=>rfl) λ_=>rfl
 · obtain⟨v,rfl,rv⟩:=bK2 rl
   obtain⟨u,rfl,ru⟩:=aT1 r
   obtain⟨l,a,vs,rfl,rl',q,p2⟩:=aJ0 hr rv p
   cases ru
   obtain⟨ns,en,p3⟩:=aT7 p2
   obtain⟨its,rr,pl,hz⟩:=I.list q
   obtain⟨h1,h2⟩:=cE4 en rl' rr
   refine call_sum_walkG (cG6 hc I pl.isList λW g hg hb hk=>⟨_,_,_,_,_,_,λi=>ns.getD i 0,rfl,W,hg,hb,λi v hv=>h2 i v (by simpa using hv),λh' tk t' k=>?_⟩)
   refine⟨.int ns.sum,H,hk h' tk k,⟨t',?_⟩,g8.ok p3 hr _ ofI⟩
   have e:=preSum_getD ns its.toArray.size
   rw[e,yB (by rw[zr];lia)]⟩
theorem eW4(hc:X.calm=true):aE6 X Z (.builtin "all") aY1:=⟨by
 intro pins s O H xs us Q I r hE0
 obtain⟨ds,U,G,rl,hr,p⟩:=hE0
 obtain⟨i,rfl⟩:=dU0 (F:=aY1) p rfl (λa _ _=>by cases a<;>rfl) rfl (λ_=>rfl) (λ_=>rfl) (λ_=>rfl) (λ_=>rfl) (λ_=>rfl) λ_=>rfl
 · obtain⟨v,rfl,rv⟩:=bK2 rl
   obtain⟨u,rfl,ru⟩:=aT1 r
   obtain⟨l,a,vs,rfl,rl',q,p2⟩:=aJ0 hr rv p
   cases ru
   obtain⟨bs,en,p3⟩:=aT7 p2
   obtain⟨its,rr,pl,hz⟩:=I.list q
   obtain⟨h1,h2⟩:=cS1 en rl' rr
   refine call_all_walk (cG6 hc I pl.isList λW g hg hb hk=>⟨_,_,_,_,_,_,λi=>bs.getD i false,rfl,W,hg,λi v s' Q' E' hv hq=>?_,λh' tk k=>?_⟩)
   · rw[h2 i v (by simpa using hv)]
     exact xi hq
   · refine⟨.bl (bs.all id),H,hk h' tk k,?_,g8.ok p3 hr _ ofB⟩
     have e:its.toArray.size=bs.length:=by rw[zr];exact h1
     rw[e,dL4];rfl⟩
theorem fN1{x:Str}{n:String}{pos:Pos}(hg:Gl X x)(hm:X.mg x=none)(hv:zR x=some (.type n))(hn:x≠ "__name__")(hd:(x==("__debug__" :Str))=false):DE X Z (.Name x pos) (cE (.ty n)):=
 eB4 (v:=.ty n) (eH2 hg hm hv rfl hn hd) λ_ _=>by unfold j9;rfl
end
def aF4:D->M Bool:=λx=>match x with
 | .non=>pure false
 | .bl b=>pure b
 | .int i=>pure (i != 0)
 | .str y=>if y.length<=zh then pure ((y.length:Int) != 0)else M.stuck
 | .tup l=>pure (!l.isEmpty)
 | .ref r=>do
   match <-V6 r with
   | .lst l=>pure (!l.isEmpty)
   | .rol l=>pure (!l.isEmpty)
   | .dct l=>pure (!l.isEmpty)
   | .rod _=>M.stuck
 |_=>M.stuck
def o7(f:Fe):DSt->M Bool:=λO=>do aF4 (<-f O)
section
variable{X:Cx}{Z:XC}{a b c e:Expr}{fa fb fc:Fe}{pos:Pos}
theorem aK0{cc:Wc}{U:List Addr}{H:Hp}{l:List D}{vs:List V}(r:J0 cc U H l vs):vs.isEmpty=l.isEmpty:=by
 cases l with
 |nil=>cases r;rfl
 |cons _ _=>obtain⟨_,_,rfl,_⟩:=r;rfl
theorem cB0{cc:Wc}{U:List Addr}{H:Hp}{l:List (Key×D)}{vs:List (Key×V)}(r:aI9 cc U H l vs):vs.isEmpty=l.isEmpty:=by
 cases l with
 |nil=>cases r;rfl
 |cons _ _=>obtain⟨_,_,rfl,_⟩:=r;rfl
theorem dS9(ha:DE X Z a fa)(he:∀whole,isTrue a X.env whole= (do let v <-whole;standAt a.pos;holding [v] (truthy v))):DT X Z a (o7 fa):=
 DT.of (dT0 ha.h he) λO H Q hE0=>hE0.elim λX9 U G s h p=>⟨X9,U,G,s,h,(g8.bind p).mono λd X0 G1 H1 x1 h1 p1 v rv=>by
  cases d with
  |non=>rw[dY5 rv];exact⟨false,rfl,g8.ok p1 h1⟩
  |bl b=>rw[cC8 rv];exact⟨b,rfl,g8.ok p1 h1⟩
  |int b=>rw[aJ2 rv];exact⟨_,rfl,g8.ok p1 h1⟩
  |str y=>
    rw[bB8 rv]
    unfold aF4 at p1
    dsimp only at p1
    split at p1
    ·rename_i hz;exact⟨_,⟨hz,rfl⟩,g8.ok p1 h1⟩
    ·exact p1.elim
  |tup l=>
    unfold j9 at rv
    obtain⟨a,vs,rfl,q,rl⟩:=rv
    exact⟨!vs.isEmpty,.inr (.inl ⟨vs,q,rfl⟩),by rw[aK0 rl];exact g8.ok p1 h1⟩
  |ref r=>
    unfold j9 at rv
    obtain⟨a,m,rfl⟩:=rv
    obtain⟨o,g,p2⟩:=U6 p1
    have ro:=h1.obj r o a g m
    cases o with
    |lst l=>obtain⟨vs,q,rl⟩:=ro;exact⟨!vs.isEmpty,.inl ⟨vs,SqL.of q,rfl⟩,by rw[aK0 rl];exact g8.ok p2 h1⟩
    |rol l=>obtain⟨vs,q,rl⟩:=ro;exact⟨!vs.isEmpty,.inl ⟨vs,q.sq,rfl⟩,by rw[aK0 rl];exact g8.ok p2 h1⟩
    |dct l=>obtain⟨vs,q,rl⟩:=ro;exact⟨!vs.isEmpty,.inr (.inr ⟨vs,q,rfl⟩),by rw[cB0 rl];exact g8.ok p2 h1⟩
    |rod l=>exact p2.elim
  |_=>exact p1.elim⟩
def cK9(o o':D->D->M D)(fa fb fc:Fe):Fe:=λO=>do
 let x <-fa O
 let y <-fb O
 if <-cY1 (<-o x y)then o' y (<-fc O)else pure (.bl false)
theorem eC9{op op':CmpOp}{o o':D->D->M D}(ho:OpD X Z (zL op) o)(ho':OpD X Z (zL op') o')(ha:DE X Z a fa)(hb:DE X Z b fb)(hc:DE X Z c fc)
 (hm:lastMarks [op,op'] [b,c]=false):DE X Z (.Compare a [op,op'] [b,c] pos) (cK9 o o' fa fb fc):=
 DE.of (dS1 ho.h ho'.h ha.h hb.h hc.h hm) λO H Q hE0=>hE0.elim λX9 U G s h p=>⟨X9,U,G,s,h,(g8.bind p).mono λx X0 G1 H1 x1 h1 p1 v rv=>
  ⟨X9,X0,G1,s.mono x1,h1,(g8.bind p1).mono λy WU G2 H2 x2 h2 p2 u ru=>⟨x,y,WU,G2,rv.mono x2,ru,h2,(g8.bind p2).mono λz μ3 G3 H3 x3 h3 p3 w rw'=>by
   obtain⟨k,rfl,p4⟩:=cI1 p3
   refine⟨k,cC8 rw',?_⟩
   cases k with
   |true=>exact⟨X9,μ3,G3,s.mono (x1.trans (x2.trans x3)),h3,(g8.bind p4).mono λt μ4 G4 H4 x4 h4 p5 q rq=>⟨y,t,μ4,G4,ru.mono (x3.trans x4),rq,h4,p5⟩⟩
   |false=>exact g8.ok p4 h3 _ ofB⟩⟩⟩
end
noncomputable def cJ4(osc scope:Scope)(N XN:List Str)(caps:List (Option Nat)):Bool:=
 decide (scope.kind= .function)&&scope.names.all (λy=>decide (y.2≠ .cell))&&scope.names.all (λy=>decide (y.2= .local->scope.names.lookup y.1=some .local)) &&
 scope.names.all (λy=>decide (y.2= .free->(osc.names.lookup y.1=some .cell\/osc.names.lookup y.1=some .free)))&&scope.names.all (λy=>decide (y.2= .free->scope.names.lookup y.1=some .free)) &&
 decide (caps.length=N.length)&&(jB caps.length).all λi=>match caps[i]? with
  |some (some j)=>match N[i]?,XN[j]? with
    |some x,some y=>decide (x=y)&&decide ((x,NameKind.free)∈scope.names)
    |_,_=>false
  |_=>true
theorem aN6.of{X:Cx}{osc scope:Scope}{N XN:List Str}{caps:List (Option Nat)}(h:cJ4 osc scope N XN caps=true)(hs:X.env.scope=osc)(hN:X.N=XN):aN6 X scope N caps:=by
 unfold cJ4 at h
 simp only[zg,decide_eq_true_eq,zn]at h
 obtain⟨⟨⟨⟨⟨⟨h1,h2⟩,h3⟩,h4⟩,h5⟩,h6⟩,h7⟩:=h
 refine⟨h1,h2,h3,λy hy e=>?_,h5,h6,λi j e=>?_⟩
 · have:=h4 y hy e
   show X.env.scope.names.lookup y.1=_\/X.env.scope.names.lookup y.1=_
   rw[hs];exact this
 · have hi:i∈jB caps.length:=by rw[yY];exact lt_of_get e
   have q:=h7 i hi
   simp only[e]at q
   rw[hN]
   split at q
   · rename_i x y e1 e2
     simp only[zg,decide_eq_true_eq]at q
     exact⟨x,e1,by rw[e2,q.1],q.2⟩
   ·exact aN7 q
def K4(m:Nat)(fb:Fs):List D->M D:=λds=>do
 match <-fb (ds.map some++jb (m-ds.length) none) with
 | .nx _=>pure .non
 | .rt d=>pure d
 |_=>M.stuck
structure FF(K:zk)(mg:Str->Option ze)(x:Str)(st:Stmt)(ps:List Str)(f:Addr)(fd:jm):Prop where
 F:Fun K x x st f fd
 b:bK6 K fd ps []
 m:mg x=some (.ref f)
theorem dP8{c:Wc}{U:List Addr}{H:Hp}{N:List Str}{ds:List D}{vs:List V}(r:J0 c U H ds vs):N6 c U H (ds.map some++jb (N.length-ds.length) none) (L2.start N vs):=by
 unfold L2.start
 rw[r.length]
 refine⟨by simp[r.length],λi d e=>?_⟩
 by_cases hi:i<ds.length
 · rw[zQ (by simpa using hi),jl]at e
   have hd:ds[i]? =some d:=by
    cases h:ds[i]? with
    |none=>rw[h]at e;exact J4 e
    |some d'=>rw[h]at e;simpa using e
   obtain⟨v,hv,rv⟩:=r.get hd
   refine⟨v,?_,rv⟩
   rw[zQ (by simp;rw[<-r.length];exact hi),jl,hv]
   rfl
 · rw[xE (by simpa using hi),YM]at e
   split at e<;>cases e
theorem U9{P:zE}{w:zP}{K:zk}{mg:Str->Option ze}{base:Heap}{x:Str}{st:Stmt}{f:Addr}{fd:jm}{N ps:List Str}{k n m:Nat}{fb:Fs}(F:FF K mg x st ps f fd)(S:u9 N ps (m7 st))(hn:ps.length=n)(hm:N.length=m)
 (hbody:∀(cdv:ze) (A:zK) (outer:List Env) (s:zm) (H:Hp) (E:XK),aG6 k (A.deeper (envOfC x (m7 st) s.heap.objs.size f cdv))->DB (cW3 CX0 P w K mg base N x (m7 st) f cdv A outer s H E).nox ZF (aA4 st) fb):
 M4 P w K mg base CX0 (k+1) f fd ps (spD ⟨K,mg⟩ n (K4 m fb)):=by
 refine F.F.ok S (λvs H Q E h=>by rw[hn];exact h.1) λcdv A outer s H vs Q E hr h=>⟨_,(hbody cdv A outer s H E hr).h,?_⟩
 obtain⟨hl,ds,U,G,rl,hG,p⟩:=h
 subst hm
 refine⟨_,U,G,dP8 rl,hG,(g8.bind p).mono λfl X0 G1 H1 x1 h1 p1=>?_⟩
 cases fl with
 |nx X9=>exact λO _=>g8.ok p1 h1 _ ofN
 |rt d=>exact λv rv=>g8.ok p1 h1 v rv
 |bk _=>exact p1.elim
 |ct _=>exact p1.elim
def dG9(K:zk):Sp:=λvs H Q _=>∃(a:Addr) (ns:List Int),vs= [.ref a]/\SqL K H a (ns.map V.int)/\eH3 H/\ns.length<=63/\∀H',Q (.bl true) H'
theorem cV6{c:Wc}{U:List Addr}{H:Hp}:∀ns:List Int,J0 c U H (ns.map D.int) (ns.map V.int)
 |[]=>rfl
 |n::t=>⟨.int n,_,rfl,ofI,cV6 t⟩
theorem eW1{P:zE}{w:zP}{K:zk}{mg:Str->Option ze}{base:Heap}{f:Addr}{fd:jm}{k:Nat}{F:List D->M D}(hF:M4 P w K mg base CX0 k f fd ["script"] (spD ⟨K,mg⟩ 1 F))
 (pure:∀ns:List Int,ns.length<=63->∃G',F [.ref 0] [.rol (ns.map D.int)]=some (.ok (.bl true),G')):M4 P w K mg base CX0 k f fd ["script"] (dG9 K):=
 hF.imp λvs H Q E h=>by
  obtain⟨a,ns,rfl,hS,hO,hl,q⟩:=h
  obtain⟨G',e⟩:=pure ns hl
  refine⟨rfl, [.ref 0], [a], [.rol (ns.map D.int)],⟨.ref a, [],rfl,by unfold j9;exact⟨a,rfl,rfl⟩,rfl⟩,⟨rfl,λi j b e1 e2=>?_,λi o b e1 e2=>?_⟩,?_⟩
  · have h1:=lt_of_get e1
    have h2:=lt_of_get e2
    simp at h1 h2
    left;lia
  · have h1:=lt_of_get e2
    simp at h1
    subst h1
    have e1':o= .rol (ns.map D.int):=by simpa using e1.symm
    have e2':b=a:=by simpa using e2.symm
    subst e1' e2'
    refine⟨ns.map V.int,?_,cV6 ns⟩
    rcases hS with(hS|⟨o,hS⟩)|hS
    · rcases hO b with z|⟨o,xs,z⟩
      ·rw[z]at hS;exact J4 hS
      ·rw[z]at hS;cases hS
    ·exact .inl ⟨o,hS⟩
    ·exact .inr (.inr hS)
  · rw[e]
    exact λX2 H' _ _ v rv=>by rw[cC8 rv];exact q H'
theorem fA0:zR "len" =some (.builtin "len"):=by decide +kernel
theorem cC0:zR "isinstance" =some (.builtin "isinstance"):=by decide +kernel
theorem fB2:zR "all" =some (.builtin "all"):=by decide +kernel
theorem fC0:zR "sum" =some (.builtin "sum"):=by decide +kernel
theorem eX8:zR "min" =some (.builtin "min"):=by decide +kernel
theorem dK0:zR "sorted" =some (.builtin "sorted"):=by decide +kernel
theorem dR6:zR "tuple" =some (.type "tuple"):=by decide +kernel
theorem dF3:zR "list" =some (.type "list"):=by decide +kernel
theorem eX4:zR "int" =some (.type "int"):=by decide +kernel
theorem dW4:zR "zip" =some (.type "zip"):=by decide +kernel
theorem cL3:zR "enumerate" =some (.type "enumerate"):=by decide +kernel
end DL
namespace DL
open PySem L2
noncomputable def Wp{α:Type}(m:M α)(G:DH)(Q:α->DH->Prop):Prop:=∃a G',m G=some (.ok a,G')/\Q a G'
section
variable{α β:Type}{G:DH}{Q Q':α->DH->Prop}
theorem Wp.mono{m:M α}(h:Wp m G Q)(k:∀a G',Q a G'->Q' a G'):Wp m G Q':=let ⟨a,G',e,q⟩:=h;⟨a,G',e,k a G' q⟩
theorem m6{a:α}:Wp (pure a) G Q↔Q a G:=by
 constructor
 · rintro⟨b,G',e,q⟩
   cases e
   exact q
 ·exact λq=>⟨a,G,rfl,q⟩
theorem aP4:Wp (M.stuck:M α) G Q↔False:=by
 constructor
 · rintro⟨b,G',e,q⟩
   exact J4 e
 ·exact yA
theorem m8{m:M β}{f:β->M α}:Wp (m >>= f) G Q↔Wp m G λa G1=>Wp (f a) G1 Q:=by
 constructor
 · rintro⟨a,G',e,q⟩
   rw[M.bind_eq]at e
   match h:m G,e with
   |some (.ok b,G1),e=>exact⟨b,G1,h,a,G',e,q⟩
 · rintro⟨b,G1,e,a,G',e',q⟩
   exact⟨a,G',by rw[M.bind_ok e];exact e',q⟩
theorem aK2{m:M α}{a:α}{G':DH}(h:m G=some (.ok a,G')):Wp m G Q↔Q a G':=⟨fun⟨b,G2,e,q⟩=>by rw[h]at e;cases e;exact q,λq=>⟨a,G',h,q⟩⟩
theorem bG0{o:Option α}:Wp (bB7 o) G Q↔∃a,o=some a/\Q a G:=by
 rcases o with _|a
 ·
   constructor
   · rintro⟨_,_,e,_⟩
     exact J4 e
   · rintro⟨_,e,_⟩
     exact J4 e
 ·
   constructor
   · rintro⟨_,_,e,q⟩
     cases e
     exact⟨_,rfl,q⟩
   · rintro⟨_,e,q⟩
     cases e
     exact⟨_,_,rfl,q⟩
theorem U7{r:Nat}{Q:DO->DH->Prop}:Wp (V6 r) G Q↔∃o,G[r]? =some o/\Q o G:=by
 constructor
 · rintro⟨a,G',e,q⟩
   delta V6 at e
   rcases h:G[r]? with _|o
   ·rw[h]at e;exact J4 e
   ·rw[h]at e;cases e;exact⟨_,rfl,q⟩
 · rintro⟨o,e,q⟩
   refine⟨o,G,?_,q⟩
   delta V6
   rw[e]
theorem aF0{o:DO}{Q:DPP}:Wp (S6 o) G Q↔Q (.ref G.length) (G++[o]):=aK2 rfl
theorem bO0{r:Nat}{o:DO}{Q:Unit->DH->Prop}:Wp (bU1 r o) G Q↔Q () (G.set r o):=aK2 rfl
end
section
variable{G:DH}{O:DSt}{Q:DPP}{a b c:Fe}{t u:DSt->M Bool}{P:Fl->DH->Prop}{B:Bool->DH->Prop}
theorem aE1{i:Nat}:Wp (c7 i O) G Q↔∃d,O[i]? =some (some d)/\Q d G:=by
 constructor
 · rintro⟨d,G',e,q⟩
   delta c7 at e
   rcases h:O[i]? with _|o
   ·rw[h]at e;exact J4 e
   ·
     rw[h]at e
     rcases o with _|d'
     ·exact J4 e
     ·cases e;exact⟨_,rfl,q⟩
 · rintro⟨d,h,q⟩
   exact⟨d,G,by delta c7;rw[h],q⟩
theorem bB5{d:D}:Wp (cE d O) G Q↔Q d G:=m6
theorem bO2{o:D->D->M D}:Wp (d7 o a b O) G Q↔Wp (a O) G λx G1=>Wp (b O) G1 λy G2=>Wp (o x y) G2 Q:=by unfold d7;simp only[m8]
theorem fS7{o:D->M D}:Wp (unE o a O) G Q↔Wp (a O) G λx G1=>Wp (o x) G1 Q:=by unfold unE;simp only[m8]
theorem aX1{α:Type}{k:Bool}{m n:M α}{R:α->DH->Prop}:Wp (if k=true then m else n) G R↔if k=true then Wp m G R else Wp n G R:=by cases k<;>exact Iff.rfl
theorem cM9{d:D}:Wp (cY1 d) G B↔∃k,d= .bl k/\B k G:=by
 constructor
 · rintro⟨k,G',e,q⟩
   rcases d with _|b|_|_|_|_|_|_<;>try (cases e;done)
   ·cases e;exact⟨_,rfl,q⟩
 · rintro⟨k,e,q⟩
   subst e
   exact⟨k,G,rfl,q⟩
theorem fK4:Wp (cD1 a O) G Q↔Wp (a O) G λx G1=>∃k,x= .bl k/\Q (.bl (!k)) G1:=by unfold cD1;simp only[m8,cM9,m6]
theorem dC3:Wp (ifE t a b O) G Q↔Wp (t O) G λk G1=>if k=true then Wp (a O) G1 Q else Wp (b O) G1 Q:=by unfold ifE;simp only[m8,aX1]
theorem cL2:Wp (o8 a O) G B↔Wp (a O) G λx G1=>∃k,x= .bl k/\B k G1:=by unfold o8;simp only[m8,cM9]
theorem aD0:Wp (o7 a O) G B↔Wp (a O) G λx G1=>Wp (aF4 x) G1 B:=by unfold o7;simp only[m8]
theorem bV0:Wp (aB3 t u O) G B↔Wp (t O) G λk G1=>if k=true then Wp (u O) G1 B else B false G1:=by unfold aB3;simp only[m8,aX1,m6]
theorem cY9:Wp (orT t u O) G B↔Wp (t O) G λk G1=>if k=true then B true G1 else Wp (u O) G1 B:=by unfold orT;simp only[m8,aX1,m6]
theorem aX0:Wp (R1 t O) G B↔Wp (t O) G λk G1=>B (!k) G1:=by unfold R1;simp only[m8,m6]
variable{R:List D->DH->Prop}{fs:DSt->M (List D)}
theorem o9:Wp (q14 O) G R↔R [] G:=m6
theorem aA8:Wp (q13 a fs O) G R↔Wp (a O) G λx G1=>Wp (fs O) G1 λxs G2=>R (x::xs) G2:=by unfold q13;simp only[m8,m6]
theorem aA6{F:List D->M D}:Wp (q15 F fs O) G Q↔Wp (fs O) G λds G1=>Wp (F ds) G1 Q:=by unfold q15;simp only[m8]
theorem cK3{α:Type}{m:M α}{R:α->DH->Prop}:Wp (noX m) G R↔Wp m G R:=by
 constructor
 · rintro⟨x,G',e,q⟩
   delta noX at e
   rcases h:m G with _|p
   ·rw[h]at e;exact J4 e
   ·
     rw[h]at e
     obtain⟨_|y,G1⟩:=p
     ·exact J4 e
     ·cases e;exact⟨_,_,h,q⟩
 · rintro⟨x,G',e,q⟩
   exact⟨x,G',by delta noX;rw[e],q⟩
theorem aL2{n:Nat}{F:List D->M D}{ds:List D}:Wp (fnX n F ds) G Q↔ds.length=n/\Wp (F ds) G Q:=by
 unfold fnX
 by_cases h:ds.length=n
 ·rw[if_pos h,cK3];exact⟨λq=>⟨h,q⟩,λq=>q.2⟩
 ·rw[if_neg h];exact⟨λq=>(aP4.mp q).elim,λq=>(h q.1).elim⟩
theorem aB7:Wp (v7 fs O) G Q↔Wp (fs O) G λxs G1=>xs.length<=zh/\Q (.tup xs) G1:=by
 unfold v7
 simp only[m8]
 constructor
 · rintro⟨xs,G1,e,q⟩
   refine⟨xs,G1,e,?_⟩
   by_cases h:xs.length<=zh
   ·rw[if_pos h]at q;exact⟨h,m6.mp q⟩
   ·rw[if_neg h]at q;exact(aP4.mp q).elim
 · rintro⟨xs,G1,e,h,q⟩
   exact⟨xs,G1,e,by dsimp only;rw[if_pos h];exact m6.mpr q⟩
theorem aI8:Wp (M6 fs O) G Q↔Wp (fs O) G λxs G1=>xs.length<=zh/\Q (.ref G1.length) (G1++[.lst xs]):=by
 unfold M6
 simp only[m8]
 constructor
 · rintro⟨xs,G1,e,q⟩
   refine⟨xs,G1,e,?_⟩
   by_cases h:xs.length<=zh
   ·rw[if_pos h]at q;exact⟨h,aF0.mp q⟩
   ·rw[if_neg h]at q;exact(aP4.mp q).elim
 · rintro⟨xs,G1,e,h,q⟩
   exact⟨xs,G1,e,by dsimp only;rw[if_pos h];exact aF0.mpr q⟩
variable{f g:Fs}{gg:Fg}
theorem J1:Wp (u0 O) G P↔P (.nx O) G:=m6
theorem m9:Wp (j0 f g O) G P↔Wp (f O) G λfl G1=>match fl with
 | .nx X1=>Wp (g X1) G1 P
 |r=>P r G1:=by
 delta j0
 refine ZW m8 ?_
 constructor
 · rintro⟨fl,G1,e,q⟩
   refine⟨fl,G1,e,?_⟩
   cases fl<;>first
    |exact q
    |exact m6.mp q
 · rintro⟨fl,G1,e,q⟩
   refine⟨fl,G1,e,?_⟩
   cases fl<;>first
    |exact q
    |exact m6.mpr q
theorem aR5:Wp (t8 a O) G P↔Wp (a O) G λd G1=>P (.rt d) G1:=by unfold t8;simp only[m8,m6]
theorem aM6:Wp (aU4 a O) G P↔Wp (a O) G λ_ G1=>P (.nx O) G1:=by unfold aU4;simp only[m8,m6]
theorem bX4:Wp (ifS t f g O) G P↔Wp (t O) G λk G1=>if k=true then Wp (f O) G1 P else Wp (g O) G1 P:=by unfold ifS;simp only[m8,aX1]
theorem aW6:Wp (K3 a gg O) G P↔Wp (a O) G λd G1=>Wp (gg d O) G1 λX1 G2=>P (.nx X1) G2:=by unfold K3;simp only[m8,m6]
theorem Q5{i:Nat}{d:D}{S:DSt->DH->Prop}:Wp (q16 i d O) G S↔S (O.set i (some d)) G:=m6
theorem aK3{m:Nat}{ds:List D}:Wp (K4 m f ds) G Q↔Wp (f (ds.map some++jb (m-ds.length) none)) G λfl G1=>match fl with
 | .nx _=>Q .non G1
 | .rt d=>Q d G1
 |_=>False:=by
 delta K4
 refine ZW m8 ?_
 constructor
 · rintro⟨fl,G1,e,q⟩
   refine⟨fl,G1,e,?_⟩
   cases fl<;>first
    |exact m6.mp q
    |exact aP4.mp q
 · rintro⟨fl,G1,e,q⟩
   refine⟨fl,G1,e,?_⟩
   cases fl<;>first
    |exact m6.mpr q
    |exact aP4.mpr q
noncomputable def eW7(o:Option Bool)(g:Bool->Bool)(G:DH):Option (Except Str D×DH):=match o with
 |some b=>some (.ok (.bl (g b)),G)
 |none=>none
theorem bL3{m:M D}{o:Option Bool}{g:Bool->Bool}(h:m G=eW7 o g G):Wp m G Q↔∃k,o=some k/\Q (.bl (g k)) G:=by
 unfold Wp
 rw[h]
 rcases o with _|k
 ·
   constructor
   · rintro⟨_,_,e,_⟩
     exact J4 e
   · rintro⟨_,e,_⟩
     exact J4 e
 ·
   constructor
   · rintro⟨_,_,e,q⟩
     cases e
     exact⟨_,rfl,q⟩
   · rintro⟨_,e,q⟩
     cases e
     exact⟨_,_,rfl,q⟩
theorem bF2{x y:D}:Wp (eqD x y) G Q↔∃k,eqN 40 G x y=some k/\Q (.bl k) G:=bL3 (g:=id) rfl
theorem bV2{x y:D}:Wp (neD x y) G Q↔∃k,eqN 40 G x y=some k/\Q (.bl (!k)) G:=bL3 (g:=not) rfl
theorem eQ6{x y:D}:Wp (ltD x y) G Q↔∃k,ltN 40 G x y=some k/\Q (.bl k) G:=bL3 (g:=id) rfl
theorem bD6{d:D}{n:String}{T:Ty}(hT:Ty.of n=some T):Wp (o6 [d,.ty n]) G Q↔∃k,aW0 G d=some k/\Q (.bl (k.is T)) G:=by
 have e:o6 [d,.ty n] G=match aW0 G d with|some k=>some (.ok (.bl (k.is T)),G)|none=>none:=by
  delta o6
  dsimp only
  rw[hT]
  cases aW0 G d<;>rfl
 unfold Wp
 rw[e]
 rcases aW0 G d with _|k
 ·
   constructor
   · rintro⟨_,_,e,_⟩
     exact J4 e
   · rintro⟨_,e,_⟩
     exact J4 e
 ·
   constructor
   · rintro⟨_,_,e,q⟩
     cases e
     exact⟨_,rfl,q⟩
   · rintro⟨_,e,q⟩
     cases e
     exact⟨_,_,rfl,q⟩
end
end DL
namespace DL
open PySem PySem.Spec L2
open PyProof.Rows hiding St
section
variable{X:Cx}{Z:XC}{elt tg iter:Expr}{ifs:List Expr}{scope:Scope}{pos:Pos}{N:List Str}{caps:List (Option Nat)}{it:DSt->M Src}{gg:Fg}{tt:DSt->M Bool}{fe:Fe}
end
noncomputable def aL1:List D->Option (List Str)
 |[]=>some []
 | .str x::r=>(aL1 r).map (x :: ·)
 |_=>none
noncomputable def J5:List (Key×D)->Option (List Str)
 |[]=>some []
 |(.inr x,_)::r=>(J5 r).map (x :: ·)
 |_=>none
noncomputable def leS(a b:Str):Bool:= !decide (b.cps.toList<a.cps.toList)
def aE3(l:List Str):List Str:=l.mergeSort leS
theorem bU8{a b:Str}:leS a b=true↔a.cps.toList<=b.cps.toList:=by unfold leS;simp
theorem bO8(a b c:Str)(h1:leS a b=true)(h2:leS b c=true):leS a c=true:=by
 rw[bU8]at *;exact List.le_trans h1 h2
theorem cF2(a b:Str):(leS a b||leS b a)=true:=by
 rw[yS,bU8,bU8];exact List.le_total _ _
theorem bL4{a b:Str}(h1:leS a b=true)(h2:leS b a=true):a=b:=by
 rw[bU8]at *
 have e:a.cps.toList=b.cps.toList:=List.le_antisymm h1 h2
 cases a;cases b
 congr 1
 exact Array.toList_inj.mp e
theorem cE6:∀(l:List Str) (p:Str),risingS p l=true->(p::l).Pairwise λa b=>leS a b=true
 |[],p,_=>by simp
 |x::r,p,h=>by
   unfold risingS at h
   rw[zg]at h
   have ih:=cE6 r x h.2
   have hpx:leS p x=true:=by unfold leS;rw[<-ltCps_eq];exact h.1
   refine yg.mpr ⟨λy hy=>?_,ih⟩
   rcases zi.mp hy with rfl|hy
   ·exact hpx
   ·exact bO8 _ _ _ hpx ((yg.mp ih).1 y hy)
theorem cW6{l l':List Str}(hp:l'.Perm l)(hs:sortedS l'=true):l'=aE3 l:=by
 have h1:l'.Pairwise λa b=>leS a b=true:=by
  rcases l' with _|⟨x,r⟩
  ·simp
  ·exact cE6 r x hs
 have h2:(aE3 l).Pairwise λa b=>leS a b=true:=YL bO8 cF2 l
 exact List.Perm.eq_of_pairwise (λa b _ _ h1 h2=>bL4 h1 h2) h1 h2 (hp.trans (yr l leS).symm)
section
variable{prog:zE}{w:zP}{A:zK}{E:VSP}{s:zm}{T:String}{r d:Addr}{n:Nat}{P:Nat->ze->Prop}{OK:Heap->Prop}{Q:VSP}
theorem dA3(K:PySem.W.KdlSrc prog w T r d n P OK)(hh:A.handled=none)(hok:OK s.heap)(hn:n<64){ss:List Str}(hP:∀vs:List ze,vs.length=n->(∀(j:Nat) (v:ze),vs[j]? =some v->P j v)->StrsAre vs ss)
 (h:∀(h1 h':Heap) (tk e:Nat) (out:List ze) (ss':List Str),(∀b o,s.heap.get? b=some o->h1.get? b=some o)->(∀b o,h1.get? b=some o->h'.get? b=some o)->h'.get? h1.objs.size=some (seqObj "list" out.toArray e)->StrsAre out ss'->ss'.Perm ss->sortedS ss'=true->Q (.ref h1.objs.size) {s with heap:=h',toks:=tk}):
 zy (zH prog w) A (call (.builtin "sorted") [.ref r]) Q E s:=by
 have hz:n<=zh:=zv (yN hn) (by decide)
 refine Yn kind_sorted plain_sorted entry_sorted (args_sorted1 _) ?_
 unfold Builtin.«sorted»
 refine za (m:=checkCount "sorted" 1 1 _) (zt ?_)
 refine za (PySem.W.kdu_collect (A:=A.in1) K hh hok hz λh1 tk acc hk hacc=>?_)
 have hl:acc.toList.length=n:=by rw[jQ];exact hacc.1
 refine za (wpAny_newList ?_ (by rw[hl];exact hz))
 have hS:StrsAre acc.toList ss:=hP acc.toList hl λj v e=>hacc.2 j v (by rw[<-xc];exact e)
 have hoL:(h1.push (seqObj "list" acc.toList.toArray 0)).get? h1.objs.size=some (seqObj "list" acc.toList.toArray 0):=zC _ rfl
 refine za (jK (jH slot_list_sort ⟨_,hoL,rfl⟩ entry_list_sort (list_sort_treeK strKind_oneLt hoL hS.keysOf (λv₁ v₂ W9 e=>keyKind_strs (by rw[<-e];exact hS)) (by rw[hl];exact hn) λst' a1 a2=>⟨_,rfl,?_⟩) (args_list_sort _)))
 obtain⟨ss',b1,b2,b3⟩:=sorted_out_str hS a1 a2
 obtain⟨e,he⟩:=sortedHeap_at (vs:=acc.toList) (out:=(arrOf st').map (·.2)) hoL
 refine zt ⟨_,rfl,h h1 _ tk e ((arrOf st').map (·.2)).toList ss' hk (λb o hb=>?_) (by rw[YZ];exact he) b1 b2 b3⟩
 have hlt:b<h1.objs.size:=zA hb
 rw[sortedHeap_old (zW hlt) (by rw[size_push'];exact yZ hlt),XI _ _ _ (zW hlt)]
 exact hb
end
def cO3:List D->M D:=λds=>match ds with
 |[.ref r]=>do
   match <-V6 r with
   | .dct l=>do
     let ss <-bB7 (J5 l)
     if ss.length<64 then S6 (.lst ((aE3 ss).map .str))else M.stuck
   |_=>M.stuck
 |_=>M.stuck
section
variable{X:Cx}{Z:XC}{c:Wc}{U:List Addr}{H:Hp}{G:DH}
theorem bA5:∀ {l:List (Key×D)} {ss:List Str},J5 l=some ss->ss.length=l.length
 |[],_,e=>by cases e;rfl
 |(.inr x,_)::r,ss,e=>by
  replace e:=show (J5 r).map (_ :: ·)=some _ from e
  rcases h:J5 r with _|t
  ·rw[h]at e;cases e
  ·rw[h]at e;cases e;simp[bA5 h]
 |(.inl _,_)::_,_,e=>by cases e
theorem bJ5{P:zE}{w:zP}:∀ {l:List (Key×D)} {ss:List Str} {kvs:List (Key×V)} {xs:List (Key×ze)} {vs:List ze},J5 l=some ss->aI9 c U H l kvs->KV kvs xs->vs.length=xs.length->
 (∀(j:Nat) (v:ze),vs[j]? =some v->∃k x,xs[j]? =some (k,x)/\(V5 P w).is k v=true)->StrsAre vs ss
 |[],_,_,xs,vs,e,r,kv,hl,hv=>by
   cases e;cases r;cases kv
   rcases vs with _|⟨_,_⟩
   ·exact .nil
   ·simp at hl
 |(.inr x,d)::t,ss,kvs,xs,vs,e,r,kv,hl,hv=>by
  replace e:=show (J5 t).map (_ :: ·)=some _ from e
  rcases h:J5 t with _|q
  ·rw[h]at e;cases e
  ·
    rw[h]at e
    cases e
    obtain⟨v0,tl,rfl,r0,rt⟩:=r
    cases kv with
    |cons hk ht=>
      cases vs with
      |nil=>simp at hl
      |cons u us=>
        obtain⟨k,y,e1,e2⟩:=hv 0 u rfl
        simp only[zI,zN]at e1
        have hk1:(Sum.inr x:Key)=_:=hk.1
        rw[e1]at hk1
        have e3:bY2 (.inr x) u=true:=by rw[hk1];exact e2
        rcases S8 e3 with⟨_,_,z,_⟩|⟨x',t',z,eu⟩
        ·cases z
        · cases z
          subst eu
          exact .cons _ _ (bJ5 (P:=P) (w:=w) h rt ht (by simpa using hl) λj v hj=>by simpa using hv (j+1) v (by simpa using hj))
 |(.inl _,_)::_,_,_,_,_,e,_,_,_,_=>by cases e
theorem cB3:∀ {out:List ze} {ss:List Str},StrsAre out ss->∃vs,vs=ss.map V.str/\J7 vs out/\J0 c U H (ss.map D.str) vs
 |_,_,.nil=>⟨[],rfl,.nil,rfl⟩
 |_,_,.cons x t q=>by
   obtain⟨vs,e,h1,h2⟩:=cB3 q
   subst e
   exact⟨_,rfl,.cons ⟨t,rfl⟩ h1,_,_,rfl,by unfold j9;rfl,h2⟩
theorem dJ7(hc:X.calm=true):aE6 X Z (.builtin "sorted") cO3:=⟨by
 intro pins s O H xs us Q I r hE0
 obtain⟨ds,U,G,rl,hr,p⟩:=hE0
 rcases ds with _|⟨_|_|_|_|_|i|_|_,_|⟨_,_⟩⟩<;>try exact p.elim
 all_goals (delta cO3 at p;dsimp only at p)
 · obtain⟨v,rfl,rv⟩:=bK2 rl
   obtain⟨u,rfl,ru⟩:=aT1 r
   unfold j9 at rv
   obtain⟨a,m,rfl⟩:=rv
   cases ru
   obtain⟨o,g,p1⟩:=U6 p
   have ro:=hr.obj i o a g m
   cases o with
   |dct l=>
     obtain⟨kvs,q,rk⟩:=ro
     obtain⟨ss,es,p2⟩:=aT7 p1
     split at p2
     case isFalse=>exact p2.elim
     rename_i h64
     obtain⟨z,hd,vs,rel,dd⟩:=eC7 I.hok q
     obtain⟨ep,hat⟩:=dd.dictAt
     have hn:vs.length=ss.length:=by rw[bA5 es,<-rel.length,<-rk.length]
     refine dA3 (PySem.W.kdl_dict (knd:=V5 X.prog X.w) (kvs:=vs) (ep:=ep) hd) (I.ok.hd hc) hat (by omega) (ss:=ss) (λus hl hu=>bJ5 es rk rel (by omega) hu) λh1 h' tk e out ss' k1 k2 he hS hp hs=>?_
     have e2:=cW6 hp hs
     subst e2
     obtain⟨ws,ew,rv,rl2⟩:=cB3 (c:=wc X) (U:=U) (H:=H) hS
     have I1:Inv X pins O H {s with heap:=h1,toks:=tk}:=I.kept k1
     have hf:=I1.hok.fresh (zd _)
     have hlen:ws.length<=zh:=by
      rw[ew,zo]
      have:=(yr ss leS).length_eq
      have e3:(aE3 ss).length=ss.length:=this
      have:(64:Nat)<=zh:=by decide
      omega
     refine⟨.ref h1.objs.size,upd H h1.objs.size (.lst ws),I1.laid (t':=tk) k2 (zd _) ⟨hlen,out,e,rv,he⟩,rfl,aE9 hr rl2 p2 _ hf⟩
   |lst l=>exact p1.elim
   |rod l=>exact p1.elim
   |rol l=>exact p1.elim⟩
end
noncomputable def Its(z:Str):It:=⟨λi _=>∃c,z.cps[i]? =some c,λi H x H'=>H'=H/\∃c,z.cps[i]? =some c/\x= .str ⟨#[c]⟩,λi _=>z.cps[i]? =none⟩
theorem cX3{P:zE}{w:zP}{K:zk}{tg:Expr}(z:Str)(t:Tok)(it:Addr):bZ7 P w K tg (Its z) [it] it (λi h=>h.IsStrIter it "str_ascii_iterator" z t i) where
 mem:=by simp
 obj:=λi h st b hb=>by
  have e:b=it:=by simpa using hb
  subst e
  obtain⟨o,e,c,d⟩:=st
  exact⟨o,e,λv z=>by rw[d]at z;cases z⟩
 keep:=λi h h' st k=>let ⟨o,ho,r⟩:=st;⟨o,k it (by simp) o ho,r⟩
 item:=by
  intro X hP hw hK hc i pins s O H E I hf st hg
  subst hP hw hK
  obtain⟨c,hx⟩:=hg
  obtain⟨f0,f1,f2,f3,f4,f5⟩:=hf it (by simp)
  refine wpAny_pyNext_ascii_item st hx λh' st' sb=>?_
  have I1:Inv X pins O H {s with heap:=h',toks:=s.toks+1}:=I.turned (t':=s.toks+1) (λb o hb e=>(sb.2 b hb).trans e) f0 f1 f3 f4 f5
  obtain⟨o,e,cc,d⟩:=id st'
  exact⟨_,rfl,cD5 (s:={s with heap:=h',toks:=s.toks+1}) e cc d (by decide) ⟨.str ⟨#[c]⟩,H,I1,⟨_,rfl⟩,⟨rfl,c,hx,rfl⟩,st',λb hb=>(hf b hb).1⟩⟩
 done:=by
  intro X hP hw hK hc i pins s O H E I hf st hg
  subst hP hw hK
  obtain⟨f0,f1,f2,f3,f4,f5⟩:=hf it (by simp)
  exact wpAny_pyNext_ascii_end (I.ok.hd hc) st hg λh' eb=>⟨rfl,I.turned (t':=s.toks) (λb o hb e=>eb b o hb e) f0 f1 f3 f4 f5⟩
 self:=λ_ _ _ _ _ st h=>wpAny_pyIter_striter_ascii st h
theorem dK7{P:zE}{w:zP}{K:zk}{tg:Expr}(z:Str)(t:Tok)(it:Addr):bZ7 P w K tg (Its z) [it] it (λi h=>h.IsStrIter it "str_iterator" z t i) where
 mem:=by simp
 obj:=λi h st b hb=>by
  have e:b=it:=by simpa using hb
  subst e
  obtain⟨o,e,c,d⟩:=st
  exact⟨o,e,λv z=>by rw[d]at z;cases z⟩
 keep:=λi h h' st k=>let ⟨o,ho,r⟩:=st;⟨o,k it (by simp) o ho,r⟩
 item:=by
  intro X hP hw hK hc i pins s O H E I hf st hg
  subst hP hw hK
  obtain⟨c,hx⟩:=hg
  obtain⟨f0,f1,f2,f3,f4,f5⟩:=hf it (by simp)
  refine wpAny_pyNext_wide_item st hx λh' st' sb=>?_
  have I1:Inv X pins O H {s with heap:=h',toks:=s.toks+1}:=I.turned (t':=s.toks+1) (λb o hb e=>(sb.2 b hb).trans e) f0 f1 f3 f4 f5
  obtain⟨o,e,cc,d⟩:=id st'
  exact⟨_,rfl,cD5 (s:={s with heap:=h',toks:=s.toks+1}) e cc d (by decide) ⟨.str ⟨#[c]⟩,H,I1,⟨_,rfl⟩,⟨rfl,c,hx,rfl⟩,st',λb hb=>(hf b hb).1⟩⟩
 done:=by
  intro X hP hw hK hc i pins s O H E I hf st hg
  subst hP hw hK
  obtain⟨f0,f1,f2,f3,f4,f5⟩:=hf it (by simp)
  exact wpAny_pyNext_wide_end (I.ok.hd hc) st hg λh' eb=>⟨rfl,I.turned (t':=s.toks) (λb o hb e=>eb b o hb e) f0 f1 f3 f4 f5⟩
 self:=λ_ _ _ _ _ st h=>wpAny_pyIter_striter_wide st h
section
variable{X:Cx}{Z:XC}{tg e:Expr}
noncomputable def aG9(z:Str):List D:=z.cps.toList.map λc=>.str ⟨#[c]⟩
def eM2:D->M Src:=λx=>match x with
 | .str z=>pure ⟨aG9 z,λ_=>true⟩
 | .tup l=>aK6 (.tup l)
 | .ref r=>aK6 (.ref r)
 |_=>M.stuck
end
section
variable{X:Cx}{Z:XC}{pos p q:Pos}
end
theorem bZ8{P:zE}{w:zP}{K:zk}{mg:Str->Option ze}{base:Heap}{CX:CXT}{k n:Nat}{f:Addr}{fd:jm}{ps:List Str}(hn:ps.length=n):M4 P w K mg base CX k f fd ps (spD ⟨K,mg⟩ n λ_=>M.stuck):=
 ⟨λvs H Q E h=>by rw[hn];exact h.1,λA outer s H args us vs Q E hr=>by
  intros
  rename_i h
  first
   |exact h.2.elim
   |(obtain⟨_,_,_,_,_,_,z⟩:=h;exact z.elim)⟩
end DL
namespace W
open PySem PySem.Spec L2 DL
open PyProof.Rows hiding St
theorem fJ5:Ty.of "int" =some .int:=by rfl
theorem eO8:Ty.of "bool" =some .bool:=by rfl
theorem eB7:Ty.of "tuple" =some .tuple:=by rfl
def aH0(G:DH)(d:D):Prop:=∃k,aW0 G d=some k
theorem st1{d:D}{n:Nat}:([d].map some++jb n none:DSt)[0]? =some (some d):=by rfl
theorem dU3{b:Bool}{P:Bool->Prop}:(∃k,D.bl b= .bl k/\P k)↔P b:=⟨fun⟨k,e,p⟩=>by cases e;exact p,λp=>⟨b,rfl,p⟩⟩
theorem R9{α:Type}{b:α}{P:α->Prop}:(∃k,some b=some k/\P k)↔P b:=⟨fun⟨k,e,p⟩=>by cases e;exact p,λp=>⟨b,rfl,p⟩⟩
noncomputable def dB1:D->Bool
 | .int _=>true
 |_=>false
theorem dE6{i j:Int}{G:DH}{Q:DPP}:Wp (gtD (.int i) (.int j)) G Q↔Q (.bl (decide (j<i))) G:=m6
theorem ix_tup{l:List D}{i:Int}{G:DH}{Q:DPP}:Wp (ixD (.tup l) (.int i)) G Q↔∃d,atI l i=some d/\Q d G:=bG0
noncomputable def Q7:D->Bool
 | .tup _=>true
 |_=>false
theorem fB3{G:DH}{i:Nat}{k:Kd}(h:aW0 G (.ref i)=some k):k= .list\/k= .dict:=by
 delta aW0 at h
 dsimp only at h
 generalize G[i]? =x at h
 rcases x with _|_|_|_|_<;>cases h<;>first|exact .inl rfl|exact .inr rfl
theorem dH9(f:D->Bool)(P:Kd->Bool){d:D}{G:DH}{k:Kd}(h:aW0 G d=some k)(a:∀i,f (.ref i)=P .list/\f (.ref i)=P .dict)(b:f .non=P .non)(c:∀x,f (.bl x)=P .bool)(e:∀x,f (.int x)=P .int)(g:∀x,f (.str x)=P .str)(t:∀x,f (.tup x)=P .tuple):P k=f d:=by
 rcases d with _|x|x|x|x|i|_|_<;>try (cases h;done)
 ·cases h;exact b.symm
 ·cases h;exact(c x).symm
 ·cases h;exact(e x).symm
 ·cases h;exact(g x).symm
 ·cases h;exact(t x).symm
 ·rcases fB3 h with rfl|rfl;exact(a i).1.symm;exact(a i).2.symm
theorem bA7{d:D}{G:DH}{Q:DPP}(h:aH0 G d):Wp (o6 [d,.ty "tuple"]) G Q↔Q (.bl (Q7 d)) G:=by
 obtain⟨k,h⟩:=h
 rw[bD6 eB7]
 simp only[h,R9]
 rw[dH9 Q7 (λk=>k.is .tuple) h (λ_=>⟨rfl,rfl⟩) rfl (λ_=>rfl) (λ_=>rfl) (λ_=>rfl) λ_=>rfl]
theorem S9{b:Bool}{G:DH}{B:Bool->DH->Prop}:Wp (aF4 (.bl b)) G B↔B b G:=m6
theorem aQ5{l:List D}{G:DH}{Q:DPP}:Wp (W8 [.tup l]) G Q↔Q (.int l.length) G:=m6
theorem V0{i j:Int}{G:DH}{Q:DPP}:Wp (eqD (.int i) (.int j)) G Q↔Q (.bl (decide (i=j))) G:=by
 have e:eqN 40 G (.int i) (.int j)=some (decide (i=j)):=by rfl
 rw[bF2,e];exact R9
theorem aA3{α:Type}{m:M α}{G:DH}{x:α}(h:Wp m G λa G'=>a=x/\G'=G):m G=some (.ok x,G):=by
 obtain⟨a,G',e,e1,e2⟩:=h
 subst e1 e2
 exact e
theorem aM8{g:Fg}{t:DSt->M Bool}{e:Fe}{ck:DH->Bool}{f:D->D}{G:DH}{I:DSt->Prop}(hck:ck G=true):∀(items:List D) (O:DSt),I O->
 (∀d∈items,∀ O,I O->∃ W1,g d O G=some (.ok W1,G)/\I W1/\t W1 G=some (.ok true,G)/\e W1 G=some (.ok (f d),G))->Q8 g t e ck items O G=some (.ok (items.map f),G)
 |[],O,_,_=>by unfold Q8;simp only[hck,if_true,List.map]
 |d::r,O,i,h=>by
   obtain⟨W1,h1,i1,h2,h3⟩:=h d (by simp) O i
   have h4:=aM8 hck r W1 i1 λd hd=>h d (by simp[hd])
   unfold Q8
   simp only[hck,if_true]
   rw[M.bind_ok h1,M.bind_ok h2,if_pos rfl,M.bind_ok h3,M.bind_ok h4]
   rfl
theorem eI0{it:DSt->M Src}{caps:List (Option Nat)}{g:Fg}{t:DSt->M Bool}{e:Fe}{f:D->D}{G:DH}{O:DSt}{s:Src}{Q:DPP}(I:DSt->Prop)(hs:it O G=some (.ok s,G))(hn:s.items.length<=zh)(hck:s.ck G=true)(hi:I (Z6 caps O))
 (h:∀d∈s.items,∀ O,I O->∃ W1,g d O G=some (.ok W1,G)/\I W1/\t W1 G=some (.ok true,G)/\e W1 G=some (.ok (f d),G)):
 Wp (Q0 it caps g t e O) G Q↔Q (.ref G.length) (G++[.lst (s.items.map f)]):=by
 unfold Q0
 simp only[m8]
 rw[aK2 hs,if_pos hn]
 simp only[m8,cK3]
 rw[aK2 (aM8 hck s.items _ hi h),aF0]
theorem dD5{α:Type}{f:α->Bool}:∀l:List α,bV9 (l.map λx=>D.bl (f x))=some (l.map f)
 |[]=>rfl
 |a::r=>by show (bV9 (r.map λx=>D.bl (f x))).map (f a :: ·)=_;rw[dD5 r];rfl
theorem bP3{G:DH}{r:Nat}{l:List D}{f:D->Bool}{Q:DPP}(h:G[r]? =some (.lst (l.map λx=>.bl (f x)))):Wp (aY1 [.ref r]) G Q↔Q (.bl (l.all f)) G:=by
 unfold aY1
 simp only[m8,U7,h,R9,DL.listOf,m6,bG0,dD5]
 simp[yK,Zo]
theorem bO3{i j:Int}{G:DH}{Q:DPP}:Wp (ltD (.int i) (.int j)) G Q↔Q (.bl (decide (i<j))) G:=by
 have e:ltN 40 G (.int i) (.int j)=some (decide (i<j)):=by rfl
 rw[eQ6,e];exact R9
theorem aQ3{i j:Int}{G:DH}{Q:DPP}:Wp (Q3 (.int i) (.int j)) G Q↔Q (.int (i+j)) G:=m6
theorem at0{a b:D}:atI [a,b] 0=some a:=by rfl
theorem at1{a b:D}:atI [a,b] 1=some b:=by rfl
theorem dR4(l:List D):DL.cutD l (some 1) none=l.drop 1:=by
 unfold DL.cutD
 rw[HT.sIx_none,show (some (1:Int))=some ((1:Nat):Int)from rfl,HT.sIx_nat]
 rcases l with _|⟨a,r⟩
 ·rfl
 ·simp[zp]
section
variable{G:DH}{O:DSt}{P:Fl->DH->Prop}{g:Fg}{b:Fs}{ck:DH->Bool}
theorem aM4:Wp (aL0 g b ck [] O) G P↔ck G=true/\P (.nx O) G:=by
 unfold aL0
 constructor
 · rintro⟨a,G',e,q⟩
   by_cases h:ck G=true
   ·simp only[h,if_true]at e;cases e;exact⟨h,q⟩
   ·simp only[h]at e;exact J4 e
 · rintro⟨h,q⟩
   exact⟨_,G,by simp only[h,if_true],q⟩
theorem aM3{d:D}{r:List D}:Wp (aL0 g b ck (d::r) O) G P↔ck G=true/\Wp (g d O) G λW1 G1=>Wp (b W1) G1 λfl G2=>match fl with
 | .nx X1=>Wp (aL0 g b ck r X1) G2 P
 | .ct X1=>Wp (aL0 g b ck r X1) G2 P
 | .bk X1=>P (.nx X1) G2
 | .rt d=>P (.rt d) G2:=by
 have e:Wp (aL0 g b ck (d::r) O) G P↔ck G=true/\Wp (do
  match <-b (<-g d O) with
  | .nx X1=>aL0 g b ck r X1
  | .ct X1=>aL0 g b ck r X1
  | .bk X1=>pure (.nx X1)
  | .rt d=>pure (.rt d):M Fl) G P:=by
  rw[aL0]
  constructor
  · rintro⟨a,G',e,q⟩
    by_cases h:ck G=true
    ·simp only[h,if_true]at e;exact⟨h,a,G',e,q⟩
    ·simp only[h]at e;exact J4 e
  · rintro⟨h,a,G',e,q⟩
    exact⟨a,G',by simp only[h,if_true];exact e,q⟩
 rw[e]
 simp only[m8]
 refine and_congr_right λ_=>?_
 constructor
 · rintro⟨W1,G1,e1,fl,G2,e2,q⟩
   refine⟨W1,G1,e1,fl,G2,e2,?_⟩
   cases fl<;>first
    |exact q
    |exact m6.mp q
 · rintro⟨W1,G1,e1,fl,G2,e2,q⟩
   refine⟨W1,G1,e1,fl,G2,e2,?_⟩
   cases fl<;>first
    |exact q
    |exact m6.mpr q
theorem aL7{it:DSt->M Src}:Wp (aS1 it g b O) G P↔Wp (it O) G λs G1=>Wp (aL0 g b s.ck s.items O) G1 P:=by unfold aS1;simp only[m8]
end
theorem cK4{i j:Int}{G:DH}{Q:DPP}:Wp (bB6 (.int i) (.int j)) G Q↔Q (.int (i-j)) G:=m6
theorem dU9{i j:Int}{G:DH}{Q:DPP}:Wp (neD (.int i) (.int j)) G Q↔Q (.bl (!decide (i=j))) G:=by
 have e:eqN 40 G (.int i) (.int j)=some (decide (i=j)):=by rfl
 rw[bV2,e];exact R9
theorem atI_nat{l:List D}{k:Nat}{s:D}(h:l[k]? =some s):atI l (k:Int)=some s:=by
 have hk:k<l.length:=by
  by_cases hk:k<l.length
  ·exact hk
  ·rw[jn (by omega)]at h;exact J4 h
 unfold atI ixN
 rw[if_pos (by omega),if_pos (by omega)]
 simpa using h
section
variable{G:DH}{O:DSt}{Q:DPP}
theorem aR2{i j:Int}(h:0<j):Wp (cA4 (.int i) (.int j)) G Q↔Q (.int (i % j)) G:=by
 have e:cA4 (.int i) (.int j)=if 0<j then pure (.int (i % j))else M.stuck:=rfl
 rw[e,if_pos h];exact m6
theorem cT5{i j:Int}(h:0<j/\j<2 ^ 100):Wp (cV0 (.int i) (.int j)) G Q↔Q (.int (i / j)) G:=by
 have e:cV0 (.int i) (.int j)=if cG8 i j then pure (.int (i / j))else M.stuck:=rfl
 rw[e,if_pos (show cG8 i j from h)];exact m6
theorem bL0{i j:Int}(h:cB6 i j):Wp (bP9 (.int i) (.int j)) G Q↔Q (.int (i*j)) G:=by
 have e:bP9 (.int i) (.int j)=if cB6 i j then pure (.int (i*j))else M.stuck:=rfl
 rw[e,if_pos h];exact m6
theorem aL3{r:Nat}{l:List D}{i:Int}(h:G[r]? =some (.lst l)):Wp (ixD (.ref r) (.int i)) G Q↔∃d,atI l i=some d/\Q d G:=by
 have e:ixD (.ref r) (.int i)= (do
  let l <-V6 r >>= DL.listOf
  bB7 (atI l i)):=rfl
 rw[e]
 simp only[m8,U7,h,R9,DL.listOf,m6,bG0]
theorem eN0{r:Nat}{l:List D}{k:Int}{j:Nat}{d:D}{R:Unit->DH->Prop}(h:G[r]? =some (.lst l))(hj:ixN l.length k=some j):Wp (dB0 (.ref r) (.int k) d) G R↔R () (G.set r (.lst (l.set j d))):=by
 unfold dB0
 simp only[m8,U7,h,R9,hj,bO0]
theorem cY5{fo fi:Fe}{d:D}{S:DSt->DH->Prop}:Wp (bT6 fo fi d O) G S↔Wp (fo O) G λo G1=>Wp (fi O) G1 λi G2=>Wp (dB0 o i d) G2 λ_ G3=>S O G3:=by
 unfold bT6;simp only[m8,m6]
end
noncomputable def M8(G:DH)(r:Nat):Prop:=∃a b c e:Int,G[r]? =some (.lst [.int a,.int b,.int c,.int e])/\0<=b/\b<2 ^ 40
def Fr(r:Nat)(G G':DH):Prop:=G.length<=G'.length/\(∀i,i≠r->i<G.length->G'[i]? =G[i]?)/\M8 G' r
theorem M8.lt{G:DH}{r:Nat}(h:M8 G r):r<G.length:=by
 obtain⟨a,b,c,e,hr,_⟩:=h
 by_cases hi:r<G.length
 ·exact hi
 ·rw[jn (by omega)]at hr;exact J4 hr
theorem M8.app{G t:DH}{r:Nat}(h:M8 G r):M8 (G++t) r:=by
 have hl:=h.lt
 obtain⟨a,b,c,e,hr,hb⟩:=h
 exact⟨a,b,c,e,by rw[zQ hl];exact hr,hb⟩
theorem Fr.refl{r:Nat}{G:DH}(h:M8 G r):Fr r G G:=⟨zd _,λ_ _ _=>rfl,h⟩
theorem Fr.trans{r:Nat}{G G1 G2:DH}(h:Fr r G G1)(k:Fr r G1 G2):Fr r G G2:=
 ⟨zv h.1 k.1,λi hi hl=>by rw[k.2.1 i hi (by have:=h.1;omega),h.2.1 i hi hl],k.2.2⟩
theorem Fr.app{r:Nat}{G t:DH}(h:M8 G r):Fr r G (G++t):=⟨by simp,λi _ hl=>zQ hl,h.app⟩
theorem Fr.set{r:Nat}{G:DH}{o:DO}(h:M8 (G.set r o) r):Fr r G (G.set r o):=⟨by simp,λi hi hl=>by rw[jM (yP hi)],h⟩
theorem eE7{i:Int}{G:DH}{Q:DPP}:Wp (cT8 (.int i)) G Q↔Q (.int (-i)) G:=m6
theorem bW6{l:List D}{k:Int}(h0:0<=k)(h1:k<l.length):∃d,d∈l/\atI l k=some d:=by
 obtain⟨n,rfl⟩:=YU h0
 have hn:n<l.length:=by omega
 exact⟨l[n],XV hn,atI_nat (zD hn)⟩
theorem sz{l:List D}(h:Nat.ble l.length 100=true:=by rfl):l.length<=zh:=zv (Xg h) (by decide)
theorem Fr.at{r p:Nat}{G G':DH}{o:DO}(h:Fr r G G')(hp:p≠r)(e:G[p]? =some o):G'[p]? =some o:=by
 have hl:p<G.length:=by
  by_cases hi:p<G.length
  ·exact hi
  ·rw[jn (by omega)]at e;exact J4 e
 rw[h.2.1 p hp hl];exact e
theorem eW0{G t:DH}{k:Nat}:(G++t)[G.length+k]? =t[k]? :=by
 rw[xE (by omega)];congr 1;omega
theorem dD6{G t:DH}:(G++t)[G.length]? =t[0]? :=eW0 (k:=0)
section
variable{G:DH}{O:DSt}{Q:DPP}
theorem eJ7{i j:Int}:Wp (dL0 [.int i,.int j]) G Q↔Q (.int (if j<i then j else i)) G:=m6
theorem aT5{t:D->M Unit}{m:D->List D->M D}{fo:Fe}{fs:DSt->M (List D)}:Wp (mtE t m fo fs O) G Q↔Wp (fo O) G λx G1=>Wp (t x) G1 λ_ G2=>Wp (fs O) G2 λxs G3=>Wp (m x xs) G3 Q:=by
 unfold mtE;simp only[m8]
theorem T3{r:Nat}{l:List D}{R:Unit->DH->Prop}(h:G[r]? =some (.lst l)):Wp (X4 (.ref r)) G R↔R () G:=by
 delta X4;exact m8.trans ((U7.trans (by rw[h];exact R9)).trans m6)
theorem aP7{r:Nat}{l:List D}{y:D}(h:G[r]? =some (.lst l))(hl:l.length<zh):Wp (aR3 (.ref r) [y]) G Q↔Q .non (G.set r (.lst (l++[y]))):=by
 have e:aR3 (.ref r) [y]= (do
  let l <-lstM r
  if l.length<zh then do
   let _ <-bU1 r (.lst (l++[y]))
   pure .non
  else M.stuck):=rfl
 rw[e]
 unfold lstM
 simp only[m8,U7,h,R9,m6,hl,if_true,bO0]
theorem aU2{r:Nat}{l:List D}(h:G[r]? =some (.lst l)):Wp (aL8 [.ref r]) G Q↔Q (.tup l) G:=by
 have e:aL8 [.ref r]= (do
  let l <-V6 r >>= DL.listOf
  pure (.tup l)):=rfl
 rw[e]
 simp only[m8,U7,h,R9,DL.listOf,m6]
theorem dO5{fs:DSt->M (List D)}{R:Src->DH->Prop}:Wp (aG0 fs O) G R↔Wp (fs O) G λxs G1=>Wp (match xs with
 |[.int j]=>if -(2 ^ 62)<=j/\j<2 ^ 62 then pure ⟨K6 0 j.toNat,λ_=>true⟩else M.stuck
 |_=>M.stuck:M Src) G1 R:=by
 delta aG0;exact m8
theorem aT2{j:Int}{R:Src->DH->Prop}(h: -(2 ^ 62)<=j/\j<2 ^ 62):Wp (match [D.int j] with
 |[.int j]=>if -(2 ^ 62)<=j/\j<2 ^ 62 then pure ⟨K6 0 j.toNat,λ_=>true⟩else M.stuck
 |_=>M.stuck:M Src) G R↔R ⟨K6 0 j.toNat,λ_=>true⟩ G:=by
 show Wp (if -(2 ^ 62)<=j/\j<2 ^ 62 then pure ⟨K6 0 j.toNat,λ_=>true⟩else M.stuck:M Src) G R↔_
 rw[if_pos h];exact m6
theorem bI8{i j:Nat}{a b:List D}(ha:G[i]? =some (.lst a))(hb:G[j]? =some (.lst b))(hl:a.length+b.length<=zh):Wp (Q3 (.ref i) (.ref j)) G Q↔Q (.ref G.length) (G++[.lst (a++b)]):=by
 have e:Q3 (.ref i) (.ref j)= (do
  match <-V6 i,<-V6 j with
  | .lst a,.lst b=>if a.length+b.length<=zh then S6 (.lst (a++b))else M.stuck
  |_,_=>M.stuck):=rfl
 rw[e]
 simp only[m8,U7,ha,hb,R9,if_pos hl,aF0]
theorem bM2{a b:List D}(hl:a.length+b.length<=zh):Wp (Q3 (.tup a) (.tup b)) G Q↔Q (.tup (a++b)) G:=by
 have e:Q3 (.tup a) (.tup b)=if a.length+b.length<=zh then pure (.tup (a++b))else M.stuck:=rfl
 rw[e,if_pos hl];exact m6
theorem bO4{R:Option Int->DH->Prop}:Wp (Q6 O) G R↔R none G:=m6
theorem cL0{f:Fe}{R:Option Int->DH->Prop}:Wp (T5 f O) G R↔Wp (f O) G λx G1=>∃i,x= .int i/\R (some i) G1:=by
 delta T5
 refine ZW m8 ?_
 constructor
 · rintro⟨x,G1,e,q⟩
   refine⟨x,G1,e,?_⟩
   rcases x with _|_|i|_|_|_|_|_<;>try (exact(aP4.mp q).elim;done)
   ·exact⟨i,rfl,m6.mp q⟩
 · rintro⟨x,G1,e,i,rfl,q⟩
   exact⟨_,G1,e,m6.mpr q⟩
theorem sl_tup{l:List D}{lo hi:Option Int}:Wp (slD (.tup l) lo hi) G Q↔Q (.tup (DL.cutD l lo hi)) G:=m6
theorem fJ9{i:Int}{P:Int->Prop}:(∃k,D.int i= .int k/\P k)↔P i:=⟨fun⟨k,e,p⟩=>by cases e;exact p,λp=>⟨i,rfl,p⟩⟩
end
def Fr2(r p:Nat)(G G':DH):Prop:=G.length<=G'.length/\(∀i,i≠r->i≠p->i<G.length->G'[i]? =G[i]?)/\M8 G' r
theorem Fr2.trans{r p:Nat}{G G1 G2:DH}(h:Fr2 r p G G1)(k:Fr2 r p G1 G2):Fr2 r p G G2:=
 ⟨zv h.1 k.1,λi hi hp hl=>by rw[k.2.1 i hi hp (by have:=h.1;omega),h.2.1 i hi hp hl],k.2.2⟩
theorem Fr.two{r p:Nat}{G G1:DH}(h:Fr r G G1):Fr2 r p G G1:=⟨h.1,λi hi _ hl=>h.2.1 i hi hl,h.2.2⟩
theorem Fr2.set{r p:Nat}{G:DH}{o:DO}(hp:p≠r)(h:M8 G r):Fr2 r p G (G.set p o):=by
 refine⟨by simp,λi _ hi hl=>by rw[jM (yP hi)],?_⟩
 obtain⟨a,b,c,e,hr,hb⟩:=h
 exact⟨a,b,c,e,by rw[jM hp];exact hr,hb⟩
theorem cX4{G:DH}{p q:Nat}{xs:List D}{Q:DPP}(e:G[p]? =some (.lst xs))(eq:G[q]? =some (.lst [])):Wp (neD (.ref p) (.ref q)) G Q↔Q (.bl (!xs.isEmpty)) G:=by
 have h:eqN 40 G (.ref p) (.ref q)=some xs.isEmpty:=by
  have h1:X5 G (.ref p)=some (false,xs):=by delta X5;dsimp only;rw[e]
  have h2:X5 G (.ref q)=some (false, []):=by delta X5;dsimp only;rw[eq]
  rw[aU1,h1,h2]
  cases xs<;>rfl
 rw[bV2,h];exact R9
theorem o5{G:DH}{o:DO}:(G++[o])[G.length]? =some o:=dD6
theorem R4{G t:DH}{p:Nat}{o:DO}(e:G[p]? =some o):(G++t)[p]? =some o:=by
 have hlt:p<G.length:=by
  by_cases hi:p<G.length
  ·exact hi
  ·rw[jn (by omega)]at e;exact J4 e
 rw[zQ hlt];exact e
theorem eK3{G:DH}{xs:List D}{Q:DPP}:Wp (eqD (.tup xs) (.tup [])) G Q↔Q (.bl xs.isEmpty) G:=by
 have h:eqN 40 G (.tup xs) (.tup [])=some xs.isEmpty:=by
  rw[aU1]
  cases xs<;>rfl
 rw[bF2,h];exact R9
noncomputable def Gr(G G':DH):Prop:=G.length<=G'.length/\∀i,i<G.length->G'[i]? =G[i]?
theorem Gr.refl{G:DH}:Gr G G:=⟨zd _,λ_ _=>rfl⟩
theorem Gr.trans{G G1 G2:DH}(h:Gr G G1)(k:Gr G1 G2):Gr G G2:=⟨zv h.1 k.1,λi hi=>by rw[k.2 i (by have:=h.1;omega),h.2 i hi]⟩
theorem Gr.app{G t:DH}:Gr G (G++t):=⟨by simp,λi hi=>zQ hi⟩
theorem Gr.of{r:Nat}{G G1 G2:DH}(h:Gr G G1)(f:Fr r G1 G2)(hr:G.length<=r):Gr G G2:=⟨zv h.1 f.1,λi hi=>by rw[f.2.1 i (by omega) (by have:=h.1;omega),h.2 i hi]⟩
theorem Gr.at{p:Nat}{G G':DH}{o:DO}(h:Gr G G')(e:G[p]? =some o):G'[p]? =some o:=by
 have hl:p<G.length:=by
  by_cases hi:p<G.length
  ·exact hi
  ·rw[jn (by omega)]at e;cases e
 rw[h.2 p hl];exact e
theorem cU7:∀ns:List Int,aY8 (ns.map D.int)=some ns
 |[]=>rfl
 |a::r=>by show (aY8 (r.map D.int)).map (a :: ·)=_;rw[cU7 r];rfl
theorem eF6{G:DH}{p:Nat}{ns:List Int}{Q:DPP}(e:G[p]? =some (.rol (ns.map D.int))):Wp (dO9 [.ref p]) G Q↔Q (.int ns.sum) G:=by
 have h:dO9 [.ref p]= (do
  let l <-V6 p >>= DL.listOf
  let ns <-bB7 (aY8 l)
  pure (.int ns.sum)):=rfl
 rw[h]
 simp only[m8,U7,e,R9,DL.listOf,m6,bG0,cU7]
theorem eM0{G:DH}{p q:Nat}{xs:List D}{Q:DPP}(e:G[p]? =some (.rol xs))(eq:G[q]? =some (.lst [])):Wp (neD (.ref p) (.ref q)) G Q↔Q (.bl (!xs.isEmpty)) G:=by
 have h:eqN 40 G (.ref p) (.ref q)=some xs.isEmpty:=by
  have h1:X5 G (.ref p)=some (false,xs):=by delta X5;dsimp only;rw[e]
  have h2:X5 G (.ref q)=some (false, []):=by delta X5;dsimp only;rw[eq]
  rw[aU1,h1,h2]
  cases xs<;>rfl
 rw[bV2,h];exact R9
theorem bU6{G:DH}{O:DSt}{p:Nat}{l:List D}{R:Src->DH->Prop}(e:G[p]? =some (.lst l)):Wp (aK6 (.ref p)) G R↔R ⟨l,ckO p (.lst l)⟩ G:=by
 have h:aK6 (.ref p)= (do
  let o <-V6 p
  let l <-DL.listOf o
  pure ⟨l,ckO p o⟩):=rfl
 rw[h]
 simp only[m8,U7,e,R9,DL.listOf,m6]
theorem fH3{G:DH}{p:Nat}{l:List D}{lo hi:Option Int}{Q:DPP}(e:G[p]? =some (.rol l)):Wp (slD (.ref p) lo hi) G Q↔Q (.ref G.length) (G++[.lst (DL.cutD l lo hi)]):=by
 have h:slD (.ref p) lo hi= (do
  let l <-V6 p >>= DL.listOf
  S6 (.lst (DL.cutD l lo hi))):=rfl
 rw[h]
 simp only[m8,U7,e,R9,DL.listOf,m6,aF0]
theorem dY9{G:DH}{O:DSt}{fs:DSt->M (List D)}{R:Src->DH->Prop}:Wp (bQ2 fs O) G R↔Wp (fs O) G λxs G1=>Wp (match xs with
 |[.ref r]=>do
   let s <-aK6 (.ref r)
   pure ⟨s.items.zipIdx.map λp=>.tup [.int ((p.2:Nat):Int),p.1],s.ck⟩
 |_=>M.stuck:M Src) G1 R:=by
 delta bQ2;exact m8
theorem dX4{G:DH}{p:Nat}{l:List D}{R:Src->DH->Prop}(e:G[p]? =some (.lst l)):Wp (match [D.ref p] with
 |[.ref r]=>do
   let s <-aK6 (.ref r)
   pure ⟨s.items.zipIdx.map λp=>.tup [.int ((p.2:Nat):Int),p.1],s.ck⟩
 |_=>M.stuck:M Src) G R↔R ⟨l.zipIdx.map λp=>.tup [.int ((p.2:Nat):Int),p.1],ckO p (.lst l)⟩ G:=by
 show Wp (do
  let s <-aK6 (.ref p)
  pure ⟨s.items.zipIdx.map λp=>.tup [.int ((p.2:Nat):Int),p.1],s.ck⟩:M Src) G R↔_
 simp only[m8]
 rw[bU6 (O:= []) e]
 exact m6
section
variable{G:DH}{O:DSt}{Q:DPP}
theorem eB1{o o':D->D->M D}{a b c:Fe}:Wp (cK9 o o' a b c O) G Q↔Wp (a O) G λx G1=>Wp (b O) G1 λy G2=>Wp (o x y) G2 λz G3=>∃k,z= .bl k/\if k=true then Wp (c O) G3 λw G4=>Wp (o' y w) G4 Q else Q (.bl false) G3:=by
 unfold cK9;simp only[m8,cM9,aX1,m6]
theorem wp_trueT{B:Bool->DH->Prop}:Wp (aA2 O) G B↔B true G:=m6
variable{g:Fg}{t:DSt->M Bool}{e:Fe}{ck:DH->Bool}{R:List D->DH->Prop}
theorem bM6:Wp (Q8 g t e ck [] O) G R↔ck G=true/\R [] G:=by
 unfold Q8
 constructor
 · rintro⟨a,G',e,q⟩
   by_cases h:ck G=true
   ·simp only[h,if_true]at e;cases e;exact⟨h,q⟩
   ·simp only[h]at e;exact J4 e
 · rintro⟨h,q⟩
   exact⟨_,G,by simp only[h,if_true],q⟩
theorem bJ4{d:D}{r:List D}:Wp (Q8 g t e ck (d::r) O) G R↔ck G=true/\Wp (g d O) G λW1 G1=>Wp (t W1) G1 λb G2=>if b=true then Wp (e W1) G2 λy G3=>Wp (Q8 g t e ck r W1) G3 λys G4=>R (y::ys) G4 else Wp (Q8 g t e ck r W1) G2 R:=by
 have h0:Wp (Q8 g t e ck (d::r) O) G R↔ck G=true/\Wp (do
  let W1 <-g d O
  if <-t W1 then do
   let y <-e W1
   let ys <-Q8 g t e ck r W1
   pure (y::ys)
  else Q8 g t e ck r W1:M (List D)) G R:=by
  rw[Q8]
  constructor
  · rintro⟨a,G',e,q⟩
    by_cases h:ck G=true
    ·simp only[h,if_true]at e;exact⟨h,a,G',e,q⟩
    ·simp only[h]at e;exact J4 e
  · rintro⟨h,a,G',e,q⟩
    exact⟨a,G',by simp only[h,if_true];exact e,q⟩
 rw[h0]
 simp only[m8,aX1,m6]
theorem wp_comp{it:DSt->M Src}{caps:List (Option Nat)}:Wp (Q0 it caps g t e O) G Q↔Wp (it O) G λs G1=>s.items.length<=zh/\Wp (Q8 g t e s.ck s.items (Z6 caps O)) G1 λys G2=>Q (.ref G2.length) (G2++[.lst ys]):=by
 unfold Q0
 simp only[m8]
 constructor
 · rintro⟨s,G1,e1,q⟩
   refine⟨s,G1,e1,?_⟩
   by_cases h:s.items.length<=zh
   · rw[if_pos h]at q
     simp only[m8,cK3,aF0]at q
     exact⟨h,q⟩
   ·rw[if_neg h]at q;exact(aP4.mp q).elim
 · rintro⟨s,G1,e1,h,q⟩
   refine⟨s,G1,e1,?_⟩
   dsimp only
   rw[if_pos h]
   simp only[m8,cK3,aF0]
   exact q
theorem cF5(J:DH->Prop)(S:DSt->Prop)(P:D->Prop)(hck:∀G,J G->ck G=true):∀(items:List D) (O:DSt) (G:DH),S O->J G->
 (∀d∈items,∀ O G,S O->J G->Wp (g d O) G λW1 G1=>G1=G/\S W1/\Wp (t W1) G λb G2=>b=true/\G2=G/\Wp (e W1) G λy G3=>J G3/\P y)->
 Wp (Q8 g t e ck items O) G λys G'=>J G'/\ys.length=items.length/\∀y∈ys,P y
 |[],O,G,s,j,_=>by
   rw[bM6]
   exact⟨hck G j,j,rfl,λy hy=>by cases hy⟩
 |d::r,O,G,s,j,step=>by
   rw[bJ4]
   refine⟨hck G j,Wp.mono (step d (by simp) O G s j) λW1 G1 ⟨e1,s1,w1⟩=>?_⟩
   subst e1
   refine Wp.mono w1 λb G2 ⟨eb,e2,w2⟩=>?_
   subst eb e2
   rw[if_pos rfl]
   refine Wp.mono w2 λy G3 ⟨j3,py⟩=>?_
   refine Wp.mono (cF5 J S P hck r W1 G3 s1 j3 λd hd=>step d (by simp[hd])) λys G4 ⟨j4,l4,p4⟩=>⟨j4,by simp[l4],λz hz=>?_⟩
   rcases zi.mp hz with rfl|hz
   ·exact py
   ·exact p4 z hz
theorem bA0{p:D->Bool}{G:DH}(hck:ck G=true)(S:DSt->Prop):∀(items:List D) (O:DSt),S O->
 (∀d∈items,∀ O,S O->∃ W1,g d O G=some (.ok W1,G)/\S W1/\t W1 G=some (.ok (p d),G)/\e W1 G=some (.ok d,G))->Q8 g t e ck items O G=some (.ok (items.filter p),G)
 |[],O,_,_=>by unfold Q8;simp only[hck,if_true,List.filter_nil]
 |d::r,O,i,h=>by
   obtain⟨W1,h1,i1,h2,h3⟩:=h d (by simp) O i
   have h4:=bA0 hck S r W1 i1 λd hd=>h d (by simp[hd])
   unfold Q8
   simp only[hck,if_true]
   rw[M.bind_ok h1,M.bind_ok h2]
   by_cases hp:p d=true
   · rw[if_pos hp,M.bind_ok h3,M.bind_ok h4,YN hp]
     rfl
   ·rw[if_neg hp,h4,YO hp]
end
section
variable{G:DH}{O:DSt}{Q:DPP}
theorem fC6:Ty.of "str" =some .str:=by rfl
noncomputable def aF6:D->Bool
 | .str _=>true
 |_=>false
noncomputable def bX7:D->Bool
 | .int _=>true
 | .bl _=>true
 |_=>false
theorem cY2{d:D}(h:aH0 G d):Wp (o6 [d,.ty "str"]) G Q↔Q (.bl (aF6 d)) G:=by
 obtain⟨k,h⟩:=h
 rw[bD6 fC6]
 simp only[h,R9]
 rw[dH9 (aF6) (λk=>k.is .str) h (λ_=>⟨rfl,rfl⟩) rfl (λ_=>rfl) (λ_=>rfl) (λ_=>rfl) λ_=>rfl]
theorem fF4{d:D}(h:aH0 G d):Wp (o6 [d,.ty "int"]) G Q↔Q (.bl (bX7 d)) G:=by
 obtain⟨k,h⟩:=h
 rw[bD6 fJ5]
 simp only[h,R9]
 rw[dH9 (bX7) (λk=>k.is .int) h (λ_=>⟨rfl,rfl⟩) rfl (λ_=>rfl) (λ_=>rfl) (λ_=>rfl) λ_=>rfl]
theorem eX5{a b:Str}:Wp (eqD (.str a) (.str b)) G Q↔Q (.bl (a==b)) G:=by
 have e:eqN 40 G (.str a) (.str b)=some (a==b):=by rfl
 rw[bF2,e];exact R9
theorem fB7{a b:Str}:Wp (neD (.str a) (.str b)) G Q↔Q (.bl (!(a==b))) G:=by
 have e:eqN 40 G (.str a) (.str b)=some (a==b):=by rfl
 rw[bV2,e];exact R9
theorem cJ0{a b:Str}:Wp (leD (.str a) (.str b)) G Q↔Q (.bl (!decide (b.cps.toList<a.cps.toList))) G:=m6
theorem eC1{a b:Str}(h:a.length+b.length<=zh):Wp (Q3 (.str a) (.str b)) G Q↔Q (.str (a++b)) G:=by
 have e:Q3 (.str a) (.str b)=if a.length+b.length<=zh then pure (.str (a++b))else M.stuck:=rfl
 rw[e,if_pos h];exact m6
theorem bH8{z:Str}(h:z.length<=zh):Wp (W8 [.str z]) G Q↔Q (.int z.length) G:=by
 have e:W8 [.str z]=if z.length<=zh then pure (.int z.length)else M.stuck:=rfl
 rw[e,if_pos h];exact m6
theorem cQ6{x y:D}:Wp (aW5 x y) G Q↔∃k,inB x y G=some k/\Q (.bl (!k)) G:=bL3 (g:=not) (by unfold aW5 eW7;cases inB x y G<;>rfl)
theorem fU7{x y:D}:Wp (inD x y) G Q↔∃k,inB x y G=some k/\Q (.bl k) G:=bL3 (g:=id) (by unfold inD eW7;cases inB x y G<;>rfl)
theorem dY2{p:Nat}{l:List D}{R:Src->DH->Prop}(e:G[p]? =some (.lst l)):Wp (eM2 (.ref p)) G R↔R ⟨l,ckO p (.lst l)⟩ G:=bU6 (O:= []) e
end
noncomputable def bG7(c:Nat):Bool:=decide (97<=c)&&decide (c<=122)
def Q9(z:Str):Bool:=z.cps.toList.all bG7
noncomputable abbrev bS3:Str:= "abcdefghijklmnopqrstuvwxyz"
theorem gD6(c:Nat):(!decide ((⟨#[c]⟩:Str).cps.toList<("a" :Str).cps.toList))=decide (97<=c):=by
 have e:("a" :Str).cps.toList= [97]:=by rfl
 rw[e]
 show (!decide ([c] < [97]))=_
 by_cases h:97<=c
 · have:¬c<97:=by lia
   simp[h,xg,this]
 · have:c<97:=by lia
   simp[h,xg,this]
theorem gE4(c:Nat):(!decide (("z" :Str).cps.toList<(⟨#[c]⟩:Str).cps.toList))=decide (c<=122):=by
 have e:("z" :Str).cps.toList= [122]:=by rfl
 rw[e]
 show (!decide ([122] < [c]))=_
 by_cases h:c<=122
 · have:¬122<c:=by lia
   simp[h,xg,this]
 · have:122<c:=by lia
   simp[h,xg,this]
theorem eB6{s sub:Str}{lo hi lim:Nat}(h:∀i,YI s sub i=false):jI s sub lo hi lim= []:=by
 unfold jI
 simp[h,Id.run]
 have e:∀l:List Nat,List.foldl (fun(b:Array Nat×Nat) (_:Nat)=>(b.fst,b.snd)) (#[],lo) l= (#[],lo):=λl=>by
  induction l with
  |nil=>rfl
  |cons a r ih=>exact ih
 rw[e]
 rfl
theorem dK5:∀c<123,(jI bS3 ⟨#[c]⟩ 0 bS3.length 1).isEmpty= !bG7 c:=by decide +kernel
theorem cR8:∀x∈bS3.cps.toList,x<123:=by decide +kernel
theorem eE9(c:Nat):(jI bS3 ⟨#[c]⟩ 0 bS3.length 1).isEmpty= !bG7 c:=by
 by_cases h:c<123
 ·exact dK5 c h
 · have hl:bG7 c=false:=by
    unfold bG7
    rw[decide_eq_false (show ¬c<=122 by lia),yw]
   rw[hl,eB6 λi=>?_]
   ·rfl
   · unfold YI
     rw[beq_eq_false_iff_ne]
     intro e
     have e2:=congrArg YQ e
     have hm:c∈bS3.cps.toList:=by
      have:c∈(bS3.cps.extract i (i+(⟨#[c]⟩:Str).length)).toList:=by rw[e2];simp
      rw[Array.toList_extract]at this
      exact jY (yG this)
     exact h (cR8 c hm)
end W
namespace DL
open PySem PySem.Spec L2
open PyProof.Rows hiding St
section
variable{prog:zE}{w:zP}{A:zK}{E:VSP}{s:zm}{I l:Addr}{items:Array ze}
end
section
variable{X:Cx}{Z:XC}{e:Expr}{fa:Fe}{p1 p2 pos1 pos2:Pos}
end
end DL
namespace DL
open PySem PySem.Spec L2 Builtin Builtin.Str
open PyProof.Rows hiding St
section
variable{X:Cx}{Z:XC}{e:Expr}{fa:Fe}{p2 pos:Pos}{lo hi:Option Expr}{fl fh:Fo}
theorem dE0{v:ze}{o:Option Int}(p:IsPart v o):∃l:Option (Int×Tok),v=partValue l/\l.map (·.1)=o:=by
 cases p with
 |none=>exact⟨none,rfl,rfl⟩
 |int i t=>exact⟨some (i,t),rfl,rfl⟩
theorem eY1:SlR X (λx lo hi H Q=>∃z,x= .str z/\z.length<=zh/\Q (.str (YS z lo hi)) H):=by
 intro pins s O H x v vl vu lo hi sl Q I rx hs pl pu h
 obtain⟨z,rfl,hz,q⟩:=h
 obtain⟨t,rfl⟩:=rx
 obtain⟨l,el,eml⟩:=dE0 pl
 obtain⟨u,eu,emu⟩:=dE0 pu
 subst el eu eml emu
 refine⟨"str",_,Yf.lookup,ZQ _ z t,?_⟩
 refine Xu (l:=l) (u:=u) (st:=none) (let ⟨o,h1,h2,h3⟩:=hs;⟨o,h1,h2,h3⟩) rfl ?_
 unfold sliceMade
 unfold YS at q
 unfold slicePicked
 have e1:((Xf (λx:Int×Tok=>x.1) none).getD 1)= (1:Int):=rfl
 simp only[e1]
 by_cases hc:((1:Int)==1&&(strSliceIndices (l.map (·.1)) (u.map (·.1)) 1 z.length).length==z.length)=true
 · rw[if_pos hc]at q
   rw[if_pos hc]
   exact⟨.str z,H,I,⟨t,rfl⟩,q⟩
 · rw[if_neg hc]at q
   rw[if_neg hc]
   refine⟨?_,.str _,H,I.tok _,⟨_,rfl⟩,q⟩
   have hle:=Txt.slice_le z (l.map (·.1)) (u.map (·.1))
   unfold YS at hle
   rw[if_neg hc]at hle
   exact zv hle hz
def slT:D->Option Int->Option Int->M D:=λx lo hi=>match x with
 | .str z=>if z.length<=zh then pure (.str (YS z lo hi))else M.stuck
 | .tup l=>slD (.tup l) lo hi
 | .ref r=>slD (.ref r) lo hi
 |_=>M.stuck
def P0(f:Fe)(lo hi:Fo):Fe:=λO=>do
 let x <-f O
 let l <-lo O
 let h <-hi O
 slT x l h
theorem fB0:SlD X Z slT:=SlR.mono (eY1.or (fY1 (Z:=Z))) λx lo hi H Q ⟨dx,U,G,rx,hr,p⟩=>by
 rcases dx with _|_|_|z|l|r|_|_<;>try (exact p.elim;done)
 ·
   unfold slT at p
   dsimp only at p
   split at p
   · rename_i hz
     exact .inl ⟨z,bB8 rx,hz,g8.ok p hr _ (by unfold j9;rfl)⟩
   ·exact p.elim
 ·exact .inr ⟨.tup l,U,G,rx,hr,p⟩
 ·exact .inr ⟨.ref r,U,G,rx,hr,p⟩
theorem dP9(he:DE X Z e fa)(hl:DOp X Z lo fl)(hu:DOp X Z hi fh):DE X Z (.Subscript e (.Slice lo hi none p2) pos) (P0 fa fl fh):=
 DE.of (eB9 fB0 he.h hl.h hu.h) λO H Q hE0=>hE0.elim λX9 U G s h p=>⟨X9,U,G,s,h,(g8.bind p).mono λd X0 G1 H1 x1 h1 p1 v rv=>
  ⟨X9,X0,G1,s.mono x1,h1,(g8.bind p1).mono λl WU G2 H2 x2 h2 p2=>⟨X9,WU,G2,s.mono (x1.trans x2),h2,(g8.bind p2).mono λu μ3 G3 H3 x3 h3 p3=>⟨d,μ3,G3,rv.mono (x2.trans x3),h3,p3⟩⟩⟩⟩
end
noncomputable def Txt.rev(z:Str):Str:=⟨((strSliceIndices none none (-1) z.length).filterMap (z.cps[·]?)).toArray⟩
def dS3:D->M D:=λx=>match x with
 | .str z=>if (Txt.rev z).length<=zh then pure (.str (Txt.rev z))else M.stuck
 | .tup l=>fO8 (.tup l)
 | .ref r=>fO8 (.ref r)
 |_=>M.stuck
section
variable{X:Cx}{Z:XC}{e:Expr}{fa:Fe}{p2 pos:Pos}
theorem eP5{j k:Nat}{q1 q2:Pos}(he:DE X Z e fa):DE X Z (.Subscript e (.Slice none none (some (.UnaryOp .USub (.Constant (.int 1) k q1) q2)) p2) pos) (unE dS3 fa):=by
 refine⟨?_⟩
 intro pins s O H Q I hE0
 refine hE0.elim λX9 U G sr h p=>?_
 refine Jp (thn (he.h pins s O H _ I ⟨X9,U,G,sr,h,(g8.bind p).mono λd X0 G1 H1 x1 h1 p1 v rv=>(⟨d,X0,G1,rv,h1,p1⟩:cI6 (wc X) Z dS3 v H1 Q)⟩) λv s1 ⟨x,H1,I1,r1,d,X0,G1,rd,h1,p1⟩=>?_)
 refine wpAny_Slice ?_
 rw[Xk]
 refine zt (zt ?_)
 rw[evalPart_some]
 refine thn ((eS8 dT3 (cX9 (X:=X) (i:=1) (j:=k) (pos:=q1))) pins s1 O H1 (λv' H'=>v'= .int (-1)/\H'=H1) I1 ⟨1,rfl,rfl,rfl⟩) λu s2 ⟨xu,H2,I2,ru,e1,e2⟩=>?_
 subst e1 e2
 obtain⟨tk,rfl⟩:=ru
 have I3:Inv X pins O H2 {s2 with heap:=s2.heap.push {cls:=.type "slice",data:=.fields #[.none,.none,.int (-1) tk]}}:=I2.kept (t':=s2.toks) λb ob q=>zj _ q
 have hsl:Heap.IsSliceOf (s2.heap.push {cls:=.type "slice",data:=.fields #[.none,.none,.int (-1) tk]}) s2.heap.objs.size .none .none (.int (-1) tk):=ZX ..
 rcases d with _|_|_|z|l|r|_|_<;>try (exact p1.elim;done)
 ·
   unfold dS3 at p1
   dsimp only at p1
   split at p1
   case isFalse=>exact p1.elim
   rename_i hz
   cases bB8 rd
   obtain⟨t,rfl⟩:=r1
   refine YX (ops:= [.str z t,.ref s2.heap.objs.size]) (ZQ _ z t) Yf.lookup (Xu (l:=none) (u:=none) (st:=some (-1,tk)) (let ⟨o,h1,h2,h3⟩:=hsl;⟨o,h1,h2,h3⟩) (by rfl) ?_) (by with_unfolding_all rfl)
   unfold sliceMade
   rw[if_neg (by simp)]
   exact⟨hz,.str _,H2,I3.tok _,⟨_,rfl⟩,g8.ok p1 h1 _ (by unfold j9;rfl)⟩
 ·
   unfold j9 at rd
   obtain⟨a,vs,rfl,q,rl⟩:=rd
   cases r1
   obtain⟨its,rr,ht,hz⟩:=I3.tuple q
   refine YX (ops:= [.ref a,.ref s2.heap.objs.size]) ht.typeIs zX.lookup (bK9 ht hsl ?_ (by rw[<-rr.length];exact hz)) (by with_unfolding_all rfl)
   have hf:=I3.hok.fresh (zd _)
   refine⟨.ref _,upd H2 _ (.tup vs.reverse),I3.laid (t':=s2.toks) (λb u e=>zj _ e) (zd _) ?_,rfl,aY5 h1 rl.reverse p1 _ hf⟩
   exact⟨by rw[xv];exact hz,its.reverse,rr.reverse,⟨_,zC _ rfl,rfl,_,rfl⟩⟩
 ·
   obtain⟨l,a,vs,rfl,rl,p2,hq⟩:=bD7 (d:=.ref r) (f:=λl=>S6 (.lst l.reverse)) h1 rd p1
   cases r1
   have hs:SqL X.K H2 a vs:=by
    rcases hq with⟨z,_⟩|⟨_,_,_,⟨_,q⟩|⟨_,q⟩⟩
    ·cases z
    ·exact SqL.of q
    ·exact q.sq
   obtain⟨its,rr,ht,hz⟩:=I3.list hs
   refine YX (ops:= [.ref a,.ref s2.heap.objs.size]) ht.isList.typeIs Yd.lookup (Xi ht.isList hsl .none .none (.int (-1) tk) (by simp) ?_ (by rw[zr,<-rr.length];exact hz)) (by with_unfolding_all rfl)
   rw[PySem.W.krv_pick]
   have hf:=I3.hok.fresh (zd _)
   refine⟨.ref _,upd H2 _ (.lst vs.reverse),I3.laid (t':=s2.toks) (λb u e=>zj _ e) (zd _) ?_,rfl,aE9 h1 rl.reverse p2 _ hf⟩
   exact⟨by rw[xv];exact hz,its.reverse,0,rr.reverse,zC _ rfl⟩
end
end DL
namespace W
open PySem PySem.Spec L2 DL Builtin Builtin.Str
open PyProof.Rows hiding St
section
variable{G:DH}{O:DSt}{Q:DPP}
theorem aD5{f:Fe}{lo hi:Fo}:Wp (P0 f lo hi O) G Q↔Wp (f O) G λx G1=>Wp (lo O) G1 λl G2=>Wp (hi O) G2 λh G3=>Wp (slT x l h) G3 Q:=by
 unfold P0;simp only[m8]
theorem bJ7{l:List D}{lo hi:Option Int}:Wp (slT (.tup l) lo hi) G Q↔Q (.tup (DL.cutD l lo hi)) G:=m6
theorem dS4{l:List D}:Wp (dS3 (.tup l)) G Q↔Q (.tup l.reverse) G:=m6
end
end W
namespace DL
open PySem PySem.Spec L2
open PyProof.Rows hiding St
def cC7:D->D->M D:=λx y=>match y with
 | .non=>pure (.bl (U0 x))
 | .bl c=>match x with
   | .bl d=>pure (.bl (d==c))
   |_=>M.stuck
 |_=>M.stuck
def aC1:D->D->M D:=λx y=>match y with
 | .non=>pure (.bl (!U0 x))
 | .bl c=>match x with
   | .bl d=>pure (.bl (d != c))
   |_=>M.stuck
 |_=>M.stuck
def dA0(a b:Fe):Fe:=λO=>do
 let x <-a O
 if <-aF4 x then pure x else b O
def aB4(a b:Fe):Fe:=λO=>do
 let x <-a O
 if <-aF4 x then b O else pure x
section
variable{X:Cx}{Z:XC}{a b:Expr}{fa fb:Fe}{pos:Pos}
theorem fD4:OpR X (zL .Is) (λx y H Q=>(y= .non/\Q (.bl (decide (x= .non))) H)\/∃c d,x= .bl c/\y= .bl d/\Q (.bl (c==d)) H):=by
 intro pins s O H x y v u Q I rx ry h
 rcases h with h|⟨c,d,rfl,rfl,q⟩
 ·exact fE7 pins s O H x y v u Q I rx ry h
 · cases rx
   cases ry
   exact is_bool ⟨.bl (c==d),H,I,rfl,q⟩
theorem dO7:OpR X (zL .IsNot) (λx y H Q=>(y= .non/\Q (.bl (!decide (x= .non))) H)\/∃c d,x= .bl c/\y= .bl d/\Q (.bl (c != d)) H):=by
 intro pins s O H x y v u Q I rx ry h
 rcases h with h|⟨c,d,rfl,rfl,q⟩
 ·exact eI5 pins s O H x y v u Q I rx ry h
 · cases rx
   cases ry
   exact isnot_bool ⟨.bl (c != d),H,I,rfl,q⟩
theorem fE2:OpD X Z (zL .Is) cC7:=OpD.of fD4 λx y H Q hE0=>hE0.elim λdx dy U G rdx rdy hr p=>by
 rcases dy with _|d|_|_|_|_|_|_<;>try (exact p.elim;done)
 ·exact .inl ⟨dY5 rdy,by rw[dF2 rdx];exact g8.ok p hr _ ofB⟩
 ·
   rcases dx with _|c|_|_|_|_|_|_<;>try (exact p.elim;done)
   ·exact .inr ⟨c,d,cC8 rdx,cC8 rdy,g8.ok p hr _ ofB⟩
theorem dN9:OpD X Z (zL .IsNot) aC1:=OpD.of dO7 λx y H Q hE0=>hE0.elim λdx dy U G rdx rdy hr p=>by
 rcases dy with _|d|_|_|_|_|_|_<;>try (exact p.elim;done)
 ·exact .inl ⟨dY5 rdy,by rw[dF2 rdx];exact g8.ok p hr _ ofB⟩
 ·
   rcases dx with _|c|_|_|_|_|_|_<;>try (exact p.elim;done)
   ·exact .inr ⟨c,d,cC8 rdx,cC8 rdy,g8.ok p hr _ ofB⟩
theorem bQ3{α:Type}{U:List Addr}{H:Hp}{G:DH}{d:D}{v:V}{f:Bool->M α}{K:α->List Addr->DH->Hp->Prop}(h:J8 (wc X) U G H)(rv:j9 (wc X) U H d v)(p:g8 (wc X) Z U H ((aF4 d >>= f) G) K):
 ∃k,fF8 X.K v H k/\g8 (wc X) Z U H (f k G) K:=by
 have p1:=g8.bind p
 rcases d with _|b|b|y|l|r|_|_<;>try (exact p1.elim;done)
 ·rw[dY5 rv];exact⟨false,rfl,g8.ok p1 h⟩
 ·rw[cC8 rv];exact⟨b,rfl,g8.ok p1 h⟩
 ·rw[aJ2 rv];exact⟨_,rfl,g8.ok p1 h⟩
 ·
   rw[bB8 rv]
   unfold aF4 at p1
   dsimp only at p1
   split at p1
   ·rename_i hz;exact⟨_,⟨hz,rfl⟩,g8.ok p1 h⟩
   ·exact p1.elim
 ·
   unfold j9 at rv
   obtain⟨a,vs,rfl,q,rl⟩:=rv
   exact⟨!vs.isEmpty,.inr (.inl ⟨vs,q,rfl⟩),by rw[aK0 rl];exact g8.ok p1 h⟩
 ·
   unfold j9 at rv
   obtain⟨a,m,rfl⟩:=rv
   obtain⟨o,g,p2⟩:=U6 p1
   have ro:=h.obj r o a g m
   rcases o with l|l|l|l
   ·obtain⟨vs,q,rl⟩:=ro;exact⟨!vs.isEmpty,.inl ⟨vs,SqL.of q,rfl⟩,by rw[aK0 rl];exact g8.ok p2 h⟩
   ·obtain⟨vs,q,rl⟩:=ro;exact⟨!vs.isEmpty,.inl ⟨vs,q.sq,rfl⟩,by rw[aK0 rl];exact g8.ok p2 h⟩
   ·obtain⟨vs,q,rl⟩:=ro;exact⟨!vs.isEmpty,.inr (.inr ⟨vs,q,rfl⟩),by rw[cB0 rl];exact g8.ok p2 h⟩
   ·exact p2.elim
theorem fE4{W9:List Expr}(ha:DE X Z a fa)(hb:DE X Z (.BoolOp .Or (b::W9) pos) fb):DE X Z (.BoolOp .Or (a::b::W9) pos) (dA0 fa fb):=by
 refine⟨?_⟩
 intro pins s O H Q I hE0
 refine hE0.elim λX9 U G sr h p=>?_
 refine BoolOp_or (thn (ha.h pins s O H _ I ⟨X9,U,G,sr,h,(g8.bind p).mono λd X0 G1 H1 x1 h1 p1 v rv=>(⟨d,X0,G1,x1,rv,h1,p1⟩:∃d X0 G1,Ext U H X0 H1/\j9 (wc X) X0 H1 d v/\J8 (wc X) X0 G1 H1/\g8 (wc X) Z X0 H1 ((aF4 d >>= λk=>if k=true then pure d else fb X9) G1) λd X2 _ H'=>∀v,j9 (wc X) X2 H' d v->Q v H')⟩) λv s1 ⟨x,H1,I1,r1,d,X0,G1,x1,rd,h1,p1⟩=>?_)
 obtain⟨k,tk,p2⟩:=bQ3 h1 rd p1
 refine thn (cZ7 pins s1 O H1 x v (λc H'=>c=k/\H'=H1) I1 r1 ⟨k,tk,rfl,rfl⟩) λc s2 ⟨H2,I2,e1,e2⟩=>?_
 subst e1 e2
 rcases c with _|_
 ·exact hb.h pins s2 O H2 Q I2 ⟨X9,X0,G1,sr.mono x1,h1,p2⟩
 ·exact⟨x,H2,I2,r1,g8.ok p2 h1 _ rd⟩
theorem eH1{W9:List Expr}(ha:DE X Z a fa)(hb:DE X Z (.BoolOp .And (b::W9) pos) fb):DE X Z (.BoolOp .And (a::b::W9) pos) (aB4 fa fb):=by
 refine⟨?_⟩
 intro pins s O H Q I hE0
 refine hE0.elim λX9 U G sr h p=>?_
 refine BoolOp_and (thn (ha.h pins s O H _ I ⟨X9,U,G,sr,h,(g8.bind p).mono λd X0 G1 H1 x1 h1 p1 v rv=>(⟨d,X0,G1,x1,rv,h1,p1⟩:∃d X0 G1,Ext U H X0 H1/\j9 (wc X) X0 H1 d v/\J8 (wc X) X0 G1 H1/\g8 (wc X) Z X0 H1 ((aF4 d >>= λk=>if k=true then fb X9 else pure d) G1) λd X2 _ H'=>∀v,j9 (wc X) X2 H' d v->Q v H')⟩) λv s1 ⟨x,H1,I1,r1,d,X0,G1,x1,rd,h1,p1⟩=>?_)
 obtain⟨k,tk,p2⟩:=bQ3 h1 rd p1
 refine thn (cZ7 pins s1 O H1 x v (λc H'=>c=k/\H'=H1) I1 r1 ⟨k,tk,rfl,rfl⟩) λc s2 ⟨H2,I2,e1,e2⟩=>?_
 subst e1 e2
 rcases c with _|_
 ·exact⟨x,H2,I2,r1,g8.ok p2 h1 _ rd⟩
 ·exact hb.h pins s2 O H2 Q I2 ⟨X9,X0,G1,sr.mono x1,h1,p2⟩
end
end DL
namespace W
open PySem PySem.Spec L2 DL
open PyProof.Rows hiding St
section
variable{G:DH}{O:DSt}{Q:DPP}{a b:Fe}
theorem dR9:Wp (dA0 a b O) G Q↔Wp (a O) G λx G1=>Wp (aF4 x) G1 λk G2=>if k=true then Q x G2 else Wp (b O) G2 Q:=by unfold dA0;simp only[m8,aX1,m6]
theorem bD8:Wp (aB4 a b O) G Q↔Wp (a O) G λx G1=>Wp (aF4 x) G1 λk G2=>if k=true then Wp (b O) G2 Q else Q x G2:=by unfold aB4;simp only[m8,aX1,m6]
theorem eH6{c d:Bool}:Wp (aC1 (.bl c) (.bl d)) G Q↔Q (.bl (c != d)) G:=m6
theorem eE8{x:D}:Wp (cC7 x .non) G Q↔Q (.bl (U0 x)) G:=m6
theorem dS0{x:D}:Wp (aC1 x .non) G Q↔Q (.bl (!U0 x)) G:=m6
end
end W
namespace DL
open PySem PySem.Spec L2
open PyProof.Rows hiding St
structure b8(F:List D->M D)(n:Nat)(x:Str)(P:zE)(w:zP)(K:zk)(mg:Str->Option ze)(base:Heap)(k:Nat):Prop where
 ex:∃f fd ps,M4 P w K mg base CX0 k f fd ps (spD ⟨K,mg⟩ n F)/\mg x=some (.ref f)/\jV K (.ref f)=true/\bK6 K fd ps []
theorem b8.of{P:zE}{w:zP}{K:zk}{mg:Str->Option ze}{base:Heap}{k n:Nat}{x:Str}{st:Stmt}{ps:List Str}{f:Addr}{fd:jm}{F:List D->M D}(c:FF K mg x st ps f fd)(h:M4 P w K mg base CX0 k f fd ps (spD ⟨K,mg⟩ n F)):b8 F n x P w K mg base k:=
 ⟨f,fd,ps,h,c.m,c.F.kp,c.b⟩
noncomputable def bltL:List Str:= ["len", "isinstance", "all", "any", "sum", "min", "max", "abs", "sorted", "tuple", "list", "int", "str", "bool", "dict", "zip", "enumerate", "range", "reversed", "set"]
structure BLs(mg:Str->Option ze):Prop where
 h:∀b∈bltL,mg b=none
theorem bH5{p:Pos}{l:List (Bool×Sem ze)}:(backTo p l).any (·.1)=l.any (·.1):=by
 unfold backTo
 rw[List.any_map]
 rfl
theorem bJ2{env:Env}:∀ {es:List Expr},es.all X3=true->(zJ es env).any (·.1)=false
 |[],_=>rfl
 |e::es,h=>by
   rw[zB,zg]at h
   rw[q17 h.1,jq,bJ2 h.2]
   rfl
section
variable{X:Cx}{Z:XC}{a b c e:Expr}{es:List Expr}{fa fb fc:Fe}{fs:DSt->M (List D)}{pos p:Pos}{x:Str}
theorem fX6{i:Nat}(hN:∃N ps sc,u9 N ps sc/\X.N=N)(hi:X.N[i]? =some x)(hx:Loc X.env.scope x)(hf:X.fn x=true\/X.env.scope.names.lookup x=some .local):DG X Z (.Name x pos) (q16 i):=by
 obtain⟨N,ps,sc,S,e⟩:=hN
 exact dH2 (by rw[e];exact S.nd) hi hx hf
theorem gD0(ha:DE X Z e fa)(hr:DA X Z es fs)(hs:X3 e=true):DA X Z (e::es) (q13 fa fs):=q18 ha hr (q17 hs)
theorem dX9{F:List D->M D}{n:Nat}(hF:∃k kk,b8 F n x X.prog X.w X.K X.mg X.base k/\aG6 kk X.A/\k<=kk)(hg:Gl X x)(ha:DA X Z (e::es) fs)(hdb:(x==("__debug__" :Str))=false)(hs:(e::es).all X3=true):
 DE X Z (.Call (.Name x p) (e::es) [] pos) (q15 (fnX n F) fs):=by
 obtain⟨k,kk,hF,hr,hk⟩:=hF
 obtain⟨f,fd,ps,h1,h2,h3,h4⟩:=hF.ex
 rw[zB,zg]at hs
 exact eE2 h1 (hr.mono hk) hg h2 h3 h4 ha hdb (q17 hs.1) (by rw[bH5];exact bJ2 hs.2)
structure BD(F:List D->M D)(x:Str)(X:Cx)(Z:XC):Prop where
 ex:(∃id,aE6 X Z (.builtin id) F/\zR x=some (.builtin id))\/(∃T,aE6 X Z (.type T) F/\zR x=some (.type T))
theorem fK2{F:List D->M D}(hc:X.calm=true)(hF:X.calm=true->BD F x X Z)(hb:BLs X.mg)(hx:bltL.elem x=true)(hg:Gl X x)(ha:DA X Z (e::es) fs)(hn:x≠ "__name__")(hdb:(x==("__debug__" :Str))=false)(hs:(e::es).all X3=true):
 DE X Z (.Call (.Name x p) (e::es) [] pos) (q15 F fs):=by
 have hm:=hb.h x (Jr.mp hx)
 rw[zB,zg]at hs
 rcases (hF hc).ex with⟨id,h1,h2⟩|⟨T,h1,h2⟩
 ·exact eC5 h1 hg hm h2 ha hn hdb (q17 hs.1) (by rw[bH5];exact bJ2 hs.2)
 ·exact dQ3 h1 hg hm h2 ha hn hdb (q17 hs.1) (by rw[bH5];exact bJ2 hs.2)
theorem fG0(_:X.calm=true):BD W8 "len" X Z:=⟨.inl ⟨_,fC5,fA0⟩⟩
theorem cD3(_:X.calm=true):BD o6 "isinstance" X Z:=⟨.inl ⟨_,dO8,cC0⟩⟩
theorem fB6(h:X.calm=true):BD aY1 "all" X Z:=⟨.inl ⟨_,eW4 h,fB2⟩⟩
theorem fJ0(h:X.calm=true):BD dO9 "sum" X Z:=⟨.inl ⟨_,fF3 h,fC0⟩⟩
theorem fD3(h:X.calm=true):BD dL0 "min" X Z:=⟨.inl ⟨_,fC1 h,eX8⟩⟩
theorem dY8(_:X.calm=true):BD aL8 "tuple" X Z:=⟨.inr ⟨_,eA2,dR6⟩⟩
theorem eE0(_:X.calm=true):BD bH9 "list" X Z:=⟨.inr ⟨_,eL0,dF3⟩⟩
theorem eZ4(_:X.calm=true):BD cQ1 "int" X Z:=⟨.inr ⟨_,fD6,eX4⟩⟩
theorem eD6:∀n∈ ["int", "bool", "str", "tuple", "list", "dict"],zR (jz n)=some (.type n):=by decide +kernel
theorem fL2{n:String}(hb:BLs X.mg)(hn:n∈ ["int", "bool", "str", "tuple", "list", "dict"])(hx:bltL.elem (jz n)=true)(hg:Gl X (jz n))(hnn:jz n≠ "__name__")(hd:(jz n==("__debug__" :Str))=false):DE X Z (.Name (jz n) pos) (cE (.ty n)):=
 fN1 hg (hb.h _ (Jr.mp hx)) (eD6 n hn) hnn hd
variable{tg:Expr}{tp:Pos}{x1:Nat}{es1:List Expr}
theorem fR9(hb:BLs X.mg)(hg:Gl X "range")(ha:DA X Z [a] fs)(hs:X3 a=true):DI X Z tg (.Call (.Name "range" p) [a] [] pos) (aG0 fs):=eJ2 hg (hb.h _ (by decide +kernel)) ha (aO3 hs)
theorem fP6(hb:BLs X.mg)(hg:Gl X "range")(ha:DA X Z [a,b] fs)(hs:X3 a=true)(hs2:X3 b=true):DI X Z tg (.Call (.Name "range" p) [a,b] [] pos) (bG5 fs):=eJ8 hg (hb.h _ (by decide +kernel)) ha (cA8 hs hs2) (aO3 hs2)
theorem gD8(hb:BLs X.mg)(hg:Gl X "zip")(ha:DA X Z [a,b] fs)(hs:X3 a=true)(hs2:X3 b=true):DI X Z (.Tuple es1 x1 tp) (.Call (.Name "zip" p) [a,b] [] pos) (bZ0 fs):=fI5 hg (hb.h _ (by decide +kernel)) ha (cA8 hs hs2) (aO3 hs2) dW4
theorem gE3(hb:BLs X.mg)(hg:Gl X "enumerate")(ha:DA X Z [a] fs)(hs:X3 a=true):DI X Z (.Tuple es1 x1 tp) (.Call (.Name "enumerate" p) [a] [] pos) (bQ2 fs):=eK1 hg (hb.h _ (by decide +kernel)) ha (aO3 hs) cL3
noncomputable def bP5(sc:Scope):List Str:=(sc.names.filterMap λy=>if y.2 == .local&&y.1 != (".0" :Str)then some y.1 else none)++(sc.names.filterMap λy=>if y.2 == .free then some y.1 else none)
variable{elt iter:Expr}{ifs:List Expr}{scope:Scope}{caps:List (Option Nat)}{it:DSt->M Src}{gg:Fg}{tt:DSt->M Bool}{fe:Fe}
theorem eN1(hc:X.calm=true)(hi:DI X Z tg iter it)(k:∃XN ps osc,u9 XN ps osc/\X.env.scope=osc/\X.N=XN/\cJ4 osc scope (bP5 scope) XN caps=true)(nd:(bP5 scope).Nodup)
 (hg:(bP5 scope).Nodup->∀C s H ex,DG (aE2 X scope (bP5 scope) C s H ex) ZF tg gg) (ht:∀C s H ex,DTs (aE2 X scope (bP5 scope) C s H ex) ZF ifs tt) (he:∀C s H ex,DE (aE2 X scope (bP5 scope) C s H ex) ZF elt fe)
 (hf:∀x,foldedSetIterable iter X.env x=pure x):DE X Z (.ListComp elt [⟨tg,iter,ifs,0⟩] scope pos) (Q0 it caps gg tt fe):=let ⟨_,_,_,_,hs,hN,k⟩:=k;eG3 hc hi (aN6.of k hs hN) (hg nd) ht he hf
end
section
variable{X:Cx}{Z:XC}
end
end DL
namespace W
open PySem PySem.Spec L2 DL
open PyProof.Rows hiding St
section
variable{G:DH}{Q:DPP}
end
end W
namespace DL
open PySem PySem.Spec L2
open PyProof.Rows hiding St
def Itd(a:Addr)(o:Obj)(kvs:List (Key×V)):It:=
 ⟨λi H=>H a=some (.frz o (.dK kvs))/\∃kv,kvs[i]? =some kv,λi H x H'=>H'=H/\∃kv,kvs[i]? =some kv/\x=kV kv.1,λi H=>H a=some (.frz o (.dK kvs))/\kvs.length<=i⟩
theorem eB5{κ:Type}:∀ {kvs:List (κ×V)} {vs:List (κ×ze)} {i:Nat} {kv:κ×V},KV kvs vs->kvs[i]? =some kv->∃v,vs[i]? =some (kv.1,v)
 |_,_,_,_,.nil,e=>by simp at e
 |_,_,0,_,.cons h t,e=>by
   simp only[zI,zN]at e
   subst e
   exact⟨_,by rw[zI,h.1]⟩
 |_,_,i+1,_,.cons h t,e=>by
   simp only[yW]at e ⊢
   exact eB5 t e
theorem eW6{P:zE}{w:zP}{k:Key}{u:ze}(h:(V5 P w).is k u=true):M3 (kV k) u:=by
 rcases S8 (k:=k) (v:=u) h with⟨i,t,rfl,rfl⟩|⟨x,t,rfl,rfl⟩
 ·exact⟨t,rfl⟩
 ·exact⟨t,rfl⟩
theorem dX7{X:Cx}{pins:PNS}{s:zm}{O:St}{H:Hp}{a:Addr}{o:Obj}{es:Array DictEntry}{ep:Nat}{kvs:List (Key×V)}(I:Inv X pins O H s)(ho:o.data= .dict es ep)(e:H a=some (.frz o (.dK kvs))):
 (a==sysModules)=false/\∃vs,KV kvs vs/\s.heap.DictAt (V5 X.prog X.w) a vs ep:=by
 obtain⟨hget,hz,hS,vs,r,m⟩:=(show W7 X.prog X.w H s.heap a (.frz o (.dK kvs))from I.hok a _ e)
 obtain⟨ep',dat⟩:=m.dictAt
 have hep:ep'=ep:=by
  obtain⟨o',es',h1,_,h3,_⟩:=id dat
  rw[hget]at h1
  cases h1
  rw[ho]at h3
  cases h3
  rfl
 subst hep
 exact⟨hS,vs,r,dat⟩
theorem cI0{P:zE}{w:zP}{K:zk}{tg:Expr}{a:Addr}{o:Obj}{es:Array DictEntry}{ep:Nat}{kvs:List (Key×V)}(ho:o.data= .dict es ep)(it:Addr):bZ7 P w K tg (Itd a o kvs) [it] it (λi h=>h.IsKeyIter it a i kvs.length ep) where
 mem:=by simp
 obj:=λi h st b hb=>by
  have e:b=it:=by simpa using hb
  subst e
  obtain⟨o,e,c,d⟩:=st
  exact⟨o,e,λv z=>by rw[d]at z;cases z⟩
 keep:=λi h h' st k=>let ⟨o,ho,r⟩:=st;⟨o,k it (by simp) o ho,r⟩
 item:=by
  intro X hP hw hK hc i pins s O H E I hf st hg
  subst hP hw hK
  obtain⟨hfr,kv,hx⟩:=hg
  obtain⟨f0,f1,f2,f3,f4,f5⟩:=hf it (by simp)
  obtain⟨hS,vs,rel,dat⟩:=dX7 I ho hfr
  obtain⟨v,hv⟩:=eB5 rel hx
  have hlen:kvs.length=vs.length:=yC rel
  rw[hlen]at st
  refine wpAny_pyNext_dict_item st dat hv λkey h' hk st' sb=>?_
  have I1:Inv X pins O H {s with heap:=h'}:=I.turned (t':=s.toks) (λb o hb e=>(sb.2 b hb).trans e) f0 f1 f3 f4 f5
  obtain⟨o',e,cc,d⟩:=id st'
  refine⟨_,rfl,cD5 (s:={s with heap:=h'}) e cc d (by decide) ⟨kV kv.1,H,I1,eW6 hk,⟨rfl,kv,hx,rfl⟩,by rw[hlen];exact st',λb hb=>(hf b hb).1⟩⟩
 done:=by
  intro X hP hw hK hc i pins s O H E I hf st hg
  subst hP hw hK
  obtain⟨hfr,hi⟩:=hg
  obtain⟨f0,f1,f2,f3,f4,f5⟩:=hf it (by simp)
  obtain⟨hS,vs,rel,dat⟩:=dX7 I ho hfr
  have hlen:kvs.length=vs.length:=yC rel
  rw[hlen]at st hi
  exact wpAny_pyNext_dict_end (I.ok.hd hc) st dat (jn hi) λh' eb=>⟨rfl,I.turned (t':=s.toks) (λb o hb e=>eb b o hb e) f0 f1 f3 f4 f5⟩
 self:=λ_ _ _ _ _ st h=>wpAny_pyIter_keyiter st h
theorem J8.setR{c:Wc}{U:List Addr}{G:DH}{H:Hp}{i:Nat}{a:Addr}{o o':DO}{u:HO}(h:J8 c U G H)(g:G[i]? =some o)(n:¬aT9 (some o))(m:U[i]? =some a)(k:Ext U H U (upd H a u))(ho:aR6 c U (upd H a u) a o'):J8 c U (G.set i o') (upd H a u):=by
 have hi:i<G.length:=lt_of_get g
 have get:∀j,(G.set i o')[j]? =if i=j then some o' else G[j]? :=λj=>by
  rw[ZB]
  by_cases e:i=j
  ·subst e;simp[hi]
  ·simp[e]
 refine⟨by simp[h.len],λj l b ej el=>?_,λj o2 b gj mj=>?_⟩
 · rcases h.inj j l b ej el with e|e|e
   ·exact .inl e
   · by_cases ij:i=j
     ·subst ij;rw[g]at e;exact(n e).elim
     ·right;left;rw[get,if_neg ij];exact e
   · by_cases ij:i=l
     ·subst ij;rw[g]at e;exact(n e).elim
     ·right;right;rw[get,if_neg ij];exact e
 · rw[get]at gj
   by_cases ij:i=j
   · subst ij
     rw[if_pos rfl]at gj
     cases gj
     rw[m]at mj
     cases mj
     exact ho
   · rw[if_neg ij]at gj
     have q:=h.obj j o2 b gj mj
     by_cases hr:aT9 (some o2)
     ·exact q.mono k (.inr hr)
     · have nb:b≠a:=λe=>by
        subst e
        rcases h.inj i j b m mj with e|e|e
        ·exact ij e
        ·rw[g]at e;exact n e
        ·rw[gj]at e;exact hr e
       exact q.mono k (.inl (K5 nb))
section
variable{X:Cx}{Z:XC}{tg e:Expr}
theorem Inv.freeze{pins:PNS}{s:zm}{O:St}{H:Hp}{a:Addr}{o:Obj}{kvs:List (Key×V)}(I:Inv X pins O H s)(e:H a=some (.dK kvs))(ho:s.heap.get? a=some o):Inv X pins O (upd H a (.frz o (.dK kvs))) s:=by
 have q:W7 X.prog X.w H s.heap a (.dK kvs):=I.hok a _ e
 exact I.write (x:=a) (e:=a) (t':=s.toks) (h':=s.heap) (by rw[e];exact trivial) (.inl rfl) (λb u _ z=>z) ⟨o,ho⟩ ⟨ho,q⟩
def iW(K:zk)(tl:TE):TI:=λO H R=>tl O H λx H1=>((∃z,x= .str z/\R (Its z) H1)\/(∃k a xs,x= .ref a/\Sq K k H1 a xs/\R (if k=true then Itt K a else Itl K a) H1))\/
 (∃a kvs,x= .ref a/\H1 a=some (.dK kvs)/\∀o,R (Itd a o kvs) (upd H1 a (.frz o (.dK kvs))))\/(∃a o kvs,x= .ref a/\H1 a=some (.frz o (.dK kvs))/\R (Itd a o kvs) H1)
theorem gC4{tl:TE}(hl:PE X e tl):PI X tg e (iW X.K tl):=by
 intro pins s O H R I h
 refine thn (hl pins s O H _ I h) λv s1 hE1=>hE1.elim λx H1 I1 r1 q1=>?_
 have fpo:∀b∈ [s1.heap.objs.size],bB9 X pins H1 b:=λb hb=>by
  have z:b=s1.heap.objs.size:=by simpa using hb
  subst z
  exact I1.fpOk (zd _) (I1.hok.fresh (zd _))
 rcases q1 with(⟨z,rfl,q⟩|⟨k,a,xs,rfl,hq,q⟩)|⟨a,kvs,rfl,hq,q⟩|⟨a,o,kvs,rfl,hq,q⟩
 · obtain⟨t,rfl⟩:=(show ∃t,v=Value.str z t from r1)
   refine wpAny_pyIter_strU ?_
   have I2:Inv X pins O H1 {s1 with heap:=s1.heap.push {cls:=.type (strIterType z),data:=.fields #[.str z t,.int 0 0]}}:=I1.kept (t':=s1.toks) λb o z=>zj _ z
   have hg:(s1.heap.push {cls:=.type (strIterType z),data:=.fields #[.str z t,.int 0 0]}).get? s1.heap.objs.size=some {cls:=.type (strIterType z),data:=.fields #[.str z t,.int 0 0]}:=zC _ rfl
   by_cases ha:z.cps.all (· < 128)=true
   · have e:strIterType z= "str_ascii_iterator":=by unfold strIterType;rw[if_pos ha]
     refine⟨s1.heap.objs.size, [s1.heap.objs.size],_,_,H1,rfl,I2,cX3 z t _,?_,fpo,q⟩
     rw[e]at hg ⊢
     exact⟨_,hg,rfl,rfl⟩
   · have e:strIterType z= "str_iterator":=by unfold strIterType;rw[if_neg ha]
     refine⟨s1.heap.objs.size, [s1.heap.objs.size],_,_,H1,rfl,I2,dK7 z t _,?_,fpo,q⟩
     rw[e]at hg ⊢
     exact⟨_,hg,rfl,rfl⟩
 · cases r1
   rcases k with _|_
   ·
     obtain⟨its,rv,p,hz⟩:=I1.list hq
     exact Yc p.isList ⟨s1.heap.objs.size, [s1.heap.objs.size],_,_,H1,rfl,I1.kept (t':=s1.toks) λb o z=>zj _ z,dM0 a _,⟨_,zC _ rfl,rfl,rfl⟩,fpo,q⟩
   ·
     obtain⟨its,rv,p,hz⟩:=I1.tuple hq
     exact Jk (show s1.heap.IsTuple a its.toArray from p) ⟨s1.heap.objs.size, [s1.heap.objs.size],_,_,H1,rfl,I1.kept (t':=s1.toks) λb o z=>zj _ z,dC0 a _,⟨_,zC _ rfl,rfl,rfl⟩,fpo,q⟩
 · cases r1
   obtain⟨hz,hS,vs,rel,dd⟩:=eC7 I1.hok hq
   obtain⟨ep,dat⟩:=dd.dictAt
   obtain⟨o,es,h1,h2,h3,h4⟩:=id dat
   have hlen:kvs.length=vs.length:=yC rel
   have I2:=DL.Inv.freeze I1 hq h1
   have fpo2:∀b∈ [s1.heap.objs.size],bB9 X pins (upd H1 a (.frz o (.dK kvs))) b:=λb hb=>by
    have z:b=s1.heap.objs.size:=by simpa using hb
    subst z
    exact I2.fpOk (zd _) (I2.hok.fresh (zd _))
   refine Jt hS dat ⟨s1.heap.objs.size, [s1.heap.objs.size],_,_,upd H1 a (.frz o (.dK kvs)),rfl,I2.kept (t':=s1.toks) λb o z=>zj _ z,cI0 (kvs:=kvs) h3 _,?_,fpo2,q o⟩
   rw[hlen]
   exact⟨_,zC _ rfl,rfl,rfl⟩
 · cases r1
   obtain⟨hget,hz,hS,vs,rel,dd⟩:=(show W7 X.prog X.w H1 s1.heap a (.frz o (.dK kvs))from I1.hok a _ hq)
   obtain⟨ep,dat⟩:=dd.dictAt
   obtain⟨o',es,h1,h2,h3,h4⟩:=id dat
   rw[hget]at h1
   cases h1
   have hlen:kvs.length=vs.length:=yC rel
   refine Jt hS dat ⟨s1.heap.objs.size, [s1.heap.objs.size],_,_,H1,rfl,I1.kept (t':=s1.toks) λb o z=>zj _ z,cI0 (kvs:=kvs) h3 _,?_,fpo,q⟩
   rw[hlen]
   exact⟨_,zC _ rfl,rfl,rfl⟩
noncomputable def dV2:Key->D
 | .inl i=>.int i
 | .inr x=>.str x
def bE7(l:List (Key×D)):List D:=l.map λkv=>dV2 kv.1
def bP4:D->M Src:=λx=>match x with
 | .ref r=>do
   match <-V6 r with
   | .dct l=>do
     let _ <-bU1 r (.rod l)
     pure ⟨bE7 l,λ_=>true⟩
   | .rod l=>pure ⟨bE7 l,λ_=>true⟩
   |_=>eM2 (.ref r)
 |d=>eM2 d
def itW(f:Fe):DSt->M Src:=λO=>do bP4 (<-f O)
theorem cM6{X0:List Addr}{G1:DH}{H1:Hp}{d:D}{v:V}{R:It->Hp->Prop}(h1:J8 (wc X) X0 G1 H1)(rv:j9 (wc X) X0 H1 d v)(p1:g8 (wc X) Z X0 H1 (eM2 d G1) λs X2 _ H'=>∀J,ItD (wc X) X2 H' J s->R J H'):
 (∃z,v= .str z/\R (Its z) H1)\/(∃k a xs,v= .ref a/\Sq X.K k H1 a xs/\R (if k=true then Itt X.K a else Itl X.K a) H1):=by
 have main:∀dd:D,(∀z,dd≠ .str z)->j9 (wc X) X0 H1 dd v->g8 (wc X) Z X0 H1 (aK6 dd G1) (λs X2 _ H'=>∀J,ItD (wc X) X2 H' J s->R J H')->(∃z,v= .str z/\R (Its z) H1)\/(∃k a xs,v= .ref a/\Sq X.K k H1 a xs/\R (if k=true then Itt X.K a else Itl X.K a) H1):=by
  intro dd _ rv p1
  have p1':g8 (wc X) Z X0 H1 ((aK6 dd >>= λs=>(pure s:M Src)) G1) λs X2 _ H'=>∀J,ItD (wc X) X2 H' J s->R J H':=by
   have e:(aK6 dd >>= λs=>(pure s:M Src))=aK6 dd:=by
    funext G
    rw[M.bind_eq]
    rcases aK6 dd G with _|q
    ·rfl
    ·obtain⟨r,G'⟩:=q;cases r<;>rfl
   rw[e];exact p1
  obtain⟨sr,k,a,vs,rfl,q,rl,is,ck,_,p2⟩:=bD5 h1 rv p1'
  refine .inr ⟨k,a,vs,rfl,q,g8.ok p2 h1 _ λX2 G' H' x' h' ck' i=>?_⟩
  obtain⟨vs',q',rl'⟩:=is X2 G' H' x' h' ck'
  refine⟨λd hd=>?_,λhi=>?_⟩
  · obtain⟨y,hy,ry⟩:=rl'.get hd
    cases k with
    |true=>
      rw[if_pos rfl]
      exact⟨⟨vs',y,q',hy⟩,λx H2 ⟨e1,e2⟩=>by subst e1;exact⟨Ext.refl _ _,h',dE3 rl' hd (e2 vs' q')⟩⟩
    |false=>
      rw[if_neg jc]
      exact⟨⟨vs',y,q',hy⟩,λx H2 ⟨e1,e2⟩=>by subst e1;exact⟨Ext.refl _ _,h',dE3 rl' hd (e2 vs' q')⟩⟩
  · cases k with
    |true=>rw[if_pos rfl];exact⟨vs',q',by rw[<-rl'.length];exact hi⟩
    |false=>rw[if_neg jc];exact⟨vs',q',by rw[<-rl'.length];exact hi⟩
 cases d with
 |str z=>
   refine .inl ⟨z,bB8 rv,g8.ok p1 h1 _ λX2 G' H' x' h' ck' i=>⟨λd hd=>?_,λhi=>?_⟩⟩
   · simp only[aG9,jl]at hd
     cases hc:z.cps.toList[i]? with
     |none=>rw[hc]at hd;cases hd
     |some c=>
       rw[hc]at hd
       cases hd
       have hc':z.cps[i]? =some c:=by rw[<-xc];exact hc
       exact⟨⟨c,hc'⟩,λx H2 ⟨e1,c2,e2,e3⟩=>by
        subst e1
        rw[hc']at e2
        cases e2
        exact⟨Ext.refl _ _,h',by rw[e3];unfold j9;rfl⟩⟩
   · simp only[aG9,zo]at hi
     show z.cps[i]? =none
     rw[<-xc]
     exact jn hi
 |tup l=>exact main (.tup l) (λz q=>nomatch q) rv p1
 |ref r=>exact main (.ref r) (λz q=>nomatch q) rv p1
 |_=>exact p1.elim
theorem cP8{c:Wc}{U:List Addr}{H:Hp}:∀ {l:List (Key×D)} {kvs:List (Key×V)} {i:Nat} {kd:Key×D},aI9 c U H l kvs->l[i]? =some kd->∃v,kvs[i]? =some (kd.1,v)
 |[],_,_,_,_,e=>by simp at e
 |(k,d)::r,_,0,_,h,e=>by
  obtain⟨v,t,rfl,_,_⟩:=h
  simp only[zI,zN]at e
  subst e
  exact⟨v,rfl⟩
 |(k,d)::r,_,i+1,_,h,e=>by
  obtain⟨v,t,rfl,_,ht⟩:=h
  simp only[yW]at e ⊢
  exact cP8 ht e
theorem eF3{c:Wc}{U:List Addr}{H:Hp}(k:Key):j9 c U H (dV2 k) (kV k):=by
 cases k<;>(unfold dV2 j9;rfl)
theorem eA9{c:Wc}{U:List Addr}{H:Hp}{a:Addr}{o:Obj}{l:List (Key×D)}{kvs:List (Key×V)}(e:H a=some (.frz o (.dK kvs)))(rk:aI9 c U H l kvs):ItD c U H (Itd a o kvs) ⟨bE7 l,λ_=>true⟩:=by
 intro X2 G' H' x h' _ i
 have e':=x.frz _ _ _ e
 refine⟨λd hd=>?_,λhi=>⟨e',by rw[<-rk.length];simpa [bE7]using hi⟩⟩
 simp only[bE7,jl]at hd
 cases hl:l[i]? with
 |none=>rw[hl]at hd;cases hd
 |some kd=>
   rw[hl]at hd
   cases hd
   obtain⟨v,hv⟩:=cP8 rk hl
   exact⟨⟨e',_,hv⟩,λy H2 ⟨e1,kv,e2,e3⟩=>by
    subst e1
    rw[hv]at e2
    cases e2
    exact⟨Ext.refl _ _,h',by rw[e3];exact eF3 _⟩⟩
theorem fZ9{f:Fe}(he:DE X Z e f):DI X Z tg e (itW f):=
 DI.of (gC4 he.h) λO H R hE0=>hE0.elim λX9 U G s h p=>⟨X9,U,G,s,h,(g8.bind p).mono λd X0 G1 H1 x1 h1 p1 v rv=>by
  cases d with
  |ref r=>
    have rv':=rv
    unfold j9 at rv'
    obtain⟨a,m,rfl⟩:=rv'
    obtain⟨o,g,p2⟩:=U6 p1
    have ro:=h1.obj r o a g m
    rcases o with l|l|l|l
    ·exact .inl (cM6 h1 rv p2)
    ·exact .inl (cM6 h1 rv p2)
    ·
      obtain⟨kvs,q,rk⟩:=ro
      refine .inr (.inl ⟨a,kvs,rfl,q,λo=>?_⟩)
      have x:Ext X0 H1 X0 (upd H1 a (.frz o (.dK kvs))):=Ext.mut (jC m) q (λ_ z=>nomatch z) (λ_ _ z=>nomatch z) _
      have hk':=rk.mono x
      have h2:J8 (wc X) X0 (G1.set r (.rod l)) (upd H1 a (.frz o (.dK kvs))):=h1.setR g (λz=>z) m x ⟨kvs,o,T7,hk'⟩
      have p3:=g8.from p2 x
      exact g8.ok p3 h2 _ (eA9 T7 hk')
    ·
      obtain⟨kvs,o,q,rk⟩:=ro
      exact .inr (.inr ⟨a,o,kvs,rfl,q,g8.ok p2 h1 _ (eA9 q rk)⟩)
  |_=>exact .inl (cM6 h1 rv p1)⟩
end
end DL
namespace W
open PySem PySem.Spec L2 DL
open PyProof.Rows hiding St
section
variable{G:DH}{O:DSt}{R:Src->DH->Prop}
theorem wp_itW{f:Fe}:Wp (itW f O) G R↔Wp (f O) G λx G1=>Wp (bP4 x) G1 R:=by
 unfold itW;simp only[m8]
theorem dW5{z:Str}:Wp (bP4 (.str z)) G R↔R ⟨aG9 z,λ_=>true⟩ G:=m6
theorem srcW_tup{l:List D}:Wp (bP4 (.tup l)) G R↔R ⟨l,λ_=>true⟩ G:=m6
theorem bM8{p:Nat}{l:List D}(e:G[p]? =some (.lst l)):Wp (bP4 (.ref p)) G R↔R ⟨l,ckO p (.lst l)⟩ G:=by
 unfold bP4
 simp only[m8,U7,e,R9]
 exact dY2 e
theorem dY0{p:Nat}{l:List (Key×D)}(e:G[p]? =some (.dct l)):Wp (bP4 (.ref p)) G R↔R ⟨bE7 l,λ_=>true⟩ (G.set p (.rod l)):=by
 unfold bP4
 simp only[m8,U7,e,R9,bO0,m6]
theorem dS5{p:Nat}{l:List (Key×D)}(e:G[p]? =some (.rod l)):Wp (bP4 (.ref p)) G R↔R ⟨bE7 l,λ_=>true⟩ G:=by
 unfold bP4
 simp only[m8,U7,e,R9,m6]
end
end W
namespace DL
open PySem PySem.Spec L2
open PyProof.Rows hiding St
section
variable{prog:zE}{w:zP}{A:zK}{E:VSP}{s:zm}{Q:VSP}
theorem cX5{a:Addr}{T:String}{o:Obj}{vs:List ze}{n:Nat}(hT:T= "list"\/T= "tuple")(ho:s.heap.get? a=some o)(hc:o.cls= .type T)(hd:o.data= .seq vs.toArray n)(h64:vs.length<64){ss:List Str}(hS:StrsAre vs ss)
 (h:∀(h1 h':Heap) (tk e:Nat) (out:List ze) (ss':List Str),(∀b o,s.heap.get? b=some o->h1.get? b=some o)->(∀b o,h1.get? b=some o->h'.get? b=some o)->h'.get? h1.objs.size=some (seqObj "list" out.toArray e)->StrsAre out ss'->ss'.Perm ss->sortedS ss'=true->Q (.ref h1.objs.size) {s with heap:=h',toks:=tk}):
 zy (zH prog w) A (call (.builtin "sorted") [.ref a]) Q E s:=by
 have hz:vs.length<=zh:=zv (yN h64) (by decide)
 refine Yn kind_sorted plain_sorted entry_sorted (args_sorted1 _) ?_
 unfold Builtin.«sorted»
 refine za (m:=checkCount "sorted" 1 1 _) (zt ?_)
 refine za (wpAny_collect_seq (A:=A.in1) a hT ho hc hd (λh1 hk=>?_) (by rw[zr];exact hz))
 refine za (wpAny_newList ?_ hz)
 have hoL:(h1.push (seqObj "list" vs.toArray 0)).get? h1.objs.size=some (seqObj "list" vs.toArray 0):=zC _ rfl
 refine za (jK (jH slot_list_sort ⟨_,hoL,rfl⟩ entry_list_sort (list_sort_treeK strKind_oneLt hoL hS.keysOf (λv₁ v₂ W9 e=>keyKind_strs (by rw[<-e];exact hS)) h64 λst' a1 a2=>⟨_,rfl,?_⟩) (args_list_sort _)))
 obtain⟨ss',b1,b2,b3⟩:=sorted_out_str hS a1 a2
 obtain⟨e,he⟩:=sortedHeap_at (vs:=vs) (out:=(arrOf st').map (·.2)) hoL
 refine zt ⟨_,rfl,h h1 _ s.toks e ((arrOf st').map (·.2)).toList ss' hk (λb o hb=>?_) (by rw[YZ];exact he) b1 b2 b3⟩
 have hlt:b<h1.objs.size:=zA hb
 rw[sortedHeap_old (zW hlt) (by rw[size_push'];exact yZ hlt),XI _ _ _ (zW hlt)]
 exact hb
end
def cT2(l:List D):M D:=do
 let ss <-bB7 (aL1 l)
 if ss.length<64 then S6 (.lst ((aE3 ss).map .str))else M.stuck
def aK4:List D->M D:=λds=>match ds with
 |[.tup l]=>cT2 l
 |[.ref r]=>do
   match <-V6 r with
   | .lst l=>cT2 l
   | .dct l=>do
     let ss <-bB7 (J5 l)
     if ss.length<64 then S6 (.lst ((aE3 ss).map .str))else M.stuck
   |_=>M.stuck
 |_=>M.stuck
section
variable{X:Cx}{Z:XC}
theorem cS9{c:Wc}{U:List Addr}{H:Hp}:∀ {l:List D} {ss:List Str} {vs:List V} {us:List ze},aL1 l=some ss->J0 c U H l vs->J7 vs us->StrsAre us ss
 |[],_,_,_,e,r,v=>by cases e;cases r;cases v;exact .nil
 | .str x::t,ss,_,_,e,r,v=>by
   replace e:=show (aL1 t).map (_ :: ·)=some _ from e
   rcases h:aL1 t with _|q
   ·rw[h]at e;exact J4 e
   ·
     rw[h]at e
     cases e
     obtain⟨v0,tl,rfl,r0,rt⟩:=r
     cases v with
     |cons ru rt2=>
       rw[bB8 r0]at ru
       obtain⟨tk,rfl⟩:=ru
       exact .cons _ _ (cS9 h rt rt2)
 | .non::_,_,_,_,e,_,_=>by exact J4 e
 | .bl _::_,_,_,_,e,_,_=>by exact J4 e
 | .int _::_,_,_,_,e,_,_=>by exact J4 e
 | .tup _::_,_,_,_,e,_,_=>by exact J4 e
 | .ref _::_,_,_,_,e,_,_=>by exact J4 e
 | .fn _::_,_,_,_,e,_,_=>by exact J4 e
 | .ty _::_,_,_,_,e,_,_=>by exact J4 e
theorem cT1:∀ {l:List D} {ss:List Str},aL1 l=some ss->ss.length=l.length
 |[],_,e=>by cases e;rfl
 | .str x::t,ss,e=>by
   replace e:=show (aL1 t).map (_ :: ·)=some _ from e
   rcases h:aL1 t with _|q
   ·rw[h]at e;exact J4 e
   ·rw[h]at e;cases e;simp[cT1 h]
 | .non::_,_,e=>by exact J4 e
 | .bl _::_,_,e=>by exact J4 e
 | .int _::_,_,e=>by exact J4 e
 | .tup _::_,_,e=>by exact J4 e
 | .ref _::_,_,e=>by exact J4 e
 | .fn _::_,_,e=>by exact J4 e
 | .ty _::_,_,e=>by exact J4 e
theorem cT7{U:List Addr}{G:DH}{pins:PNS}{s:zm}{O:St}{H:Hp}{Q:VK}{a:Addr}{T:String}{o:Obj}{vs:List V}{us:List ze}{n:Nat}{l:List D}(I:Inv X pins O H s)(hr:J8 (wc X) U G H)(rl:J0 (wc X) U H l vs)(rv:J7 vs us)(hT:T= "list"\/T= "tuple")(ho:s.heap.get? a=some o)(hc:o.cls= .type T)(hd:o.data= .seq us.toArray n)
 (p:g8 (wc X) Z U H (cT2 l G) λd X2 _ H'=>∀v,j9 (wc X) X2 H' d v->Q v H'):zy (zH X.prog X.w) X.A (call (.builtin "sorted") [.ref a]) (EP X pins O Q) X.xe s:=by
 obtain⟨ss,es,p2⟩:=aT7 p
 split at p2
 case isFalse=>exact p2.elim
 rename_i h64
 have hS:=cS9 es rl rv
 have hlen0:us.length=ss.length:=by rw[cT1 es,rl.length,rv.length]
 refine cX5 hT ho hc hd (by lia) hS λh1 h' tk e out ss' k1 k2 he hS' hp hs=>?_
 have e2:=cW6 hp hs
 subst e2
 obtain⟨ws,ew,rv',rl2⟩:=cB3 (c:=wc X) (U:=U) (H:=H) hS'
 have I1:Inv X pins O H {s with heap:=h1,toks:=tk}:=I.kept k1
 have hf:=I1.hok.fresh (zd _)
 have hlen:ws.length<=zh:=by
  rw[ew,zo]
  have e3:(aE3 ss).length=ss.length:=(yr ss leS).length_eq
  have:(64:Nat)<=zh:=by decide
  lia
 exact⟨.ref h1.objs.size,upd H h1.objs.size (.lst ws),I1.laid (t':=tk) k2 (zd _) ⟨hlen,out,e,rv',he⟩,rfl,aE9 hr rl2 p2 _ hf⟩
theorem cX6(hc:X.calm=true):aE6 X Z (.builtin "sorted") aK4:=⟨by
 intro pins s O H xs us Q I r hE0
 obtain⟨ds,U,G,rl,hr,p⟩:=hE0
 rcases ds with _|⟨_|_|_|_|l|i|_|_,_|⟨_,_⟩⟩<;>try exact p.elim
 all_goals (delta aK4 at p;dsimp only at p)
 · obtain⟨v,rfl,rv⟩:=bK2 rl
   obtain⟨u,rfl,ru⟩:=aT1 r
   unfold j9 at rv
   obtain⟨a,vs,rfl,q,rl'⟩:=rv
   cases ru
   obtain⟨its,rv,⟨o,h1,h2,n,h3⟩,hz⟩:=I.tuple q
   exact cT7 I hr rl' rv (.inr rfl) h1 h2 h3 p
 · obtain⟨v,rfl,rv⟩:=bK2 rl
   obtain⟨u,rfl,ru⟩:=aT1 r
   have rv':=rv
   unfold j9 at rv'
   obtain⟨a,m,rfl⟩:=rv'
   cases ru
   obtain⟨o,g,p1⟩:=U6 p
   have ro:=hr.obj i o a g m
   rcases o with l|l|l|l
   ·
     obtain⟨vs,q,rl'⟩:=ro
     obtain⟨its,rv,pl,hz⟩:=I.list (SqL.of q)
     obtain⟨o,h1,h2,n,h3⟩:=pl.isList
     exact cT7 I hr rl' rv (.inl rfl) h1 h2 h3 p1
   ·exact p1.elim
   ·
     refine(dJ7 (Z:=Z) hc).h pins s O H [.ref a] [.ref a] Q I r ⟨[.ref i],U,G,rl,hr,?_⟩
     have eo:V6 i G=some (.ok (.dct l),G):=by unfold V6;simp only[g]
     have e:cO3 [.ref i] G= ((do
      let ss <-bB7 (J5 l)
      if ss.length<64 then S6 (.lst ((aE3 ss).map .str))else M.stuck:M D)) G:=by
      show ((V6 i >>= λo=>match o with
       | .dct l => (do
         let ss <-bB7 (J5 l)
         if ss.length<64 then S6 (.lst ((aE3 ss).map .str))else M.stuck:M D)
       |_=>M.stuck):M D) G=_
      rw[M.bind_ok eo]
     rw[e]
     exact p1
   ·exact p1.elim⟩
theorem cX1(h:X.calm=true):BD aK4 "sorted" X Z:=⟨.inl ⟨_,cX6 h,dK0⟩⟩
end
end DL
namespace W
open PySem PySem.Spec L2 DL
open PyProof.Rows hiding St
section
variable{G:DH}{Q:DPP}
theorem dT9{l:List D}{ss:List Str}(hs:aL1 l=some ss)(h64:ss.length<64):Wp (cT2 l) G Q↔Q (.ref G.length) (G++[.lst ((aE3 ss).map .str)]):=by
 unfold cT2
 simp only[m8,bG0,hs,R9,if_pos h64,aF0]
theorem dM9{r:Nat}{l:List D}{ss:List Str}(e:G[r]? =some (.lst l))(hs:aL1 l=some ss)(h64:ss.length<64):Wp (aK4 [.ref r]) G Q↔Q (.ref G.length) (G++[.lst ((aE3 ss).map .str)]):=by
 unfold aK4
 simp only[m8,U7,e,R9]
 exact dT9 hs h64
theorem dN7{r:Nat}{l:List (Key×D)}{ss:List Str}(e:G[r]? =some (.dct l))(hs:J5 l=some ss)(h64:ss.length<64):Wp (aK4 [.ref r]) G Q↔Q (.ref G.length) (G++[.lst ((aE3 ss).map .str)]):=by
 unfold aK4
 simp only[m8,U7,e,R9,bG0,hs,if_pos h64,aF0]
end
end W
namespace DL
open PySem
section
variable{prog:zE}{w:zP}{A:zK}{E:VSP}
end
end DL
namespace DL
open PySem
open PyProof.Rows (IsTup)
section
variable{prog:zE}{w:zP}{A:zK}{R:Result->zm->Prop}{I:Addr}{fp wr:List Addr}{n:Nat}{P:Nat->ze->Prop}{St:Nat->Heap->Prop}{K:Type}[DecidableEq K]{knd:KeyKind prog w K}
end
section
variable{prog:zE}{w:zP}{A:zK}{E:VSP}{s:zm}{K:Type}[DecidableEq K]{knd:KeyKind prog w K}
end
end DL
namespace DL
open PySem PySem.Spec L2
open PyProof.Rows hiding St
section
variable{X:Cx}{Z:XC}{c:Wc}{U:List Addr}{H:Hp}{G:DH}
end
end DL
namespace W
open PySem PySem.Spec L2 DL
open PyProof.Rows hiding St
end W
namespace DL
open PySem PySem.Spec L2
open PyProof.Rows hiding St
section
variable{X:Cx}{Z:XC}{c:Wc}{U:List Addr}{H:Hp}
end
end DL
namespace W
open PySem PySem.Spec L2 DL
open PyProof.Rows hiding St
end W
namespace DL
open PySem PySem.Spec L2
open PyProof.Rows hiding St
section
variable{X:Cx}{Z:XC}{a b e:Expr}{fa fb:Fe}{pos:Pos}
end
end DL
namespace W
open PySem PySem.Spec L2 DL
open PyProof.Rows hiding St
end W
namespace DL
open PySem PySem.W
open PyProof.Rows hiding St
section
variable{α β:Type}{lt:Nat->Nat->Bool}{n:Nat}
end
structure OrdN(lt:Nat->Nat->Bool)(n:Nat):Prop where
 tr:∀i j k,lt i j=true->lt j k=true->lt i k=true
 tot:∀i j,i<n->j<n->i≠j->lt i j=false->lt j i=true
structure PermN(p:Array Nat)(n:Nat):Prop where
 pm:p.toList.Perm (jB n)
section
variable{lt:Nat->Nat->Bool}{n:Nat}{p:Array Nat}
end
end DL
namespace DL
open PySem PySem.Spec L2
open PyProof.Rows hiding St
section
variable{X:Cx}{pins:PNS}{O:St}{H:Hp}{s:zm}{A:zK}
end
section
variable{X:Cx}{pins:PNS}{O:St}{A:zK}{F:List D->M D}{k:Nat}{f:Addr}{fd:jm}{ps:List Str}
end
section
variable{X:Cx}{pins:PNS}{O:St}{H:Hp}{s:zm}
end
section
variable{prog:zE}{w:zP}{A:zK}{E:VSP}{s:zm}{C:Bool->zm->Prop}
end
section
variable{X:Cx}{Z:XC}{pins:PNS}{O:St}{H:Hp}{s:zm}{F:List D->M D}{k:Nat}{f:Addr}{fd:jm}{ps:List Str}{U:List Addr}{G:DH}
end
section
variable{X:Cx}{Z:XC}{e:Expr}{fe:Fe}{p pf kp pos:Pos}{x:Str}{F:List D->M D}
end
def CR(K:zk)(mg:Str->Option ze)(d:D)(u:ze):Prop:=∃v,M3 v u/\∀ U H,j9 ⟨K,mg⟩ U H d v
def CRL(K:zk)(mg:Str->Option ze)(l:List D)(us:List ze):Prop:=∃vs,J7 vs us/\∀ U H,J0 ⟨K,mg⟩ U H l vs
section
variable{K:zk}{mg:Str->Option ze}
theorem cB2{x:Str}{t:Tok}:CR K mg (.str x) (.str x t):=⟨.str x,⟨t,rfl⟩,λU H=>by unfold j9;rfl⟩
theorem eT5{b:Bool}:CR K mg (.bl b) (.bool b):=⟨.bl b,rfl,λU H=>by unfold j9;rfl⟩
theorem cO8:CR K mg .non .none:=⟨.non,rfl,λU H=>by unfold j9;rfl⟩
theorem aA7:CRL K mg [] []:=⟨[],.nil,λ_ _=>rfl⟩
theorem M7{d:D}{l:List D}{u:ze}{us:List ze}(h:CR K mg d u)(t:CRL K mg l us):CRL K mg (d::l) (u::us):=by
 obtain⟨v,r,h⟩:=h
 obtain⟨vs,rs,t⟩:=t
 exact⟨v::vs,.cons r rs,λU H=>⟨v,vs,rfl,h U H,t U H⟩⟩
theorem aF7{a:Addr}{l:List D}{us:List ze}{n:Nat}{sl:Array (Option ze)}(hl:K.lookup a=some ⟨.type "tuple",none,.seq us.toArray n,sl⟩)(hz:Nat.ble us.length 100=true)(h:CRL K mg l us):CR K mg (.tup l) (.ref a):=by
 obtain⟨vs,rs,t⟩:=h
 refine⟨.ref a,rfl,λU H=>?_⟩
 unfold j9
 refine⟨a,vs,rfl,.inr ⟨_,us.toArray,n,hl,rfl,rfl,?_,rs⟩,t U H⟩
 rw[zr]
 exact zv (Xg hz) (by decide)
end
structure dI8(K:zk)(mg:Str->Option ze)(x:Str)(d:D):Prop where
 ex:∃u,mg x=some u/\CR K mg d u
section
variable{X:Cx}{Z:XC}{pos:Pos}{x:Str}{d:D}
theorem fA2(hc:dI8 X.K X.mg x d)(hg:Gl X x)(hdb:(x==("__debug__" :Str))=false):DE X Z (.Name x pos) (cE d):=⟨by
 intro pins s O H Q I hE0
 refine hE0.elim λX9 U G sr hr p=>?_
 obtain⟨u,hm,v,ru,rv⟩:=hc.ex
 exact cO1 I hg hm ⟨v,H,I,ru,g8.ok p hr v (rv U H)⟩ hdb⟩
end
def cZ6:D->M Unit:=λx=>match x with
 | .str _=>pure ()
 |_=>M.stuck
section
variable{X:Cx}{Z:XC}{o e:Expr}{es:List Expr}{fo:Fe}{fs:DSt->M (List D)}{name:Str}{id:String}{mm:D->List D->M D}{apos cpos:Pos}
theorem cZ5{α:Type}{c:Wc}{U:List Addr}{H:Hp}{G:DH}{d:D}{v:V}{f:Unit->M α}{K:α->List Addr->DH->Hp->Prop}(r:j9 c U H d v)(p:g8 c Z U H ((cZ6 d >>= f) G) K):tyV c.K "str" v H/\g8 c Z U H (f () G) K:=by
 rcases d with _|_|_|x|_|_|_|_<;>try (exact p.elim;done)
 ·rw[bB8 r];exact⟨rfl,p⟩
end
section
variable{X:Cx}{Z:XC}
end
end DL
namespace W
open PySem PySem.Spec L2 DL
open PyProof.Rows hiding St
section
variable{G:DH}{O:DSt}{Q:DPP}
end
end W
namespace DL
open PySem PySem.Spec L2
open PyProof.Rows hiding St
section
variable{X:Cx}{Z:XC}{c:Wc}{U:List Addr}{H:Hp}
variable{e t:Expr}{lo hi:Option Expr}{fa:Fe}{fl fh ft:Fo}{p2 pos:Pos}
end
end DL
namespace W
open PySem PySem.Spec L2 DL
open PyProof.Rows hiding St
section
variable{G:DH}{O:DSt}{Q:DPP}
end
end W
namespace DL
open PySem PySem.Spec L2
open PyProof.Rows hiding St
section
variable{X:Cx}{Z:XC}{a b c:Expr}{fa fb fc:Fe}{pos p:Pos}{x:Str}
theorem dN4{F:List D->M D}(hF:∃k kk,b8 F 0 x X.prog X.w X.K X.mg X.base k/\aG6 kk X.A/\k<=kk)(hg:Gl X x)(hdb:(x==("__debug__" :Str))=false):
 DE X Z (.Call (.Name x p) [] [] pos) (q15 (fnX 0 F) q14):=by
 obtain⟨k,kk,hF,hr,hk⟩:=hF
 obtain⟨f,fd,ps,h1,h2,h3,h4⟩:=hF.ex
 exact DE.of (dW8 h1 (hr.mono hk) hg h2 h3 h4 .nil eQ8 hdb) λO H Q hE0=>hE0.elim λX9 U G s h p=>by
  obtain⟨hl,p2⟩:=cU1 (show g8 (wc X) Z U H (fnX 0 F [] G) _ from p)
  exact⟨rfl, [],U,G,rfl,h,p2⟩
end
section
variable{X:Cx}{Z:XC}{pos:Pos}
end
end DL
namespace W
open PySem PySem.Spec L2 DL
open PyProof.Rows hiding St
end W
namespace DL
open PySem PySem.Spec L2
open PyProof.Rows hiding St
section
variable{X:Cx}{Z:XC}{o e:Expr}{es:List Expr}{fo:Fe}{fs:DSt->M (List D)}{name:Str}{id:String}{mm:D->List D->M D}{apos cpos:Pos}
end
section
variable{X:Cx}{Z:XC}{a b e:Expr}{fa fb:Fe}{pos:Pos}
end
def aX5(G:DH)(x:D):List D->Option Bool
 |[]=>some false
 |d::t=>match eqN 40 G d x,aX5 G x t with
   |some a,some b=>some (a||b)
   |_,_=>none
theorem eL4{G:DH}{x d:D}{t:List D}:aX5 G x (d::t)=match eqN 40 G d x,aX5 G x t with
 |some a,some b=>some (a||b)
 |_,_=>none:=rfl
def cR1(x y:D)(G:DH):Option Bool:=match y with
 | .tup l=>aX5 G x l
 | .ref r=>match G[r]? with
   |some (.lst l)=>aX5 G x l
   |some (.rol l)=>aX5 G x l
   |_=>none
 |_=>none
def inX:D->D->M D:=λx y G=>match cR1 x y G with
 |some b=>some (.ok (.bl b),G)
 |none=>none
section
variable{X:Cx}{Z:XC}{U:List Addr}{H:Hp}{G:DH}
theorem dM6{pins:PNS}{O:St}{s:zm}{x:V}{v:ze}{dx:D}(hu:X.A.units+64<yq)(I:Inv X pins O H s)(hr:J8 (wc X) U G H)(rdx:j9 (wc X) U H dx x)(rx:M3 x v):
 ∀ {l:List D} {vs:List V} {us:List ze} {b:Bool},J0 (wc X) U H l vs->J7 vs us->aX5 G dx l=some b->
  (∀u∈us,∃c,jG X.A.in1 s u v c)/\(b=true->∃u∈us,jG X.A.in1 s u v true)/\(b=false->∀u∈us,jG X.A.in1 s u v false):=by
 intro l
 induction l with
 |nil=>
   intro vs us b rl rv e
   cases rl
   cases rv
   cases e
   exact⟨λu hu=>(by cases hu),λz=>absurd z jc,λ_ u hu=>(by cases hu)⟩
 |cons d t ih=>
   intro vs us b rl rv e
   obtain⟨w,tv,rfl,q,rt⟩:=rl
   cases rv with
   |cons r1 rs=>
   rename_i u us1
   rw[eL4]at e
   rcases e1:eqN 40 G d dx with _|a
   ·rw[e1]at e;cases e
   ·
     rcases e2:aX5 G dx t with _|b2
     ·rw[e1,e2]at e;cases e
     ·
       rw[e1,e2]at e
       cases e
       have h1:=(bX1 I hr 40 X.A.in1 (by show X.A.units+1+40<yq;lia) q rdx r1 rx e1).2.2
       obtain⟨k1,k2,k3⟩:=ih rt rs e2
       refine⟨λu' hu'=>?_,λz=>?_,λz u' hu'=>?_⟩
       · rcases zi.mp hu' with rfl|hu'
         ·exact⟨a,h1⟩
         ·exact k1 u' hu'
       · rcases a with _|_
         ·
           obtain⟨u',h3,h4⟩:=k2 z
           exact⟨u',zf _ h3,h4⟩
         ·exact⟨u,zc,h1⟩
       · rcases a with _|_
         ·
           rcases zi.mp hu' with rfl|hu'
           ·exact h1
           ·exact k3 z u' hu'
         ·cases z
open Classical in
theorem cT6{pins:PNS}{O:St}{s:zm}{x:V}{v:ze}{dx:D}(hu:X.A.units+64<yq)(I:Inv X pins O H s)(hr:J8 (wc X) U G H)(rdx:j9 (wc X) U H dx x)(rx:M3 x v)
 {l:List D} {vs:List V} {us:List ze} {b:Bool} (rl:J0 (wc X) U H l vs) (rv:J7 vs us) (e:aX5 G dx l=some b):
  ∃f:ze->Bool,(∀u∈us,jG X.A.in1 s u v (f u))/\us.any f=b:=by
 obtain⟨k1,k2,k3⟩:=dM6 hu I hr rdx rx rl rv e
 rcases b with _|_
 ·exact⟨λ_=>false,λu hu=>k3 rfl u hu,by simp⟩
 ·
   refine⟨λu=>decide (jG X.A.in1 s u v true),λu hu=>?_,?_⟩
   · dsimp only
     by_cases c:jG X.A.in1 s u v true
     ·rw[decide_eq_true c];exact c
     · rw[decide_eq_false c]
       obtain⟨c',hc⟩:=k1 u hu
       rcases c' with _|_
       ·exact hc
       ·exact absurd hc c
   · obtain⟨u,hu,h⟩:=k2 rfl
     exact ZO.mpr ⟨u,hu,decide_eq_true h⟩
theorem fK1(hu:X.A.units+64<yq){pins:PNS}{O:St}{s:zm}{x y:V}{v u:ze}{dx dy:D}{b:Bool}{Q:VK}(I:Inv X pins O H s)(hr:J8 (wc X) U G H)(rdx:j9 (wc X) U H dx x)(rdy:j9 (wc X) U H dy y)(rx:M3 x v)(ry:M3 y u)
 (e:cR1 dx dy G=some b):
 (Q (.bl b) H->zy (zH X.prog X.w) X.A (zL .In v u) (EP X pins O Q) X.xe s)/\(Q (.bl (!b)) H->zy (zH X.prog X.w) X.A (zL .NotIn v u) (EP X pins O Q) X.xe s):=by
 have seq:∀(p:Addr) (l:List D) (vs:List V),y= .ref p->(SqL X.K H p vs\/SqT X.K H p vs)->J0 (wc X) U H l vs->aX5 G dx l=some b->
  (Q (.bl b) H->zy (zH X.prog X.w) X.A (zL .In v u) (EP X pins O Q) X.xe s)/\(Q (.bl (!b)) H->zy (zH X.prog X.w) X.A (zL .NotIn v u) (EP X pins O Q) X.xe s):=by
  intro p l vs hy hq rl e
  subst hy
  cases ry
  rcases hq with hq|hq
  · obtain⟨its,r,pl,hz⟩:=I.list hq
    obtain⟨f,h1,h2⟩:=cT6 hu I hr rdx rx rl r e
    have h3:its.toArray.any f=b:=by rw[<-h2];simp
    exact⟨λq=>XS f pl.isList (λw hw=>h1 w (by simpa using hw)) ⟨.bl _,H,I,rfl,by rw[h3];exact q⟩,λq=>Xm f pl.isList (λw hw=>h1 w (by simpa using hw)) ⟨.bl _,H,I,rfl,by rw[h3];exact q⟩⟩
  · obtain⟨its,r,pl,hz⟩:=I.tuple hq
    obtain⟨f,h1,h2⟩:=cT6 hu I hr rdx rx rl r e
    have h3:its.toArray.any f=b:=by rw[<-h2];simp
    exact⟨λq=>XG f pl (λw hw=>h1 w (by simpa using hw)) ⟨.bl _,H,I,rfl,by rw[h3];exact q⟩,λq=>Xd f pl (λw hw=>h1 w (by simpa using hw)) ⟨.bl _,H,I,rfl,by rw[h3];exact q⟩⟩
 rcases dy with _|_|_|_|l|i|_|_<;>try (cases e;done)
 ·
   unfold j9 at rdy
   obtain⟨a,vs,hy,q,rl⟩:=rdy
   exact seq a l vs hy (.inr q) rl e
 ·
   unfold j9 at rdy
   obtain⟨a,m,hy⟩:=rdy
   rcases g:G[i]? with _|o
   ·unfold cR1 at e;simp only[g]at e;cases e
   ·
     have ro:=hr.obj i o a g m
     rcases o with l|l|_|_<;>try (unfold cR1 at e;simp only[g]at e;cases e;done)
     ·
       obtain⟨vs,q,rl⟩:=ro
       unfold cR1 at e;simp only[g]at e
       exact seq a l vs hy (.inl (SqL.of q)) rl e
     ·
       obtain⟨vs,q,rl⟩:=ro
       unfold cR1 at e;simp only[g]at e
       exact seq a l vs hy (.inl q.sq) rl e
theorem fG2(hu:X.A.units+64<yq):OpD X Z (zL .In) inX:=⟨by
 intro pins s O H x y v u Q I rx ry hE0
 refine hE0.elim λdx dy U G rdx rdy hr p=>?_
 unfold inX at p
 rcases e:cR1 dx dy G with _|b
 ·rw[e]at p;exact p.elim
 ·rw[e]at p;exact(fK1 hu I hr rdx rdy rx ry e).1 (g8.ok p hr _ ofB)⟩
end
section
variable{X:Cx}{Z:XC}
end
end DL
namespace W
open PySem PySem.Spec L2 DL
open PyProof.Rows hiding St
end W
namespace DL
open PySem PySem.Spec L2
open PyProof.Rows hiding St
section
variable{prog:zE}{w:zP}{A:zK}{E:VSP}{s:zm}{j t:Addr}{k:Nat}{ys:Array ze}
end
section
variable{X:Cx}{Z:XC}
end
end DL
namespace W
open PySem PySem.Spec L2 DL
open PyProof.Rows hiding St
end W
namespace DL
open PySem PySem.Spec L2
open PyProof.Rows hiding St
theorem fR1{α:Type}{m m':M α}{G G':DH}{Q:α->DH->Prop}(e:m G=m' G')(w:Wp m' G' Q):Wp m G Q:=by
 unfold Wp at w ⊢;rw[e];exact w
theorem d9{α:Type}{m:M α}{a:α}{G G':DH}{Q:α->DH->Prop}(e:m G=some (.ok a,G'))(q:Q a G'):Wp m G Q:=⟨a,G',e,q⟩
noncomputable def PB(Q:DPP):Fl->DH->Prop
 | .nx _,G=>Q .non G
 | .rt d,G=>Q d G
 |_,_=>False
section
variable{m:Nat}{f S g:Fs}{ds as:List D}{d:D}{G G':DH}{Q:DPP}{P A:Fl->DH->Prop}{O X1:DSt}{F:List D->M D}{e:Fe}
theorem T4(w:Wp (f (ds.map some++jb (m-ds.length) none)) G (PB Q)):Wp (K4 m f ds) G Q:=
 aK3.mpr (w.mono λfl G1 h=>match fl,h with
  | .nx _,h=>h
  | .rt _,h=>h
  | .bk _,h=>h.elim
  | .ct _,h=>h.elim)
theorem R6(q:Q d G):PB Q (.rt d) G:=q
theorem eO2(e:f (ds.map some++jb (m-ds.length) none) G=some (.ok (.rt d),G'))(q:Q d G'):Wp (K4 m f ds) G Q:=T4 (d9 e q)
theorem eG8(e:f (ds.map some++jb (m-ds.length) none) G=g O G')(w:Wp (g O) G' (PB Q)):Wp (K4 m f ds) G Q:=T4 (fR1 e w)
theorem dQ5(C:Fs->Fs)(g:Fs)(O:DSt)(h:f=C g)(e:∀g,C g (ds.map some++jb (m-ds.length) none) G=g O G')(w:Wp (g O) G' (PB Q)):Wp (K4 m f ds) G Q:=by
 subst h;exact eG8 (e g) w
theorem K9(e:S O G=some (.ok (.nx X1),G'))(w:Wp (g X1) G' P):Wp (j0 S g O) G P:=m9.mpr (d9 e w)
theorem dV4(e:S O G=some (.ok (.rt d),G'))(q:P (.rt d) G'):Wp (j0 S g O) G P:=m9.mpr (d9 e q)
end
section
variable{α:Type}{m n:Nat}{f g:Fs}{a b c:Fe}{t:DSt->M Bool}{fs:DSt->M (List D)}{as:List D}{d x y z:D}{k:Bool}{G G1 G2:DH}{Q:DPP}{P:Fl->DH->Prop}{R:List D->DH->Prop}{B:Bool->DH->Prop}{O:DSt}{F:List D->M D}{o:D->D->M D}
theorem eE3(e:t O G=some (.ok true,G1))(w:Wp (f O) G1 P):Wp (ifS t f g O) G P:=bX4.mpr (d9 e w)
theorem eZ3(e:t O G=some (.ok false,G1))(w:Wp (g O) G1 P):Wp (ifS t f g O) G P:=bX4.mpr (d9 e w)
theorem aH1(w:Wp (t O) G λk G1=>(k=true->Wp (f O) G1 P)/\(k=false->Wp (g O) G1 P)):Wp (ifS t f g O) G P:=
 bX4.mpr (w.mono λk G1 h=>by cases k with|true=>exact h.1 rfl|false=>exact h.2 rfl)
theorem cG3{u:DSt->M Bool}(w:Wp (t O) G λk G1=>(k=true->Wp (u O) G1 B)/\(k=false->B false G1)):Wp (aB3 t u O) G B:=
 bV0.mpr (w.mono λk G1 h=>by cases k with|true=>exact h.1 rfl|false=>exact h.2 rfl)
theorem fL1{u:DSt->M Bool}(w:Wp (t O) G λk G1=>(k=true->B true G1)/\(k=false->Wp (u O) G1 B)):Wp (orT t u O) G B:=
 cY9.mpr (w.mono λk G1 h=>by cases k with|true=>exact h.1 rfl|false=>exact h.2 rfl)
theorem cN1{i:Nat}{S:DSt->Prop}{R:DPP}(hS:S (O.set i (some d)))(w:Wp (a (O.set i (some d))) G R):Wp (q16 i d O) G λW1 G1=>G1=G/\S W1/\Wp (aA2 W1) G λb G2=>b=true/\G2=G/\Wp (a W1) G R:=
 Q5.mpr ⟨rfl,hS,W.wp_trueT.mpr ⟨rfl,rfl,w⟩⟩
theorem cV3{g:Fg}{caps:List (Option Nat)}{l:List D}(e:b O G=some (.ok (.tup l),G1))(h:l.length<=10000)(w:Wp (Q8 g t a (λ_=>true) l (Z6 caps O)) G1 λys G2=>Q (.ref G2.length) (G2++[.lst ys])):Wp (Q0 (itW b) caps g t a O) G Q:=
 W.wp_comp.mpr (W.wp_itW.mpr (d9 e (W.srcW_tup.mpr ⟨zv h (show 10000<=zh by decide),w⟩)))
theorem bW7{A:Fl->DH->Prop}(w:Wp (t O) G λk G1=>(k=true->Wp (f O) G1 A)/\(k=false->Wp (g O) G1 A))(k:∀fl G1,A fl G1->P fl G1):Wp (ifS t f g O) G P:=(aH1 w).mono k
theorem fY9(e:t O G=some (.ok true,G1))(w:Wp (a O) G1 Q):Wp (ifE t a b O) G Q:=dC3.mpr (d9 e w)
theorem eU8(e:t O G=some (.ok false,G1))(w:Wp (b O) G1 Q):Wp (ifE t a b O) G Q:=dC3.mpr (d9 e w)
theorem S7{i:Nat}(w:Wp (a O) G λd G1=>P (.nx (O.set i (some d))) G1):Wp (K3 a (q16 i) O) G P:=aW6.mpr (w.mono λ_ _ h=>Q5.mpr h)
theorem U5(w:Wp (a O) G λd G1=>P (.rt d) G1):Wp (t8 a O) G P:=aR5.mpr w
theorem v9(e:fs O G=some (.ok as,G1))(h:as.length=n)(w:Wp (F as) G1 Q):Wp (q15 (fnX n F) fs O) G Q:=aA6.mpr (d9 e (aL2.mpr ⟨h,w⟩))
theorem aI3(e:fs O G=some (.ok as,G1))(w:Wp (F as) G1 Q):Wp (q15 F fs O) G Q:=aA6.mpr (d9 e w)
theorem aF5(w:Wp (fs O) G λas G1=>Wp (F as) G1 Q):Wp (q15 F fs O) G Q:=aA6.mpr w
theorem Z0(ea:a O G=some (.ok x,G1))(eb:b O G1=some (.ok y,G2))(w:Wp (o x y) G2 Q):Wp (d7 o a b O) G Q:=bO2.mpr (d9 ea (d9 eb w))
theorem w6(w:Wp (a O) G λx G1=>Wp (b O) G1 λy G2=>Wp (o x y) G2 Q):Wp (d7 o a b O) G Q:=bO2.mpr w
theorem J6(e:a O G=some (.ok x,G1))(w:Wp (fs O) G1 λxs G2=>R (x::xs) G2):Wp (q13 a fs O) G R:=aA8.mpr (d9 e w)
theorem v8(w:Wp (a O) G λx G1=>Wp (fs O) G1 λxs G2=>R (x::xs) G2):Wp (q13 a fs O) G R:=aA8.mpr w
theorem R7(w:Wp (a O) G λx G1=>∃k,x= .bl k/\B k G1):Wp (o8 a O) G B:=cL2.mpr w
end
def FH(K:zk)(x:Str)(st:Stmt):Prop:=∃(f:Addr) (od an:Option Addr) (sl:Array (Option ze)) (oc kV dc pm cd ct:ze),yU K ji x=some (some (.ref f))/\
 K.lookup f=some ⟨oc,od,.func (jD x x (aD8 st) (aA4 st) (m7 st) .none kV dc pm an cd ct),sl⟩/\xt K cd x=true/\jV K (.ref f)=true
section
variable{K:zk}{h:Heap}{mg:Str->Option ze}{x:Str}{st:Stmt}
theorem FH.of{f:Addr}{od an:Option Addr}{sl:Array (Option ze)}{oc kV dc pm cd ct:ze}(a:yU K ji x=some (some (.ref f)))
 (l:K.lookup f=some ⟨oc,od,.func (jD x x (aD8 st) (aA4 st) (m7 st) .none kV dc pm an cd ct),sl⟩) (e:xt K cd x=true) (k:jV K (.ref f)=true):FH K x st:=
 ⟨f,od,an,sl,oc,kV,dc,pm,cd,ct,a,l,e,k⟩
variable{ps:List Str}{p1 p2 p3 p4 p5 p6:Str}
theorem FH.ff(H:FH K x st)(X:K.In h)(G:h.Ns ji mg)(b:∀(kV doc pm:ze) (an:Option Addr) (cdv ct:ze) (us:List ze),us.length=ps.length->bindArgs (jD x x (aD8 st) (aA4 st) (m7 st) .none kV doc pm an cdv ct) ⟨us, []⟩=pure (ps.zip us)):∃f fd,FF K mg x st ps f fd:=by
 obtain⟨f,od,an,sl,oc,kV,dc,pm,cd,ct,a,l,e,k⟩:=H
 exact⟨_,_,cK7 l e k,(cK7 l e k).binds b,xb X G a⟩
theorem aZ3{α:Type}{us:List α}{n:Nat}(h:us.length=n+1):∃a t,us=a::t/\t.length=n:=by
 rcases us with _|⟨a,t⟩
 ·cases h
 ·exact⟨a,t,rfl,Yp h⟩
theorem FH.ff0(H:FH K x st)(X:K.In h)(G:h.Ns ji mg)(b:∀kV doc pm an cdv ct,bindArgs (jD x x (aD8 st) (aA4 st) (m7 st) .none kV doc pm an cdv ct) ⟨[], []⟩=pure []):∃f fd,FF K mg x st [] f fd:=
 H.ff X G λkV doc pm an cdv ct us hl=>by cases ya hl;exact b _ _ _ _ _ _
theorem FH.ff1(H:FH K x st)(X:K.In h)(G:h.Ns ji mg)(b:∀kV doc pm an cdv ct v1,bindArgs (jD x x (aD8 st) (aA4 st) (m7 st) .none kV doc pm an cdv ct) ⟨[v1], []⟩=pure [(p1,v1)]):∃f fd,FF K mg x st [p1] f fd:=
 H.ff X G λkV doc pm an cdv ct us h0=>by
  obtain⟨v1,w1,rfl,h1⟩:=aZ3 h0
  cases ya h1
  exact b _ _ _ _ _ _ _
theorem FH.ff2(H:FH K x st)(X:K.In h)(G:h.Ns ji mg)(b:∀kV doc pm an cdv ct v1 v2,bindArgs (jD x x (aD8 st) (aA4 st) (m7 st) .none kV doc pm an cdv ct) ⟨[v1,v2], []⟩=pure [(p1,v1),(p2,v2)]):∃f fd,FF K mg x st [p1,p2] f fd:=
 H.ff X G λkV doc pm an cdv ct us h0=>by
  obtain⟨v1,w1,rfl,h1⟩:=aZ3 h0
  obtain⟨v2,w2,rfl,h2⟩:=aZ3 h1
  cases ya h2
  exact b _ _ _ _ _ _ _ _
theorem FH.ff3(H:FH K x st)(X:K.In h)(G:h.Ns ji mg)(b:∀kV doc pm an cdv ct v1 v2 v3,bindArgs (jD x x (aD8 st) (aA4 st) (m7 st) .none kV doc pm an cdv ct) ⟨[v1,v2,v3], []⟩=pure [(p1,v1),(p2,v2),(p3,v3)]):∃f fd,FF K mg x st [p1,p2,p3] f fd:=
 H.ff X G λkV doc pm an cdv ct us h0=>by
  obtain⟨v1,w1,rfl,h1⟩:=aZ3 h0
  obtain⟨v2,w2,rfl,h2⟩:=aZ3 h1
  obtain⟨v3,w3,rfl,h3⟩:=aZ3 h2
  cases ya h3
  exact b _ _ _ _ _ _ _ _ _
theorem FH.ff5(H:FH K x st)(X:K.In h)(G:h.Ns ji mg)(b:∀kV doc pm an cdv ct v1 v2 v3 v4 v5,bindArgs (jD x x (aD8 st) (aA4 st) (m7 st) .none kV doc pm an cdv ct) ⟨[v1,v2,v3,v4,v5], []⟩=pure [(p1,v1),(p2,v2),(p3,v3),(p4,v4),(p5,v5)]):∃f fd,FF K mg x st [p1,p2,p3,p4,p5] f fd:=
 H.ff X G λkV doc pm an cdv ct us h0=>by
  obtain⟨v1,w1,rfl,h1⟩:=aZ3 h0
  obtain⟨v2,w2,rfl,h2⟩:=aZ3 h1
  obtain⟨v3,w3,rfl,h3⟩:=aZ3 h2
  obtain⟨v4,w4,rfl,h4⟩:=aZ3 h3
  obtain⟨v5,w5,rfl,h5⟩:=aZ3 h4
  cases ya h5
  exact b _ _ _ _ _ _ _ _ _ _ _
theorem BLs.of(X:K.In h)(G:h.Ns ji mg)(z:∀b∈bltL,yU K ji b=some none):BLs mg:=⟨λb hb=>PySem.W.mg_none_of X G (z b hb)⟩
end
theorem dK6:typeLookup (.type "zip") "__len__" =pure none:=by rw[JJ,XM];kernel_rfl
theorem cZ2:typeLookup (.type "zip") "__length_hint__" =pure none:=by rw[JJ,XM];kernel_rfl
noncomputable abbrev aN4(h:Heap)(z TI TO:Addr)(f0:ze)(b:Bool):Prop:=
 h.get? z=some {cls:=.type "zip",dict:=none,data:=.fields #[f0,.bool b,.bool false,.ref TI,.ref TO],slots:= #[]}
section
variable{prog:zE}{w:zP}{A:zK}{E:VSP}{s:zm}{k1 k2:Bool}{i:Nat}{z TI TO i1 i2 l1 l2 T:Addr}{xs ys:Array ze}{b:Bool}
theorem cU4{a:Addr}{Q:Option Obj->zm->Prop}(h:Q (s.heap.get? a) s):zy (zH prog w) A (loadIfAlive a) Q E s:=by
 intro Γ p _
 show Sem.wp _ _ (Sem.loadIfAlive a .pure) _ _ _ _
 rw[Sem.wp_loadIfAlive]
 exact h
theorem cS4{Q:Bool->zm->Prop}(hz:aN4 s.heap z TI TO (yH T) b)(hT:∃o,s.heap.get? T=some o)
 (hQ:∀h',aN4 h' z TI TO (yH T) true->yJ z s.heap h'->Q false {s with heap:=h'}):zy (zH prog w) A (ja (.ref z)) Q E s:=by
 obtain⟨o,ho⟩:=hT
 unfold ja
 refine za (jj hz rfl (x:=yH T) rfl ?_)
 show zy _ _ (loadIfAlive (Int.toNat (T:Int)) >>= _) _ _ _
 refine za (cU4 ?_)
 rw[xa,ho]
 show zy _ _ (field (.ref z) 1 >>= _) _ _ _
 refine za (jj hz rfl (x:=.bool b) rfl ?_)
 cases b with
 |true=>exact zt (hQ s.heap hz ⟨rfl,λ_ _=>rfl⟩)
 |false=>
   show zy _ _ (setField (.ref z) 1 (.bool true) >>= _) _ _ _
   refine za (ym hz (by simp) λg hg hs=>zt (hQ g hg hs))
theorem dL7{x y:ze}{Q:VSP}(Ap:ZA z TI TO i1 i2)(n1:l1∉ [z,TO,i1,i2])(n2:l2∉ [z,TO,i1,i2])
 (hz:aN4 s.heap z TI TO (yH T) b) (hT:∃o,s.heap.get? T=some o) (hTI:jE s.heap TI (.ref i1) (.ref i2))
 (h1:SI k1 s.heap i1 l1 i) (h2:SI k2 s.heap i2 l2 i) (hl1:SC k1 s.heap l1 xs) (hl2:SC k2 s.heap l2 ys) (hx:xs[i]? =some x) (hy:ys[i]? =some y)
 (hQ:∀h',aN4 h' z TI TO (yH T) true->SI k1 h' i1 l1 (i+1)->SI k2 h' i2 l2 (i+1)->jE h' s.heap.objs.size x y->h'.objs.size=s.heap.objs.size+1->
   (∀c o,c≠z->c≠i1->c≠i2->s.heap.get? c=some o->h'.get? c=some o)->Q (.ref s.heap.objs.size) {s with heap:=h'}):
 zy (zH prog w) A (Builtin.«zip.__next__» ⟨[.ref z], []⟩) (λfin s'=>∃v,fin= .done (.ret v)/\Q v s') E s:=by
 simp only[zi,zu,or_false,not_or]at n1 n2
 show zy _ _ (field (.ref z) 2 >>= _) _ _ _
 refine za (jj hz rfl (x:=.bool false) rfl ?_)
 show zy _ _ (field (.ref z) 3 >>= _) _ _ _
 refine za (jj hz rfl (x:=.ref TI) rfl ?_)
 refine za (jS hTI rfl ?_)
 show zy _ _ (ja (.ref z) >>= _) _ _ _
 refine za (cS4 hz hT λg₁ WP WY=>?_)
 simp only[jf,if_false,<-Xt,xp,Zh]
 refine za (za (za (jK ?_)))
 show zy _ _ (zM (.ref i1) >>= _) _ _ _
 refine za (aG4 (h1.keep λo e=>WY.extBut _ _ Ap.i1z e) (hl1.keep λo e=>WY.extBut _ _ n1.1 e) hx λWK h1₂ WX=>zt (zt ?_))
 have up2:∀c o,c≠z->c≠i1->s.heap.get? c=some o->WK.get? c=some o:=λc o c1 c2 e=>WX.extBut _ _ c2 (WY.extBut _ _ c1 e)
 refine za (za (jK ?_))
 show zy _ _ (zM (.ref i2) >>= _) _ _ _
 refine za (aG4 (h2.keep λo e=>up2 _ _ Ap.i2z Ap.i12.symm e) (hl2.keep λo e=>up2 _ _ n2.1 n2.2.2.1 e) hy λWN h2₃ WW=>zt (zt (zt ?_)))
 have hsz:WN.objs.size=s.heap.objs.size:=by rw[WW.1,WX.1,WY.1]
 show zy _ _ (newTuple [x,y] >>= _) _ _ _
 refine za (wpAny_newTuple ?_)
 refine zt ⟨_,rfl,?_⟩
 have hz₃:aN4 WN z TI TO (yH T) true:=WW.extBut _ _ Ap.i2z.symm (WX.extBut _ _ Ap.i1z.symm WP)
 have hT₃:jE (WN.push {cls:=.type "tuple",data:=.seq #[x,y]}) s.heap.objs.size x y:=by rw[<-hsz];exact zC _ rfl
 show Q (.ref WN.objs.size) _
 rw[hsz]
 exact hQ _ (zj _ hz₃) ((h1₂.keep λo e=>WW.extBut _ _ Ap.i12 e).keep λo e=>zj _ e) (h2₃.keep λo e=>zj _ e) hT₃ (by rw[jX,hsz])
  λc o c1 c2 c3 e=>zj _ (WW.extBut _ _ c3 (up2 c o c1 c2 e))
theorem dQ9{Q:Fin->zm->Prop}(hh:A.handled=none)(Ap:ZA z TI TO i1 i2)(n1:l1∉ [z,TO,i1,i2])(n2:l2∉ [z,TO,i1,i2])
 (hz:aN4 s.heap z TI TO (yH T) b) (hT:∃o,s.heap.get? T=some o) (hTI:jE s.heap TI (.ref i1) (.ref i2))
 (h1:SI k1 s.heap i1 l1 i) (h2:SI k2 s.heap i2 l2 i) (hl1:SC k1 s.heap l1 xs) (hl2:SC k2 s.heap l2 ys) (hend:xs[i]? =none\/ys[i]? =none)
 (hE:∀h' e,(∀c o,c≠z->c≠i1->c≠i2->s.heap.get? c=some o->h'.get? c=some o)->(∃o,h'.get? e=some o/\o.cls= .type "StopIteration")->E (.ref e) {s with heap:=h'}):
 zy (zH prog w) A (Builtin.«zip.__next__» ⟨[.ref z], []⟩) Q E s:=by
 simp only[zi,zu,or_false,not_or]at n1 n2
 show zy _ _ (field (.ref z) 2 >>= _) _ _ _
 refine za (jj hz rfl (x:=.bool false) rfl ?_)
 show zy _ _ (field (.ref z) 3 >>= _) _ _ _
 refine za (jj hz rfl (x:=.ref TI) rfl ?_)
 refine za (jS hTI rfl ?_)
 show zy _ _ (ja (.ref z) >>= _) _ _ _
 refine za (cS4 hz hT λg₁ WP WY=>?_)
 simp only[jf,if_false,<-Xt,xp,Zh]
 refine za (za (za (jK ?_)))
 show zy _ _ (zM (.ref i1) >>= _) _ _ _
 cases hx:xs[i]? with
 |none=>
   exact za (aV9 hh (h1.keep λo e=>WY.extBut _ _ Ap.i1z e) (hl1.keep λo e=>WY.extBut _ _ n1.1 e) hx λWK e WX he=>hE WK e (λc o c1 c2 _ q=>WX _ _ c2 (WY.extBut _ _ c1 q)) he)
 |some x=>
   have hy:ys[i]? =none:=by
    rcases hend with h|h
    ·rw[hx]at h;cases h
    ·exact h
   refine za (aG4 (h1.keep λo e=>WY.extBut _ _ Ap.i1z e) (hl1.keep λo e=>WY.extBut _ _ n1.1 e) hx λWK h1₂ WX=>zt (zt ?_))
   have up2:∀c o,c≠z->c≠i1->s.heap.get? c=some o->WK.get? c=some o:=λc o c1 c2 e=>WX.extBut _ _ c2 (WY.extBut _ _ c1 e)
   refine za (za (jK ?_))
   show zy _ _ (zM (.ref i2) >>= _) _ _ _
   exact za (aV9 hh (h2.keep λo e=>up2 _ _ Ap.i2z Ap.i12.symm e) (hl2.keep λo e=>up2 _ _ n2.1 n2.2.2.1 e) hy λWN e WW he=>hE WN e (λc o c1 c2 c3 q=>WW _ _ c3 (up2 c o c1 c2 q)) he)
theorem bN7{x y:ze}{Q:Option ze->zm->Prop}(Ap:ZA z TI TO i1 i2)(n1:l1∉ [z,TO,i1,i2])(n2:l2∉ [z,TO,i1,i2])
 (hz:aN4 s.heap z TI TO (yH T) b) (hT:∃o,s.heap.get? T=some o) (hTI:jE s.heap TI (.ref i1) (.ref i2))
 (h1:SI k1 s.heap i1 l1 i) (h2:SI k2 s.heap i2 l2 i) (hl1:SC k1 s.heap l1 xs) (hl2:SC k2 s.heap l2 ys) (hx:xs[i]? =some x) (hy:ys[i]? =some y)
 (hQ:∀h',aN4 h' z TI TO (yH T) true->SI k1 h' i1 l1 (i+1)->SI k2 h' i2 l2 (i+1)->jE h' s.heap.objs.size x y->h'.objs.size=s.heap.objs.size+1->
   (∀c o,c≠z->c≠i1->c≠i2->s.heap.get? c=some o->h'.get? c=some o)->Q (some (.ref s.heap.objs.size)) {s with heap:=h'}):
 zy (zH prog w) A (pyNext (.ref z)) Q E s:=by
 have hY:s.TypeIs (.ref z) "zip":=⟨_,hz,rfl⟩
 unfold pyNext
 exact za (ZI (js (name:=jz "__next__") hY yo (jH yo hY xV
  (dL7 Ap n1 n2 hz hT hTI h1 h2 hl1 hl2 hx hy λh' a1 a3 a4 a5 a6 a7=>zt (hQ h' a1 a3 a4 a5 a6 a7)) (xO _))))
theorem bU0{Q:Option ze->zm->Prop}(hh:A.handled=none)(Ap:ZA z TI TO i1 i2)(n1:l1∉ [z,TO,i1,i2])(n2:l2∉ [z,TO,i1,i2])
 (hz:aN4 s.heap z TI TO (yH T) b) (hT:∃o,s.heap.get? T=some o) (hTI:jE s.heap TI (.ref i1) (.ref i2))
 (h1:SI k1 s.heap i1 l1 i) (h2:SI k2 s.heap i2 l2 i) (hl1:SC k1 s.heap l1 xs) (hl2:SC k2 s.heap l2 ys) (hend:xs[i]? =none\/ys[i]? =none)
 (hQ:∀h',(∀c o,c≠z->c≠i1->c≠i2->s.heap.get? c=some o->h'.get? c=some o)->Q none {s with heap:=h'}):zy (zH prog w) A (pyNext (.ref z)) Q E s:=by
 have hY:s.TypeIs (.ref z) "zip":=⟨_,hz,rfl⟩
 unfold pyNext
 refine za (ZI (js (name:=jz "__next__") hY yo (jH yo hY xV
  (dQ9 hh Ap n1 n2 hz hT hTI h1 h2 hl1 hl2 hend λh' e hk he=>?_) (xO _))))
 obtain⟨o,ho,hc⟩:=he
 exact za (Jw (T:= "StopIteration") (b:=true) ⟨o,ho,hc⟩ isSubtype_stop (zt (hQ _ hk)))
noncomputable def aJ1(n0 m:Nat):List ze:=(jB m).map λj=>Value.ref (n0+j:Nat)
theorem cU2{n0 m:Nat}:(aJ1 n0 m).toArray.push (.ref (n0+m:Nat))= (aJ1 n0 (m+1)).toArray:=by simp[aJ1,Jd]
noncomputable def bL9(xs ys:Array ze)(n0 m:Nat)(h:Heap):Prop:=∀j,j<m->∃x y,xs[j]? =some x/\ys[j]? =some y/\jE h (n0+j:Nat) x y
structure ZSt(k1 k2:Bool)(z TI TO i1 i2 l1 l2:Addr)(xs ys:Array ze)(n0 i:Nat)(h:Heap):Prop where
 hz:(IsZip h z TI TO .none/\∃a b,jE h TO a b)\/∃T b,aN4 h z TI TO (yH ((n0+T:Nat):Int)) b/\T<i
 hTI:jE h TI (.ref i1) (.ref i2)
 h1:SI k1 h i1 l1 i
 h2:SI k2 h i2 l2 i
 c1:SC k1 h l1 xs
 c2:SC k2 h l2 ys
theorem fC3{a b:Nat}:a<=min a b\/b<=min a b:=(Nat.le_total a b).imp (λh=>yO (Zb h).symm) λh=>yO (ZU h).symm
theorem dE9{n0 m:Nat}:(aJ1 n0 m).toArray.size=m:=by rw[zr,aJ1,zo,jy]
theorem eO7{R:Result->zm->Prop}(hh:A.handled=none)(Ap:ZA z TI TO i1 i2)(n1:l1∉ [z,TO,i1,i2])(n2:l2∉ [z,TO,i1,i2])(S:Addr)(hS:S∉ [z,TI,TO,i1,i2,l1,l2])(res:ze){n0:Nat}
 (lt:∀b∈ [z,TI,TO,i1,i2,l1,l2,S], @Jg Nat instLTNat b n0) {m:Nat} (m1:m<=xs.size) (m2:m<=ys.size) (m3:xs.size<=m\/ys.size<=m) (hn:m<=zh):
 ∀(k i:Nat) (s:zm) (c:Nat),m-i=k->i<=m->ZSt k1 k2 z TI TO i1 i2 l1 l2 xs ys n0 i s.heap->
 s.heap.get? S=some {cls:=.type "list",dict:=none,data:=.seq (aJ1 n0 i).toArray c,slots:= #[]}->s.heap.objs.size=n0+i->bL9 xs ys n0 i s.heap->
 (∀h' c',(∀b o,b∉ [z,TO,i1,i2,S]->s.heap.get? b=some o->h'.get? b=some o)->h'.get? S=some {cls:=.type "list",dict:=none,data:=.seq (aJ1 n0 (m)).toArray c',slots:= #[]}->
   bL9 xs ys n0 (m) h'->R (.ok (.ret res)) {s with heap:=h'})->
 codeAny (zH prog w) A (.builtin "list.extend.loop" ⟨[.ref S,.ref z,res], []⟩) R s:=by
 simp only[zi,zu,or_false,not_or]at hS
 have neA:∀ {b:Addr} {j:Nat},b∈ [z,TI,TO,i1,i2,l1,l2,S]->(n0+j:Nat)≠b:=λhb e=>by
  have q:=lt _ hb
  rw[<-e]at q
  exact absurd q (Nat.not_lt.mpr (jx _ _))
 intro k
 induction k with
 |zero=>
   intro i s c hk hi hst hL hsz hp hR
   have hin:i=m:=Ji hi (Nat.sub_eq_zero_iff_le.mp hk)
   refine Zn XT ?_
   rw[xh xB _]
   show zy _ A.in1 (pyNext (.ref z) >>= _) _ _ s
   have hend:xs[i]? =none\/ys[i]? =none:=hin▸m3.imp YR YR
   have fin:∀h',(∀c o,c≠z->c≠TO->c≠i1->c≠i2->s.heap.get? c=some o->h'.get? c=some o)->R (.ok (.ret res)) {s with heap:=h'}:=λh' hk=>by
    rw[hin]at hL hp
    refine hR h' c (λb o hb e=>?_) (hk _ _ hS.1 hS.2.2.1 hS.2.2.2.1 hS.2.2.2.2.1 hL) λj hj=>?_
    · simp only[zi,zu,or_false,not_or]at hb
      exact hk _ _ hb.1 hb.2.1 hb.2.2.1 hb.2.2.2.1 e
    · obtain⟨x,y,e1,e2,e3⟩:=hp j hj
      exact⟨x,y,e1,e2,hk _ _ (neA (by simp)) (neA (by simp)) (neA (by simp)) (neA (by simp)) e3⟩
   rcases hst.hz with⟨hz,a,b,hTO⟩|⟨T,b,hz,hT⟩
   ·exact za (aZ9 hh Ap n1 n2 hz hst.hTI hTO hst.h1 hst.h2 hst.c1 hst.c2 hend λh' hk=>zt (fin h' hk))
   · obtain⟨x,y,_,_,e3⟩:=hp T hT
     exact za (bU0 hh Ap n1 n2 hz ⟨_,e3⟩ hst.hTI hst.h1 hst.h2 hst.c1 hst.c2 hend λh' hk=>zt (fin h' λc o c1 _ c3 c4 e=>hk c o c1 c3 c4 e))
 |succ k ih=>
   intro i s c hk hi hst hL hsz hp hR
   have hlt:i<m:=Nat.lt_of_sub_eq_succ hk
   refine Zn XT ?_
   rw[xh xB _]
   show zy _ A.in1 (pyNext (.ref z) >>= _) _ _ s
   obtain⟨x,hx⟩:∃x,xs[i]? =some x:=⟨_,yL (zO hlt m1)⟩
   obtain⟨y,hy⟩:∃y,ys[i]? =some y:=⟨_,yL (zO hlt m2)⟩
   have fin:∀h',((IsZip h' z TI TO .none/\∃a b,jE h' TO a b)\/∃T b,aN4 h' z TI TO (yH ((n0+T:Nat):Int)) b/\T<i+1)->SI k1 h' i1 l1 (i+1)->SI k2 h' i2 l2 (i+1)->jE h' s.heap.objs.size x y->h'.objs.size=s.heap.objs.size+1->
    (∀c o,c≠z->c≠TO->c≠i1->c≠i2->s.heap.get? c=some o->h'.get? c=some o)->
    zy (zH prog w) A.in1 (updateSeq S (·.push (.ref s.heap.objs.size)) >>= λ_=>again (.builtin "list.extend.loop" ⟨[.ref S,.ref z,res], []⟩)) (λfin s'=>match fin with| .done f=>R (.ok f) s'| .again c'=>c'.quiet=true/\codeAny (zH prog w) A c' R s') (λe s'=>R (.error e) s') {s with heap:=h'}:=by
    intro h' hz' q1 q2 qp qs qk
    have hL':=qk S _ hS.1 hS.2.2.1 hS.2.2.2.1 hS.2.2.2.2.1 hL
    have oth:∀b o,S≠b->h'.get? b=some o->(h'.update S (jL (·.push (.ref s.heap.objs.size)))).get? b=some o:=λb o hb e=>(yc _ _ hb).trans e
    obtain⟨c2,hL2⟩:∃c2,(h'.update S (jL (·.push (.ref s.heap.objs.size)))).get? S=some {cls:=.type "list",dict:=none,data:=.seq (aJ1 n0 (i+1)).toArray c2,slots:= #[]}:=by
     rw[<-cU2,<-hsz]
     exact⟨_,yh (jL (·.push (Value.ref s.heap.objs.size))) hL' rfl⟩
    refine za (Zl hL' rfl (zt ⟨ZJ xB _,ih (i+1) _ c2 (congrArg Nat.pred hk) hlt ?_ hL2 ?_ ?_ λh2 c' k2 k3 k4=>?_⟩) (dE9▸zv hi hn) (by rw[Array.size_push,dE9];exact yy (zv hi hn)))
    · refine⟨?_,oth _ _ hS.2.1 (qk _ _ Ap.TIz Ap.TITO Ap.TIi1 Ap.TIi2 hst.hTI),q1.keep λo e=>oth _ o hS.2.2.2.1 e,q2.keep λo e=>oth _ o hS.2.2.2.2.1 e,hst.c1.keep λo e=>oth _ o hS.2.2.2.2.2.1 (qk _ _ ?_ ?_ ?_ ?_ e),hst.c2.keep λo e=>oth _ o hS.2.2.2.2.2.2 (qk _ _ ?_ ?_ ?_ ?_ e)⟩
      · rcases hz' with⟨a1,a,b,a2⟩|⟨T,b,a1,a2⟩
        ·exact .inl ⟨oth _ _ hS.1 a1,a,b,oth _ _ hS.2.2.1 a2⟩
        ·exact .inr ⟨T,b,oth _ _ hS.1 a1,a2⟩
      all_goals simp only[zi,zu,or_false,not_or]at n1 n2
      ·exact n1.1
      ·exact n1.2.1
      ·exact n1.2.2.1
      ·exact n1.2.2.2
      ·exact n2.1
      ·exact n2.2.1
      ·exact n2.2.2.1
      ·exact n2.2.2.2
    · show (h'.update S _).objs.size=_
      rw[xN,qs,hsz]
      rfl
    · intro j hj
      by_cases q:j=i
      · subst q
        rw[hsz]at qp
        exact⟨x,y,hx,hy,oth _ _ (neA (by simp)).symm qp⟩
      · obtain⟨x',y',e1,e2,e3⟩:=hp j (Nat.lt_of_le_of_ne (Nat.le_of_lt_succ hj) q)
        exact⟨x',y',e1,e2,oth _ _ (neA (by simp)).symm (qk _ _ (neA (by simp)) (neA (by simp)) (neA (by simp)) (neA (by simp)) e3)⟩
    · refine hR h2 c' (λb o hb e=>?_) k3 k4
      have hb':=hb
      simp only[zi,zu,or_false,not_or]at hb'
      exact k2 b o hb (oth _ _ (yP hb'.2.2.2.2) (qk _ _ hb'.1 hb'.2.1 hb'.2.2.1 hb'.2.2.2.1 e))
   rcases hst.hz with⟨hz,a,b,hTO⟩|⟨T,b,hz,hT⟩
   · refine za (aX6 Ap n1 n2 hz hst.hTI hTO hst.h1 hst.h2 hst.c1 hst.c2 hx hy λh' a1 a2 a3 a4 a5 a6 a7=>?_)
     refine fin h' (.inr ⟨i,false,?_,xk _⟩) a3 a4 a5 a6 a7
     rw[hsz]at a1
     exact a1
   · obtain⟨x',y',_,_,e3⟩:=hp T hT
     exact za (bN7 Ap n1 n2 hz ⟨_,e3⟩ hst.hTI hst.h1 hst.h2 hst.c1 hst.c2 hx hy λh' a1 a3 a4 a5 a6 a7=>fin h' (.inr ⟨T,true,a1,yZ hT⟩) a3 a4 a5 a6 λc o c1 _ c3 c4 e=>a7 c o c1 c3 c4 e)
theorem dL8{R:Result->zm->Prop}(hh:A.handled=none)(Ap:ZA z TI TO i1 i2)(n1:l1∉ [z,TO,i1,i2])(n2:l2∉ [z,TO,i1,i2])(S:Addr)(hS:S∉ [z,TI,TO,i1,i2,l1,l2])(res:ze){c:Nat}
 (lt:∀b∈ [z,TI,TO,i1,i2,l1,l2,S], @Jg Nat instLTNat b s.heap.objs.size) (hn:min xs.size ys.size<=zh) (hst:ZSt k1 k2 z TI TO i1 i2 l1 l2 xs ys s.heap.objs.size 0 s.heap) (hL:s.heap.get? S=some {cls:=.type "list",data:=.seq #[] c})
 (hR:∀h' c',(∀b o,b∉ [z,TO,i1,i2,S]->s.heap.get? b=some o->h'.get? b=some o)->h'.get? S=some {cls:=.type "list",dict:=none,data:=.seq (aJ1 s.heap.objs.size (min xs.size ys.size)).toArray c',slots:= #[]}->
   bL9 xs ys s.heap.objs.size (min xs.size ys.size) h'->R (.ok (.ret res)) {s with heap:=h'}):
 zy (zH prog w) A.in1 (yx (.ref S) (.ref z) res)
  (λfin s'=>match fin with| .done f=>R (.ok f) s'| .again c'=>c'.quiet=true/\codeAny (zH prog w) A c' R s') (λe s'=>R (.error e) s') s:=by
 obtain⟨hz,hTI,h1,h2,c1,c2⟩:=hst
 rcases hz with⟨hz,a,b,hTO⟩|⟨T,b,_,q⟩
 · have hS':=hS
   simp only[zi,zu,or_false,not_or]at hS'
   have hT:s.TypeIs (.ref z) "zip":=⟨_,hz,rfl⟩
   unfold yx
   refine za (Zi (T:= "zip") hT ?_)
   have e1:Zy (.ref S) (.ref z)=false:=by simp[Zy,hS'.1]
   rw[if_neg (by rw[e1];decide)]
   refine za (Ys hz ?_)
   refine za (jK ?_)
   unfold Builtin.List.listLengthHint
   refine za (JH hT dK6 ?_)
   show zy _ A.in1 (specialOf (Value.ref z) (jz "__length_hint__") >>= _) _ _ _
   refine za (JH hT cZ2 ?_)
   refine zt ?_
   show zy _ A.in1 (rule "list.extend.makes-room" >>= λ_=>Builtin.List.listTouch (.ref S) >>= λ_=>again (.builtin "list.extend.loop" ⟨[.ref S,.ref z,res], []⟩)) _ _ _
   refine za (ZP ?_)
   refine za ?_
   show zy _ A.in1 (updateSeq S (·.push .none) >>= λ_=>updateSeq S (·.pop)) _ _ _
   refine za (Zl hL rfl ?_)
   have hS₂:=yh (jL (·.push Value.none)) hL rfl
   refine Zl hS₂ rfl ?_
   have hS₃:=yh (jL (·.pop)) hS₂ rfl
   have oth:∀b o,S≠b->s.heap.get? b=some o->((s.heap.update S (jL (·.push Value.none))).update S (jL (·.pop))).get? b=some o:=
    λb o hb e=>(yc _ _ hb).trans ((yc _ _ hb).trans e)
   have hsz:((s.heap.update S (jL (·.push Value.none))).update S (jL (·.pop))).objs.size=s.heap.objs.size+0:=by rw[xN,xN];rfl
   refine zt ⟨ZJ xB _,eO7 (k1:=k1) (k2:=k2) (xs:=xs) (ys:=ys) hh Ap n1 n2 S hS res (n0:=s.heap.objs.size) lt (Yh _ _) (Jb _ _) fC3 hn _ 0 _ _ rfl (je _)
    ⟨.inl ⟨oth _ _ hS'.1 hz,a,b,oth _ _ hS'.2.2.1 hTO⟩,oth _ _ hS'.2.1 hTI,h1.keep λo e=>oth _ o hS'.2.2.2.1 e,h2.keep λo e=>oth _ o hS'.2.2.2.2.1 e,c1.keep λo e=>oth _ o hS'.2.2.2.2.2.1 e,c2.keep λo e=>oth _ o hS'.2.2.2.2.2.2 e⟩ hS₃ hsz (λj hj=>absurd hj (yE _)) λh' c' q1 q2 q3=>?_⟩
   refine hR h' c' (λb o hb e=>q1 b o hb (oth b o ?_ e)) q2 q3
   simp only[zi,zu,or_false,not_or]at hb
   exact yP hb.2.2.2.2
 ·exact absurd q (yE _)
theorem eG2{Q:VSP}(hh:A.handled=none)(Ap:ZA z TI TO i1 i2)(n1:l1∉ [z,TO,i1,i2])(n2:l2∉ [z,TO,i1,i2])
 (lt:∀b∈ [z,TI,TO,i1,i2,l1,l2], @Jg Nat instLTNat b s.heap.objs.size) (hn:min xs.size ys.size<=zh)
 (hz:IsZip s.heap z TI TO .none) (hTO:∃a b,jE s.heap TO a b) (hTI:jE s.heap TI (.ref i1) (.ref i2)) (h1:SI k1 s.heap i1 l1 0) (h2:SI k2 s.heap i2 l2 0) (c1:SC k1 s.heap l1 xs) (c2:SC k2 s.heap l2 ys)
 (hQ:∀h' c',(∀b o,b∉ [z,TO,i1,i2]->s.heap.get? b=some o->h'.get? b=some o)->h'.get? s.heap.objs.size=some {cls:=.type "list",dict:=none,data:=.seq (aJ1 (s.heap.objs.size+1) (min xs.size ys.size)).toArray c',slots:= #[]}->
   bL9 xs ys (s.heap.objs.size+1) (min xs.size ys.size) h'->Q (.ref s.heap.objs.size) {s with heap:=h'}):
 zy (zH prog w) A (call (.type "list") [.ref z]) Q E s:=by
 refine callType_codes (Q₁:=λobj WZ=>obj= .ref s.heap.objs.size/\WZ= {s with heap:=s.heap.push {cls:=.type "list",data:=.seq #[]}}) PySem.F.called_list (PySem.F.typeCall_list_1 _) PySem.F.entry_list_init
  (code_list_new _ ⟨rfl,rfl⟩) λobj WZ WQ=>?_
 obtain⟨rfl,rfl⟩:=WQ
 have hS:(s.heap.push {cls:=.type "list",data:=.seq #[]}).get? s.heap.objs.size=some {cls:=.type "list",data:=.seq #[]}:=zC _ rfl
 refine⟨⟨_,hS,rfl⟩,PySem.F.args_list_init_2 _ _,?_⟩
 show zy _ _ (do let old <-ZK (.ref s.heap.objs.size);Builtin.List.listUpdate (.ref s.heap.objs.size) (λ_=> #[]);letGo old.toList.reverse;yx (.ref s.heap.objs.size) (.ref z) .none) _ _ _
 refine za ?_
 unfold ZK
 refine za (jS hS rfl (zt ?_))
 show zy _ _ (updateSeq s.heap.objs.size (λ_=> #[]) >>= λ_=>letGo (#[]:Array ze).toList.reverse >>= λ_=>yx (.ref s.heap.objs.size) (.ref z) .none) _ _ _
 refine za (Zl hS rfl ?_)
 have hS₂:=yh (jL (λ_=>(#[]:Array ze))) hS rfl
 refine za (YE ?_)
 have ne:∀b∈ [z,TI,TO,i1,i2,l1,l2],s.heap.objs.size≠b:=λb hb=>yP (zW (lt b hb))
 have oth:∀b o,s.heap.get? b=some o->((s.heap.push {cls:=.type "list",data:=.seq #[]}).update s.heap.objs.size (jL (λ_=>(#[]:Array ze)))).get? b=some o:=
  λb o e=>(yc _ _ (yP (zW (zA e)))).trans (zj _ e)
 have hsz:((s.heap.push {cls:=.type "list",data:=.seq #[]}).update s.heap.objs.size (jL (λ_=>(#[]:Array ze)))).objs.size=s.heap.objs.size+1:=by rw[xN,jX]
 obtain⟨a,b,hTO⟩:=hTO
 refine dL8 (k1:=k1) (k2:=k2) (xs:=xs) (ys:=ys) (TI:=TI) (TO:=TO) (i1:=i1) (i2:=i2) (l1:=l1) (l2:=l2) (A:=A.in1) hh Ap n1 n2 _ (λhm=>ne _ hm rfl) .none (λb hb=>?_) hn ⟨.inl ⟨oth _ _ hz,a,b,oth _ _ hTO⟩,oth _ _ hTI,h1.keep λo e=>oth _ o e,h2.keep λo e=>oth _ o e,c1.keep λo e=>oth _ o e,c2.keep λo e=>oth _ o e⟩ hS₂ λh' c' q1 q2 q3=>?_
 · show b<(Heap.update _ _ _).objs.size
   rw[hsz]
   rcases zG.mp (show b∈ [z,TI,TO,i1,i2,l1,l2]++[s.heap.objs.size]from hb)with q|q
   ·exact yZ (lt b q)
   ·rw[zq.mp q];exact xk _
 · have q2':=q2
   have q3':=q3
   dsimp only at q2' q3'
   rw[hsz]at q2' q3'
   refine⟨rfl,hQ h' c' (λb o hb e=>q1 b o (λhm=>?_) (oth b o e)) q2' q3'⟩
   rcases zG.mp (show b∈ [z,TO,i1,i2]++[s.heap.objs.size]from hm)with q|q
   ·exact hb q
   ·exact yd _ (by have:=zA e;rw[zq.mp q]at this;exact this)
end
theorem dN1{X:Cx}{pins:PNS}{O:St}{H H':Hp}{s:zm}{h':Heap}{t':Nat}(I:Inv X pins O H s)(k:∀b u,s.heap.get? b=some u->h'.get? b=some u)(same:∀b u,H b=some u->H' b=some u)
 (new:∀b u,H' b=some u->H b=some u\/s.heap.objs.size<=b/\W7 X.prog X.w H' h' b u):Inv X pins O H' {s with heap:=h',toks:=t'}:=by
 refine I.un ⟨λb u q _ _ _=>k b u q,λb u q _ _ _=>⟨u.slots,k b u q⟩,λb o q n _=>?_,λb u q _=>⟨u,k b u q⟩,λb xs q=>same _ _ q,λb o u q=>same _ _ q,λb ps q=>⟨#[],by rw[same _ _ q];simp⟩⟩ λb u e=>?_
 · cases e:H' b with
   |none=>rfl
   |some u=>
     rcases new b u e with z|z
     ·rw[n]at z;cases z
     ·exact absurd (zO (zA q) z.1) (yd _)
 · rcases new b u e with z|z
   ·exact(I.hok b u z).stay (λc v _ q=>k c v q) (λc q=>same _ _ q) λc xs q=>same _ _ q
   ·exact z.2
noncomputable def aX3(H:Hp)(n0:Nat)(ws:List (V×V)):Hp:=λb=>if (n0:Nat)<=b/\b<n0+ws.length then some (.tup [(ws.getD (b-n0) (.non,.non)).1,(ws.getD (b-n0) (.non,.non)).2])else H b
section
variable{H:Hp}{n0:Nat}{ws:List (V×V)}
theorem aT0(fr:∀b,n0<=b->H b=none){b:Addr}{u:HO}(e:H b=some u):aX3 H n0 ws b=some u:=by
 unfold aX3
 rw[if_neg,e]
 intro q
 rw[fr b q.1]at e
 cases e
theorem eC2{j:Nat}{p:V×V}(e:ws[j]? =some p):aX3 H n0 ws (n0+j:Nat)=some (.tup [p.1,p.2]):=by
 have hj:=lt_of_get e
 unfold aX3
 rw[if_pos ⟨jx _ _,Nat.add_lt_add_left hj _⟩,Nat.add_sub_cancel_left,jO,e]
 rfl
theorem dN0{b:Addr}{u:HO}(e:aX3 H n0 ws b=some u):H b=some u\/∃j p,b= (n0+j:Nat)/\ws[j]? =some p/\u= .tup [p.1,p.2]:=by
 unfold aX3 at e
 by_cases q:n0<=b/\b<n0+ws.length
 · rw[if_pos q]at e
   have hj:b-n0<ws.length:=Nat.sub_lt_left_of_lt_add q.1 q.2
   refine .inr ⟨b-n0,ws[b-n0],(Nat.add_sub_cancel' q.1).symm,zD hj,?_⟩
   rw[jO,zD hj]at e
   cases e;rfl
 ·rw[if_neg q]at e;exact .inl e
end
def bR3:List D->M D:=λds=>match ds with
 |[.ref r,.ref q]=>do
   let l <-V6 r >>= listOf
   let m <-V6 q >>= listOf
   S6 (.lst ((l.zip m).map λp=>.tup [p.1,p.2]))
 |_=>M.stuck
noncomputable def bR8(n0 m:Nat):List V:=(jB m).map λj=>V.ref (n0+j:Nat)
theorem dO1{n0 m:Nat}:J7 (bR8 n0 m) (aJ1 n0 m):=by
 unfold bR8 aJ1
 induction jB m with
 |nil=>exact .nil
 |cons j l ih=>exact .cons rfl ih
theorem bW9{c:Wc}{U:List Addr}{H:Hp}:∀ {l:List D} {vs:List V},l.length=vs.length->(∀(j:Nat) d v,l[j]? =some d->vs[j]? =some v->j9 c U H d v)->J0 c U H l vs
 |[], [],_,_=>rfl
 |d::l,v::vs,e,h=>⟨v,vs,rfl,h 0 d v rfl rfl,bW9 (Yp e) λj d v a b=>h (j+1) d v a b⟩
theorem eB8{c:Wc}{Z:XC}{U:List Addr}{H:Hp}{G:DH}{K:D->List Addr->DH->Hp->Prop}{ds:List D}(p:g8 c Z U H (bR3 ds G) K):∃i j,ds= [.ref i,.ref j]:=by
 match ds,p with
 |[.ref i,.ref j],_=>exact⟨i,j,rfl⟩
theorem cP2{U:List Addr}{H:Hp}{n0:Nat}{ws:List (V×V)}(fr:∀b:Addr,n0<=b->H b=none):Ext U H U (aX3 H n0 ws):=
 ⟨xQ _,λa ha n=>absurd ha n,λb o q _=>aT0 fr q,λb xs q=>aT0 fr q,λb o u q=>aT0 fr q⟩
theorem dN8{n0 m j:Nat}{v:V}(hj:j<m)(ev:(bR8 n0 m)[j]? =some v):v= .ref (n0+j:Nat):=by
 unfold bR8 at ev
 rw[jl,Xr hj]at ev
 exact(jd ev).symm
theorem fJ4{c:Wc}{U:List Addr}{H:Hp}{n0:Nat}{dl1 dl2:List D}{vs1 vs2:List V}(fr:∀b:Addr,n0<=b->H b=none)(rl1:J0 c U H dl1 vs1)(rl2:J0 c U H dl2 vs2):
 J0 c U (aX3 H n0 (vs1.zip vs2)) ((dl1.zip dl2).map λp=>.tup [p.1,p.2]) (bR8 n0 (vs1.zip vs2).length):=by
 refine bW9 (by rw[zo,yQ,rl1.length,rl2.length,bR8,zo,jy,yQ]) λj d v ed ev=>?_
 rw[jl]at ed
 obtain⟨pr,hz,rfl⟩:=Option.map_eq_some_iff.mp ed
 have hz2:=jU.mp hz
 obtain⟨y1,hy1,ry1⟩:=rl1.get hz2.1
 obtain⟨y2,hy2,ry2⟩:=rl2.get hz2.2
 have hw:(vs1.zip vs2)[j]? =some (y1,y2):=jU.mpr ⟨hy1,hy2⟩
 unfold j9
 exact⟨_, [y1,y2],dN8 (lt_of_get hw) ev,SqT.of (eC2 hw),J0.cons (ry1.mono (cP2 fr)) (J0.cons (ry2.mono (cP2 fr)) J0.nil)⟩
theorem fE1{X:Cx}{pins:PNS}{O:St}{H:Hp}{s:zm}{h':Heap}{n0 L c':Nat}{vs1 vs2:List V}{its1 its2:List ze}(I:Inv X pins O H s)(k:∀b u,s.heap.get? b=some u->h'.get? b=some u)
 (hL:s.heap.objs.size<=L) (e0:n0=L+1) (rr1:J7 vs1 its1) (rr2:J7 vs2 its2) (z1:vs1.length<=zh)
 (q2:h'.get? L=some {cls:=.type "list",dict:=none,data:=.seq (aJ1 n0 (vs1.zip vs2).length).toArray c',slots:= #[]}) (q3:bL9 its1.toArray its2.toArray n0 (vs1.zip vs2).length h'):
 aX3 H n0 (vs1.zip vs2) L=none/\Inv X pins O (upd (aX3 H n0 (vs1.zip vs2)) L (.lst (bR8 n0 (vs1.zip vs2).length))) {s with heap:=h'}:=by
 have h0:s.heap.objs.size<=n0:=e0▸zv hL (jh _)
 have fr:∀b:Addr,n0<=b->H b=none:=λb hb=>I.hok.fresh (zv h0 hb)
 have hS:aX3 H n0 (vs1.zip vs2) L=none:=by
  unfold aX3
  rw[if_neg λq=>Nat.not_succ_le_self L (zv (yO e0.symm) q.1)]
  exact I.hok.fresh hL
 refine⟨hS,dN1 (s:=s) (t':=s.toks) I k (λb u q=>?_) λb u q=>?_⟩
 · have:=aT0 (ws:=vs1.zip vs2) fr q
   rw[K5 (K7 this hS)];exact this
 · by_cases hb:b=L
   · subst hb
     rw[T7]at q
     cases q
     exact .inr ⟨hL,by unfold bR8;rw[zo,jy,yQ];exact zv (Yh _ _) z1,_,c',dO1,q2⟩
   · rw[K5 hb]at q
     rcases dN0 q with z|⟨j,pr,rfl,hw,rfl⟩
     ·exact .inl z
     · refine .inr ⟨zv h0 (jx _ _),by show 2<=zh;decide,?_⟩
       have hw2:=jU.mp (show (vs1.zip vs2)[j]? =some (pr.1,pr.2)from hw)
       obtain⟨x,y,ex,ey,ep⟩:=q3 j (lt_of_get hw)
       obtain⟨w1,f1,rw1⟩:=bI9 rr1 hw2.1
       obtain⟨w2,f2,rw2⟩:=bI9 rr2 hw2.2
       rw[ex]at f1;cases f1
       rw[ey]at f2;cases f2
       exact⟨[x,y],.cons rw1 (.cons rw2 .nil),_,ep,rfl,_,rfl⟩
section
variable{X:Cx}{Z:XC}{a b:Expr}{fs:DSt->M (List D)}{p1 p2 pos1 pos2:Pos}
theorem fW6{pins:PNS}{s1:zm}{O:St}{H1:Hp}{Q:VK}{vs:List V}{us:List ze}(hc:X.calm=true)(I1:Inv X pins O H1 s1)(r1:J7 vs us)(hl:bF4 (wc X) Z bR3 vs H1 Q):
 zy (zH X.prog X.w) X.A (call (.type "zip") us) (λz s2=>zy (zH X.prog X.w) X.A (call (.type "list") [z]) (EP X pins O Q) X.xe s2) X.xe s1:=by
 obtain⟨ds,X0,G1,rd,h1,p1⟩:=hl
 obtain⟨i,j,rfl⟩:=eB8 p1
 obtain⟨v1,t1,rfl,ra1,v2,t2,rfl,ra2,e⟩:=rd
 cases e
 obtain⟨dl1,l1,vs1,rfl,rl1,hq1,p2⟩:=aJ0 h1 ra1 p1
 obtain⟨dl2,l2,vs2,rfl,rl2,hq2,p3⟩:=aJ0 h1 ra2 p2
 obtain⟨u1,u2,rfl,ru1,ru2⟩:=bV5 r1
 cases ru1
 cases ru2
 obtain⟨its1,rr1,ht1,z1⟩:=I1.list hq1
 obtain⟨its2,rr2,ht2,z2⟩:=I1.list hq2
 have c1:SC false s1.heap l1 its1.toArray:=ht1.isList
 have c2:SC false s1.heap l2 its2.toArray:=ht2.isList
 refine bT0 c1 c2 λh5 n en Z=>?_
 have hm:min its1.toArray.size its2.toArray.size= (vs1.zip vs2).length:=by rw[yQ,rr1.length,rr2.length,zr,zr]
 refine eG2 (k1:=false) (k2:=false) (xs:=its1.toArray) (ys:=its2.toArray) (s:={s1 with heap:=h5}) (I1.ok.hd hc) (eT1 n) (bW4 (en▸c1.lt)) (bW4 (en▸c2.lt)) (fO4 (en▸c1.lt) (en▸c2.lt) Z.sz) (by rw[hm,yQ];exact zv (Yh _ _) z1) Z.g5 ⟨_,_,Z.g4⟩ Z.g3 Z.s1 Z.s2 (c1.keep λo e=>Z.keep _ o e) (c2.keep λo e=>Z.keep _ o e) λh' c' q1 q2 q3=>?_
 rw[hm]at q2 q3
 have e5:({s1 with heap:=h5}:zm).heap.objs.size=n+5:=Z.sz
 rw[e5]at q2 q3 ⊢
 obtain⟨hS,I2⟩:=fE1 (h':=h') (n0:=n+5+1) I1 (λb u q=>q1 b u (eZ0 (en▸zA q)) (Z.keep _ _ q)) (en▸jx _ _) rfl rr1 rr2 z1 q2 q3
 have fr:∀b:Addr,n+5+1<=b->H1 b=none:=λb hb=>I1.hok.fresh (en▸zv (jx n 6) hb)
 exact⟨.ref (n+5:Nat),_,I2,rfl,aE9 (h1.same (cP2 fr) λa o e _=>aT0 fr e) (fJ4 fr rl1 rl2) (g8.from p3 (cP2 fr)) _ hS⟩
theorem cZ9(ha:DA X Z [a,b] fs)(hc:X.calm=true)(hg1:Gl X "list")(hm1:X.mg "list" =none)(hg2:Gl X "zip")(hm2:X.mg "zip" =none)
 (hs1:zJ [Expr.Call (.Name "zip" p2) [a,b] [] pos2] X.env= [(false,eval (.Call (.Name "zip" p2) [a,b] [] pos2) X.env)]) (hs:zJ [a,b] X.env= [(false,eval a X.env),(false,eval b X.env)]) (hs2:zJ [b] X.env= [(false,eval b X.env)])
 (hb1:zR "list" =some (.type "list")) (hb2:zR "zip" =some (.type "zip")):
 DE X Z (.Call (.Name "list" p1) [.Call (.Name "zip" p2) [a,b] [] pos2] [] pos1) (q15 bR3 fs):=by
 refine⟨?_⟩
 intro pins s O H Q I hE0
 refine hE0.elim λX9 U G sr h p=>?_
 refine Jv (aW2 I hg1 hm1 hb1 (jw ?_ hs1 rfl))
 rw[hs1]
 refine Xp (Jv (aW2 I hg2 hm2 hb2 (jw (thn (ha.h pos2 pins s O H _ I ⟨X9,U,G,sr,h,(g8.bind p).mono λds X0 G1 H1 x1 h1 p1 vs rv=>(⟨ds,X0,G1,rv,h1,p1⟩:bF4 (wc X) Z bR3 vs H1 Q)⟩) λus s1 hu=>hu.elim λvs H1 I1 r1 hl=>?_) (by rw[hs,hs2]) (by rw[hs2];rfl))))
 exact yb (fW6 hc I1 r1 hl) (λz s2 h=>Xx h) λ_ _ h=>h
theorem eG1(ha:DA X Z [a,b] fs)(hc:X.calm=true)(hb:BLs X.mg)(hg1:Gl X "list")(hg2:Gl X "zip")(hs:X3 a=true)(hs2:X3 b=true):DE X Z (.Call (.Name "list" p1) [.Call (.Name "zip" p2) [a,b] [] pos2] [] pos1) (q15 bR3 fs):=
 cZ9 ha hc hg1 (hb.h _ (by decide +kernel)) hg2 (hb.h _ (by decide +kernel)) (aO3 rfl) (cA8 hs hs2) (aO3 hs2) dF3 dW4
end
end DL
namespace TS
open PySem PyProof.Rows
section
variable{prog:zE}{w:zP}{A:zK}{E:VSP}{s:zm}
noncomputable def kz(p:Keyed):Int:=numOf p.1
end
def leK(x y:Keyed):Prop:=kz x<=kz y
def Srt(l:List Keyed):Prop:=l.Pairwise leK
structure MI(L out A B:List Keyed):Prop where
 perm:(out++(A++B)).Perm L
 so:Srt out
 oa:∀x∈out,∀y∈A,leK x y
 ob:∀x∈out,∀y∈B,leK x y
 sa:Srt A
 sb:Srt B
structure MJ(L A B S:List Keyed):Prop where
 perm:(A++(B++S)).Perm L
 ss:Srt S
 as:∀x∈A,∀y∈S,leK x y
 bs:∀x∈B,∀y∈S,leK x y
 sa:Srt A
 sb:Srt B
structure LI(a b:Array Keyed)(out:Array Keyed)(ia ib:Nat):Prop where
 mi:MI (a.toList++b.toList) out.toList (a.toList.drop ia) (b.toList.drop ib)
 ha:ia+1<a.size
 hb:ib<b.size
 sz:out.size=ia+ib
section
variable{a b out:Array Keyed}{ia ib:Nat}
end
section
variable{prog:zE}{w:zP}{A:zK}{E:VSP}{s:zm}
end
section
variable{prog:zE}{w:zP}{A:zK}{E:VSP}{s:zm}
end
structure HI(a b:Array Keyed)(out:Array Keyed)(na nb:Nat):Prop where
 mj:MJ (a.toList++b.toList) (a.toList.take na) (b.toList.take nb) out.toList.reverse
 ha:0<na
 hb:1<nb
 la:na<=a.size
 lb:nb<=b.size
 sz:out.size+na+nb=a.size+b.size
section
variable{a b out:Array Keyed}{na nb:Nat}
end
section
variable{prog:zE}{w:zP}{A:zK}{E:VSP}{s:zm}
end
section
variable{prog:zE}{w:zP}{A:zK}{E:VSP}{s:zm}
structure Aft(st st':SortSt)(l:List Keyed)(p:Array (Nat×Nat×Nat)):Prop where
 kind:kindOf st'=oneType'
 arr:(arrOf st').toList=l
 pend:pendingOf st'=p
 fail:failedOf st'=none
end
structure Run(lo:Nat)(st st':SortSt):Prop where
 kind:kindOf st'=oneType'
 pend:pendingOf st'=pendingOf st
 fail:failedOf st'=none
 perm:(arrOf st').Perm (arrOf st)
 low:∀i,i<lo->(arrOf st')[i]? = (arrOf st)[i]?
section
variable{prog:zE}{w:zP}{A:zK}{E:VSP}{s:zm}
end
section
variable{prog:zE}{w:zP}{A:zK}{E:VSP}{s:zm}
end
noncomputable def lay:Nat->List (List Keyed)->List Nat->List (Nat×Nat×Nat)
 |o,r::rs,p::ps=>(o,r.length,p)::lay (o+r.length) rs ps
 |_,_,_=> []
structure GI(a0:List Keyed)(st:SortSt)(rs:List (List Keyed))(ps:List Nat)(T:List Keyed):Prop where
 kind:kindOf st=oneType'
 fail:failedOf st=none
 arr:(arrOf st).toList=rs.flatten++T
 perm:(arrOf st).toList.Perm a0
 len:rs.length=ps.length
 pend:pendingOf st= (lay 0 rs ps).toArray
 ok:∀r∈rs,0<r.length/\Srt r
section
variable{prog:zE}{w:zP}{A:zK}{E:VSP}{s:zm}
end
section
variable{prog:zE}{w:zP}{A:zK}{E:VSP}{s:zm}
end
section
variable{prog:zE}{w:zP}{A:zK}{E:VSP}{s:zm}
end
end TS
namespace DL
open PySem PySem.Spec L2
open PyProof.Rows hiding St
section
variable{prog:zE}{w:zP}{A:zK}{E:VSP}{s:zm}{T:String}{r d:Addr}{n:Nat}{P:Nat->ze->Prop}{OK:Heap->Prop}{Q:VSP}
end
section
variable{X:Cx}{Z:XC}{c:Wc}{U:List Addr}{H:Hp}{G:DH}
end
section
variable{prog:zE}{w:zP}{A:zK}{E:VSP}
end
section
variable{prog:zE}{w:zP}{A:zK}{E:VSP}
end
section
variable{X:Cx}{Z:XC}{c:Wc}{U:List Addr}{H:Hp}{G:DH}
end
section
variable{X:Cx}{Z:XC}{e:Expr}{fe:Fe}{p pn kp pos:Pos}{j:_}
end
structure dC2(X:Cx)(e:Expr)(k:Int):Prop where
 h:PE X e (tC (.int k))
section
variable{X:Cx}{Z:XC}{pos:Pos}{e f:Expr}{i j k:Int}
theorem fE9{m pos}:dC2 X (.Constant (.int i) m pos) i:=⟨cX9⟩
theorem fH4(he:dC2 X e i)(hf:dC2 X f j)(hc:dM8 i j)(hk:i ^ j.toNat=k):dC2 X (.BinOp e .Pow f pos) k:=⟨by
 subst hk
 exact PE.mono (eD1 dQ8 he.h hf.h) λO H Q q=>⟨i,j,rfl,rfl,hc,q⟩⟩
theorem fA3(he:dC2 X e i)(hf:dC2 X f j)(hk:i-j=k):dC2 X (.BinOp e .Sub f pos) k:=⟨by
 subst hk
 exact PE.mono (eD1 dX2 he.h hf.h) λO H Q q=>⟨i,j,rfl,rfl,q⟩⟩
end
end DL
namespace DL
open PySem PySem.W
open PyProof.Rows hiding St
structure WO(lt:Nat->Nat->Bool):Prop where
 tr:∀i j k,lt j i=false->lt k j=false->lt k i=false
 as:∀i j,lt i j=true->lt j i=false
section
variable{lt:Nat->Nat->Bool}{n:Nat}{p:Array Nat}
end
end DL
namespace DL
open PySem PySem.Spec L2
open PyProof.Rows hiding St
section
variable{X:Cx}{pins:PNS}{O:St}{H:Hp}{s:zm}
end
section
variable{prog:zE}{w:zP}{A:zK}{E:VSP}{s:zm}{C:Bool->zm->Prop}
end
section
variable{X:Cx}{Z:XC}{pins:PNS}{O:St}{H:Hp}{s:zm}{F:List D->M D}{k:Nat}{f:Addr}{fd:jm}{ps:List Str}{U:List Addr}{G:DH}
end
section
variable{X:Cx}{Z:XC}{e:Expr}{fe:Fe}{p pf kp pos:Pos}{x:Str}{F:List D->M D}
end
section
variable{prog:zE}{w:zP}{A:zK}{E:VSP}{s:zm}
end
section
variable{X:Cx}{Z:XC}{es:List Expr}{pos:Pos}
end
section
variable{X:Cx}{Z:XC}
end
section
variable{X:Cx}{Z:XC}
end
section
variable{prog:zE}{w:zP}{A:zK}{E:VSP}{s:zm}
end
section
variable{prog:zE}{w:zP}{A:zK}{E:VSP}{s:zm}
end
section
variable{prog:zE}{w:zP}{A:zK}{E:VSP}{s:zm}
end
section
variable{X:Cx}{Z:XC}{c:Wc}{U:List Addr}{H:Hp}{G:DH}
end
section
variable{X:Cx}{Z:XC}{ea eb:Expr}{fa fb:Fe}{p p1 p2 q1 q2 q3 pos:Pos}
end
noncomputable def fC4(A:zK)(s:zm)(y x:ze)(b:Bool):Prop:=
 ∀(prog:zE) (w:zP) (E:VSP) (Q:VSP),Q (.bool b) s->zy (zH prog w) A (richCompare .GtE y x) Q E s
inductive GeR(A:zK)(s:zm):List ze->List ze->Bool->Prop
 |nil:GeR A s [] [] true
 |eq {x y xs ys b}:jG A s x y true->GeR A s xs ys b->GeR A s (x::xs) (y::ys) b
 |ne {x y xs ys b}:jG A s x y false->fC4 A s x y b->GeR A s (x::xs) (y::ys) b
section
open PySem.SeqAt
open PySem.AutoSeq1 (wpAny_loadPart')
open PySem.MeetsSeq PySem.MeetsSeq2 PySem.MeetsSeq3
theorem dA7(l b:Addr)(its its2:Array ze)(n n2:Nat)(dd dd2:Option Addr)(sl sl2:Array (Option ze))(k:Bool):
 Meets (Builtin.«tuple.__ge__» ⟨[.ref l,.ref b], []⟩)
  (λA R s=>s.heap.get? l=some {cls:=.type "tuple",dict:=dd,data:=.seq its n,slots:=sl}/\s.heap.get? b=some {cls:=.type "tuple",dict:=dd2,data:=.seq its2 n2,slots:=sl2}/\
    GeR A.in1 s its.toList its2.toList k/\R (.ok (.ret (.bool k))) s):=
 .of_wp λprog w A R s h=>by
  obtain⟨hp,g,d,tk,os⟩:=s;obtain⟨hl,hb,hk,h⟩:=h
  have f2:=ZY
  wp_walk using jg hl,jg hb,Jx _ (λW9 b s'=>b.1=none/\s'= ⟨hp,g,d,tk,os⟩/\∃(vs ws:List ze),W9=vs.zip ws/\
   vs.length+its2.size=ws.length+its.size/\GeR A.in1 ⟨hp,g,d,tk,os⟩ vs ws k) _
  case turn=>
   rintro⟨y,x⟩ W9 b s' ⟨hb',rfl,vs,ws,hz,hlen,hR⟩
   cases hR with
   |nil=>exact cH8 hz
   |eq he hR'=>
     rw[jv]at hz
     injection hz with hyx hrest
     injection hyx with hy hx
     subst hy hx
     refine za (he prog w _ _ ?_)
     wp_walk
     simp only[zp]at hlen
     exact⟨rfl,rfl,_,_,hrest,by lia,hR'⟩
   |ne he hc=>
     rw[jv]at hz
     injection hz with hyx hrest
     injection hyx with hy hx
     subst hy hx
     refine za (he prog w _ _ ?_)
     have hri:=hc prog w
     wp_walk using hri
     exact⟨_,rfl,h⟩
  case fin=>
   rintro⟨b1,b2⟩ s' ⟨hb',rfl,vs,ws,hz,hlen,hR⟩
   simp only at hb'
   subst hb'
   have hv:k=decide (its.size>=its2.size):=by
    cases hR with
    |nil=>simp only[jk]at hlen;exact(decide_eq_true (by lia)).symm
    |eq _ _=>rw[jv]at hz;exact bQ8 hz
    |ne _ _=>rw[jv]at hz;exact bQ8 hz
   rw[hv]at h
   wp_walk
   exact⟨_,rfl,by simpa [Za]using h⟩
  case h=>
   exact⟨rfl,rfl,its.toList,its2.toList,rfl,by simp;lia,hk⟩
end
noncomputable def dO0(a:Int)(p:Str)(b:Int)(q:Str):Bool:=if a=b then (if p=q then true else !decide (p.cps.toList<q.cps.toList))else decide (b<=a)
def geT:D->D->M D:=λx y=>match x,y with
 | .tup [.int a,.str p],.tup [.int b,.str q]=>pure (.bl (dO0 a p b q))
 |_,_=>M.stuck
section
variable{X:Cx}{Z:XC}
theorem fF5{dx dy:D}{c:Wc}{U:List Addr}{H:Hp}{G:DH}{K:D->List Addr->DH->Hp->Prop}(p:g8 c Z U H (geT dx dy G) K):∃a p b q,dx= .tup [.int a,.str p]/\dy= .tup [.int b,.str q]:=by
 unfold geT at p
 split at p
 ·exact⟨_,_,_,_,rfl,rfl⟩
 ·exact p.elim
theorem fF2(hu:X.A.units+64<yq):OpD X Z (zL .GtE) geT:=⟨by
 intro pins s O H x y v u Q I rx ry hE0
 refine hE0.elim λdx dy U G rdx rdy hr p=>?_
 obtain⟨a,p1,b,q1,rfl,rfl⟩:=fF5 p
 obtain⟨l,vs,its,rfl,rfl,rl,rr,sq,q⟩:=aH6 I hr (show X5 G (.tup [.int a,.str p1])=some (true,_)from rfl) rdx rx
 obtain⟨l',vs',its',rfl,rfl,rl',rr',sq',q'⟩:=aH6 I hr (show X5 G (.tup [.int b,.str q1])=some (true,_)from rfl) rdy ry
 have hu0:X.A.units<yq:=by lia
 have hu1:X.A.in1.units+39<yq:=by show X.A.units+1+39<yq;lia
 obtain⟨v1,v2,rfl,r1,r2⟩:=fI6 rl
 obtain⟨w1,w2,rfl,t1,t2⟩:=fI6 rl'
 obtain⟨u1,u2,rfl,s1,s2⟩:=bV5 rr
 obtain⟨x1,x2,rfl,y1,y2⟩:=bV5 rr'
 have e1:=(bX1 I hr 39 X.A.in1 hu1 r1 t1 s1 y1 (b:=decide (a=b)) rfl).2.2
 have e2:=(bX1 I hr 39 X.A.in1 hu1 r2 t2 s2 y2 (b:=(p1==q1)) rfl).2.2
 unfold j9 at r1 t1 r2 t2
 subst r1 t1 r2 t2
 obtain⟨k1,rfl⟩:=s1
 obtain⟨k2,rfl⟩:=s2
 obtain⟨k3,rfl⟩:=y1
 obtain⟨k4,rfl⟩:=y2
 have hR:GeR X.A.in1 s [.int a k1,.str p1 k2] [.int b k3,.str q1 k4] (dO0 a p1 b q1):=by
  unfold dO0
  by_cases h1:a=b
  · rw[if_pos h1]
    rw[decide_eq_true h1]at e1
    refine .eq e1 ?_
    by_cases h2:p1=q1
    · rw[if_pos h2]
      rw[show (p1==q1)=true from by rw[h2];exact beq_self_eq_true _]at e2
      exact .eq e2 .nil
    · rw[if_neg h2]
      rw[show (p1==q1)=false from by simpa using h2]at e2
      exact .ne e2 λprog w E Q hq=>(PySem.P.ge_str hq:zy (zH prog w) X.A.in1 (zL .GtE _ _) Q E s)
  · rw[if_neg h1]
    rw[decide_eq_false h1]at e1
    exact .ne e1 λprog w E Q hq=>(ge_int hq:zy (zH prog w) X.A.in1 (zL .GtE _ _) Q E s)
 obtain⟨⟨cls,dd,data,sl⟩,ho,hc,m,hd⟩:=id sq
 obtain⟨⟨cls2,dd2,data2,sl2⟩,ho2,hc2,m2,hd2⟩:=id sq'
 simp only at hc hd hc2 hd2
 subst hc hd hc2 hd2
 exact Zj (op:=.GtE) ⟨_,ho,rfl⟩ ⟨_,ho2,rfl⟩ PySem.F.slot_tuple_ge PySem.F.entry_tuple_ge (PySem.F.args_tuple_ge_2 _ _) (dA7 l l' _ _ m m2 dd dd2 sl sl2 _) ⟨ho,ho2,hR,show Value.bool _≠Value.notImplemented/\_ from⟨(λx=>nomatch x),⟨.bl _,H,I,rfl,g8.ok p hr _ ofB⟩⟩⟩ hu0⟩
end
section
variable{X:Cx}{Z:XC}
end
section
variable{X:Cx}{Z:XC}{pins:PNS}{O:St}{k:Nat}{f:Addr}{fd:jm}{ps:List Str}{F:List D->M D}{A:zK}
end
section
variable{X:Cx}{Z:XC}{F:List D->M D}{x:Str}{e:Expr}{fe:Fe}{p pf kp pos:Pos}
end
section
variable{prog:zE}{w:zP}{A:zK}{E:VSP}{s:zm}{K:Type}[DecidableEq K]{knd:KeyKind prog w K}
end
section
variable{X:Cx}{Z:XC}{ea:Expr}{fa:Fe}{p q1 ap pos:Pos}
end
section
variable{X:Cx}{pins:PNS}{O:St}{H:Hp}{s:zm}
end
section
variable{prog:zE}{w:zP}{A:zK}{E:VSP}{s:zm}{C:Bool->zm->Prop}
end
section
variable{X:Cx}{Z:XC}{pins:PNS}{O:St}{H:Hp}{s:zm}{F:List D->M D}{k:Nat}{f:Addr}{fd:jm}{ps:List Str}{U:List Addr}{G:DH}
end
section
variable{X:Cx}{Z:XC}{e:Expr}{fe:Fe}{p pf kp pos:Pos}{x:Str}{F:List D->M D}
end
inductive CdE(w:zP)(K:zk)(mg:Str->Option ze):List DictEntry->List (Str×D)->Prop
 |nil:CdE w K mg [] []
 |cons {z:Str} {t:Tok} {u:ze} {d:D} {es:List DictEntry} {tb:List (Str×D)} (h:CR K mg d u) (r:CdE w K mg es tb):CdE w K mg ({hash:=PyData.keyHash w.params z,key:=.str z t,val:=u}::es) ((z,d)::tb)
structure CdOk(w:zP)(K:zk)(mg:Str->Option ze)(x:Str)(tb:List (Str×D)):Prop where
 ex:∃a es n,mg x=some (.ref a)/\K.lookup a=some ⟨.type "dict",none,.dict (List.toArray es) n, #[]⟩/\CdE w K mg es tb
 nd:(tb.map (·.1)).Nodup
section
variable{X:Cx}{Z:XC}{b:Expr}{fb:Fe}{x:Str}{tb:List (Str×D)}{p pos:Pos}
end
mutual
noncomputable def pyD:D->PyData
 | .non=>.none
 | .bl b=>.bool b
 | .int i=>.int i
 | .str x=>.str x
 | .tup l=>.tuple (pyL l)
 | .ref _=>.none
 | .fn _=>.none
 | .ty _=>.none
noncomputable def pyL:List D->List PyData
 |[]=> []
 |d::r=>pyD d::pyL r
end
mutual
noncomputable def aG5:D->Bool
 | .non=>true
 | .bl _=>true
 | .int _=>true
 | .str _=>true
 | .tup l=>cJ5 l
 | .ref _=>false
 | .fn _=>false
 | .ty _=>false
noncomputable def cJ5:List D->Bool
 |[]=>true
 |d::r=>aG5 d&&cJ5 r
end
mutual
theorem fS8:∀d:D,(pyD d).hasDict=false
 | .non=>rfl
 | .bl _=>rfl
 | .int _=>rfl
 | .str _=>rfl
 | .tup l=>by unfold pyD;exact eU2 l
 | .ref _=>rfl
 | .fn _=>rfl
 | .ty _=>rfl
theorem eU2:∀l:List D,Xn (pyL l)=false
 |[]=>rfl
 |d::r=>by unfold pyL;show ((pyD d).hasDict||Xn (pyL r))=false;rw[fS8 d,eU2 r];rfl
end
section
variable{X:Cx}{Z:XC}{pins:PNS}{O:St}{H:Hp}{s:zm}
theorem dK1{a:Addr}{vs:List V}(I:Inv X pins O H s)(q:SqT X.K H a vs):∃o its n,s.heap.get? a=some o/\o.cls= .type "tuple"/\o.data= .seq its n/\J7 vs its.toList:=by
 rcases q with q|⟨o,its,n,hl,hc,hd,_,hv⟩
 · obtain⟨_,its,hv,o,e,c,n,d⟩:=(show W7 X.prog X.w H s.heap a (.tup vs)from dX1 I.hok q)
   exact⟨o,its.toArray,n,e,c,(xW d).1,by simpa using hv⟩
 ·exact⟨o,its,n,I.kIn _ _ hl,hc,(xW hd).1,hv⟩
mutual
theorem gC9(I:Inv X pins O H s){U:List Addr}:∀(d:D) {v:V} {u:ze},aG5 d=true->j9 (wc X) U H d v->M3 v u->∃as,Reads s.heap u (pyD d) as
 | .non,v,u,_,r,q=>by unfold j9 at r;subst r;cases q;exact⟨_,.none⟩
 | .bl b,v,u,_,r,q=>by unfold j9 at r;subst r;cases q;exact⟨_,.bool b⟩
 | .int i,v,u,_,r,q=>by unfold j9 at r;subst r;obtain⟨t,rfl⟩:=q;exact⟨_,.int i t⟩
 | .str x,v,u,_,r,q=>by unfold j9 at r;subst r;obtain⟨t,rfl⟩:=q;exact⟨_,.str x t⟩
 | .tup l,v,u,hd,r,q=>by
   unfold j9 at r
   obtain⟨a,vs,rfl,sq,rl⟩:=r
   cases q
   obtain⟨o,its,n,e,c,d,hv⟩:=dK1 I sq
   obtain⟨as,ra⟩:=fR2 I l (by unfold aG5 at hd;exact hd) rl hv
   unfold pyD
   exact⟨as,.tuple e c d ra⟩
 | .ref _,v,u,hd,_,_=>by unfold aG5 at hd;cases hd
 | .fn _,v,u,hd,_,_=>by unfold aG5 at hd;cases hd
 | .ty _,v,u,hd,_,_=>by unfold aG5 at hd;cases hd
theorem fR2(I:Inv X pins O H s){U:List Addr}:∀(l:List D) {vs:List V} {us:List ze},cJ5 l=true->J0 (wc X) U H l vs->J7 vs us->∃as,ReadsAll s.heap us (pyL l) as
 |[],vs,us,_,r,q=>by unfold J0 at r;subst r;cases q;exact⟨_,.nil⟩
 |d::l,vs,us,hd,r,q=>by
   unfold J0 at r
   obtain⟨v,r',rfl,r1,r2⟩:=r
   unfold cJ5 at hd
   rw[zg]at hd
   cases q with
   |cons q1 q2=>
     obtain⟨as,h1⟩:=gC9 I d hd.1 r1 q1
     obtain⟨bs,h2⟩:=fR2 I l hd.2 r2 q2
     unfold pyL
     exact⟨_,.cons h1 h2⟩
end
end
section
variable{X:Cx}{Z:XC}
end
end DL
namespace W
open PySem PySem.Spec L2 DL
open PyProof.Rows hiding St
end W
namespace DL
open PySem PySem.Spec L2
open PyProof.Rows hiding St
noncomputable def upS(z:Str):Str:=⟨placed z λ_ c=>xj c⟩
def upD:D->List D->M D:=λx ds=>match x,ds with
 | .str z, []=>if (upS z).length<=zh then pure (.str (upS z))else M.stuck
 |_,_=>M.stuck
section
variable{X:Cx}{Z:XC}{o:Expr}{fo:Fe}{name:Str}{id:String}{mm:D->List D->M D}{apos cpos:Pos}
theorem dZ6:MtD X Z "str.upper" upD:=by
 intro pins s O H x xs v us Q I rx rvs hE0
 obtain⟨d,ds,U,G,rd,rl,hr,p⟩:=hE0
 unfold upD at p
 split at p
 · rename_i z
   rw[bB8 rd]at rx
   obtain⟨t,rfl⟩:=rx
   cases rl
   cases rvs
   by_cases hl:(upS z).length<=zh
   case neg=>rw[if_neg hl]at p;exact p.elim
   rw[if_pos hl]at p
   have ht:Builtin.Str.tooLong (placed z λ_ c=>xj c).size=false:=decide_eq_false (Nat.not_lt.mpr hl)
   exact call_gives Xo (ZQ _ _ _) F.entry_str_upper (F.args_str_upper_1 _) (gives_str_upper z t ht) ⟨hl,.str (upS z),H,I.tok _,⟨_,rfl⟩,g8.ok p hr _ (by unfold j9;rfl)⟩
 ·exact p.elim
theorem eI1(slot:Slot "str" name id)(hty:typeOf (.builtin id)=pure (.type "method_descriptor"))(hm:MtD X Z id mm)(ho:DE X Z o fo)
 (hbase:attributeBase o name X.env (eval o X.env)=eval o X.env) (hline:(apos.endLine==cpos.line)=true):DE X Z (.Call (.Attribute o name apos) [] [] cpos) (mtE cZ6 mm fo q14):=
 DE.of (dW1 PySem.F.plainAttrs_str slot hty hm ho.h hbase hline) λO H Q hE0=>hE0.elim λX9 U G s h p=>⟨X9,U,G,s,h,(g8.bind p).mono λd X0 G1 H1 x1 h1 p1 v rv=>by
  obtain⟨ty,p2⟩:=cZ5 rv p1
  exact⟨ty,d, [],X0,G1,rv,rfl,h1,p2⟩⟩
end
end DL
namespace W
open PySem PySem.Spec L2 DL
open PyProof.Rows hiding St
def bA1:Fs:=t8 (aB4 (q15 o6 (q13 (c7 0) (q13 (cE (.ty "tuple")) q14))) (aB4 (d7 eqD (q15 W8 (q13 (c7 0) q14)) (cE (.int 2))) (q15 o6 (q13 (d7 ixD (c7 0) (cE (.int 0))) (q13 (cE (.ty "tuple")) q14)))))
def aD2:List D->M D:=K4 1 bA1
def aT6:Fs:=t8 (dA0 (d7 cC7 (c7 0) (cE .non)) (q15 (fnX 1 aD2) (q13 (c7 0) q14)))
def Z8:List D->M D:=K4 1 aT6
def bI0:Fs:=t8 (q15 aY1 (q13 (Q0 (bZ0 (q13 (c7 0) (q13 (P0 (c7 0) (T5 (cE (.int 1))) (Q6)) q14))) [none,none] (cB8 2 (aD9 (q16 0) (aD9 (q16 1) (cC6)))) (aA2) (d7 ltD (c7 0) (c7 1))) q14))
def Z5:List D->M D:=K4 1 bI0
def aU6:Fs:=t8 (Q0 (itW (c7 0)) [none] (q16 0) (aA2) (d7 ixD (c7 0) (cE (.int 0))))
def aO6:List D->M D:=K4 1 aU6
def bN6:Fs:=t8 (aB4 (q15 o6 (q13 (c7 0) (q13 (cE (.ty "str")) q14))) (q15 aY1 (q13 (Q0 (itW (c7 0)) [none] (q16 0) (aA2) (cK9 leD leD (cE (.str ("a" :Str))) (c7 0) (cE (.str ("z" :Str))))) q14)))
def aD3:List D->M D:=K4 1 bN6
def cG2:Fs:=t8 (aB4 (q15 (fnX 1 aD3) (q13 (c7 0) q14)) (d7 gtD (q15 W8 (q13 (c7 0) q14)) (cE (.int 0))))
def aU0:List D->M D:=K4 1 cG2
def bG1:Fs:=t8 (aB4 (q15 o6 (q13 (c7 0) (q13 (cE (.ty "tuple")) q14))) (aB4 (d7 eqD (q15 W8 (q13 (c7 0) q14)) (cE (.int 3))) (aB4 (q15 (fnX 1 aU0) (q13 (d7 ixD (c7 0) (cE (.int 0))) q14)) (q15 o6 (q13 (d7 ixD (c7 0) (cE (.int 1))) (q13 (cE (.ty "bool")) q14))))))
def aO4:List D->M D:=K4 1 bG1
def aF9:Fs:=j0 (ifS (o8 (d7 cC7 (c7 0) (cE .non))) (t8 (cE (.bl true))) u0) (j0 (ifS (R1 (aB3 (o7 (q15 (fnX 1 aD2) (q13 (c7 0) q14))) (o7 (q15 aY1 (q13 (Q0 (itW (d7 ixD (c7 0) (cE (.int 0)))) [none] (q16 0) (aA2) (q15 (fnX 1 aO4) (q13 (c7 0) q14))) q14))))) (t8 (cE (.bl false))) u0) (t8 (q15 (fnX 1 Z5) (q13 (q15 (fnX 1 aO6) (q13 (d7 ixD (c7 0) (cE (.int 0))) q14)) q14))))
def V1:List D->M D:=K4 1 aF9
def bJ3:Fs:=t8 (aB4 (d7 aC1 (d7 ixD (c7 0) (cE (.int 1))) (cE .non)) (aB4 (d7 aC1 (d7 ixD (c7 1) (cE (.int 0))) (cE .non)) (d7 ltD (d7 Q3 (d7 ixD (c7 0) (cE (.int 1))) (cE (.int 1))) (d7 ixD (c7 1) (cE (.int 0))))))
def aG8:List D->M D:=K4 2 bJ3
def bY3:Fs:=t8 (aB4 (d7 aC1 (c7 0) (cE .non)) (aB4 (d7 aC1 (c7 1) (cE .non)) (d7 gtD (c7 0) (c7 1))))
def aO9:List D->M D:=K4 2 bY3
def bZ2:Fs:=t8 (aB4 (q15 o6 (q13 (c7 0) (q13 (cE (.ty "int")) q14))) (cD1 (q15 o6 (q13 (c7 0) (q13 (cE (.ty "bool")) q14)))))
def aO0:List D->M D:=K4 1 bZ2
def cR5:Fs:=t8 (dA0 (d7 cC7 (c7 0) (cE .non)) (q15 (fnX 1 aO0) (q13 (c7 0) q14)))
def aT3:List D->M D:=K4 1 cR5
def aW8:Fs:=j0 (ifS (R1 (aB3 (o7 (q15 o6 (q13 (c7 0) (q13 (cE (.ty "tuple")) q14)))) (o8 (d7 eqD (q15 W8 (q13 (c7 0) q14)) (cE (.int 2)))))) (t8 (cE (.bl false))) u0) (j0 (ifS (R1 (aB3 (o7 (q15 (fnX 1 aT3) (q13 (d7 ixD (c7 0) (cE (.int 0))) q14))) (o7 (q15 (fnX 1 aT3) (q13 (d7 ixD (c7 0) (cE (.int 1))) q14))))) (t8 (cE (.bl false))) u0) (t8 (cD1 (q15 (fnX 2 aO9) (q13 (d7 ixD (c7 0) (cE (.int 0))) (q13 (d7 ixD (c7 0) (cE (.int 1))) q14))))))
def aH9:List D->M D:=K4 1 aW8
def aV6:Fs:=j0 (ifS (R1 (aB3 (o7 (q15 o6 (q13 (c7 0) (q13 (cE (.ty "tuple")) q14)))) (o7 (q15 aY1 (q13 (Q0 (itW (c7 0)) [none] (q16 0) (aA2) (q15 (fnX 1 aH9) (q13 (c7 0) q14))) q14))))) (t8 (cE (.bl false))) u0) (t8 (q15 aY1 (q13 (Q0 (bZ0 (q13 (c7 0) (q13 (P0 (c7 0) (T5 (cE (.int 1))) (Q6)) q14))) [none,none] (cB8 2 (aD9 (q16 0) (aD9 (q16 1) (cC6)))) (aA2) (q15 (fnX 2 aG8) (q13 (c7 0) (q13 (c7 1) q14)))) q14)))
def aH7:List D->M D:=K4 1 aV6
def bC2:Fs:=j0 (ifS (R1 (aB3 (o7 (q15 o6 (q13 (c7 0) (q13 (cE (.ty "tuple")) q14)))) (o8 (d7 eqD (q15 W8 (q13 (c7 0) q14)) (cE (.int 2)))))) (t8 (cE (.bl false))) u0) (t8 (aB4 (q15 o6 (q13 (d7 ixD (c7 0) (cE (.int 0))) (q13 (cE (.ty "str")) q14))) (aB4 (d7 eqD (d7 ixD (c7 0) (cE (.int 0))) (c7 1)) (q15 o6 (q13 (d7 ixD (c7 0) (cE (.int 1))) (q13 (cE (.ty "tuple")) q14))))))
def aC9:List D->M D:=K4 2 bC2
def aU7:Fs:=t8 (v7 (q13 (q15 W8 (q13 (c7 0) q14)) (q13 (c7 0) q14)))
def W2:List D->M D:=K4 1 aU7
def bH1:Fs:=j0 (ifS (R1 (orT (o7 (q15 (fnX 2 aC9) (q13 (c7 0) (q13 (cE (.str ("of" :Str))) q14)))) (o7 (q15 (fnX 2 aC9) (q13 (c7 0) (q13 (cE (.str ("but" :Str))) q14)))))) (t8 (cE (.bl false))) u0) (j0 (ifS (R1 (o7 (q15 aY1 (q13 (Q0 (itW (d7 ixD (c7 0) (cE (.int 1)))) [none] (q16 0) (aA2) (q15 (fnX 1 aD3) (q13 (c7 0) q14))) q14)))) (t8 (cE (.bl false))) u0) (t8 (q15 (fnX 1 Z5) (q13 (Q0 (itW (d7 ixD (c7 0) (cE (.int 1)))) [none] (q16 0) (aA2) (q15 (fnX 1 W2) (q13 (c7 0) q14))) q14))))
def aJ8:List D->M D:=K4 1 bH1
def aY2:Fs:=j0 (ifS (R1 (o7 (q15 o6 (q13 (c7 0) (q13 (cE (.ty "tuple")) q14))))) (t8 (cE (.bl false))) u0) (t8 (aB4 (q15 aY1 (q13 (Q0 (itW (c7 0)) [none] (q16 0) (aA2) (q15 o6 (q13 (c7 0) (q13 (cE (.ty "bool")) q14)))) q14)) (q15 (fnX 1 Z5) (q13 (c7 0) q14))))
def aG1:List D->M D:=K4 1 aY2
def aN1:Fs:=j0 (ifS (o7 (q15 o6 (q13 (c7 0) (q13 (cE (.ty "str")) q14)))) (t8 (d7 eqD (c7 0) (cE (.str ("any" :Str))))) u0) (j0 (ifS (R1 (aB3 (o7 (q15 o6 (q13 (c7 0) (q13 (cE (.ty "tuple")) q14)))) (o8 (d7 eqD (q15 W8 (q13 (c7 0) q14)) (cE (.int 5)))))) (t8 (cE (.bl false))) u0) (j0 (ifS (R1 (aB3 (o7 (q15 (fnX 1 aH7) (q13 (d7 ixD (c7 0) (cE (.int 0))) q14))) (aB3 (o7 (q15 (fnX 1 aJ8) (q13 (d7 ixD (c7 0) (cE (.int 1))) q14))) (o7 (q15 (fnX 1 aG1) (q13 (d7 ixD (c7 0) (cE (.int 2))) q14)))))) (t8 (cE (.bl false))) u0) (t8 (aB4 (q15 (fnX 1 Z8) (q13 (d7 ixD (c7 0) (cE (.int 3))) q14)) (q15 (fnX 1 V1) (q13 (d7 ixD (c7 0) (cE (.int 4))) q14))))))
def aD1:List D->M D:=K4 1 aN1
def IL:Fs:=(ifS (o8 (d7 aC1 (d7 ixD (c7 0) (cE (.int 3))) (cE .non))) (aU4 (mtE X4 aQ4 (c7 1) (q13 (d7 Q3 (q15 bH9 (q13 (d7 ixD (d7 ixD (c7 0) (cE (.int 3))) (cE (.int 0))) q14)) (M6 (q13 (d7 ixD (d7 ixD (c7 0) (cE (.int 3))) (cE (.int 1))) q14))) q14))) u0)
def IR:Fs:=(ifS (o8 (d7 aC1 (d7 ixD (c7 0) (cE (.int 4))) (cE .non))) (aU4 (mtE X4 aQ4 (c7 1) (q13 (d7 Q3 (Q0 (itW (d7 ixD (d7 ixD (c7 0) (cE (.int 4))) (cE (.int 0)))) [none] (q16 0) (aA2) (d7 ixD (c7 0) (cE (.int 2)))) (M6 (q13 (d7 ixD (d7 ixD (c7 0) (cE (.int 4))) (cE (.int 1))) q14))) q14))) u0)
def aA9:Fs:=j0 (K3 (M6 q14) (q16 1)) (j0 (ifS (o8 (d7 eqD (c7 0) (cE (.str ("any" :Str))))) (t8 (c7 1)) u0) (j0 IL (j0 IR (t8 (c7 1)))))
def T9:List D->M D:=K4 2 aA9
def bI4:Fs:=j0 (ifS (o8 (d7 eqD (c7 0) (cE (.str ("any" :Str))))) (t8 (v7 (q13 (cE (.str ("any" :Str))) q14))) u0) (j0 (K3 (ifE (o8 (d7 cC7 (d7 ixD (c7 0) (cE (.int 3))) (cE .non))) (cE .non) (q15 W8 (q13 (d7 ixD (d7 ixD (c7 0) (cE (.int 3))) (cE (.int 0))) q14))) (q16 1)) (j0 (K3 (ifE (o8 (d7 cC7 (d7 ixD (c7 0) (cE (.int 4))) (cE .non))) (cE .non) (Q0 (itW (d7 ixD (d7 ixD (c7 0) (cE (.int 4))) (cE (.int 0)))) [none] (q16 0) (aA2) (v7 (q13 (d7 ixD (c7 0) (cE (.int 0))) (q13 (d7 ixD (c7 0) (cE (.int 1))) q14))))) (q16 2)) (t8 (v7 (q13 (d7 ixD (c7 0) (cE (.int 0))) (q13 (d7 ixD (c7 0) (cE (.int 1))) (q13 (d7 ixD (c7 0) (cE (.int 2))) (q13 (c7 1) (q13 (c7 2) q14)))))))))
def aD6:List D->M D:=K4 3 bI4
def Z1:Fs:=(K3 (mtE X4 eO5 (c7 2) q14) (q16 3))
def Z2:Fs:=(ifS (o8 (d7 neD (q15 (fnX 1 aD6) (q13 (d7 ixD (c7 3) (cE (.int 0))) q14)) (q15 (fnX 1 aD6) (q13 (d7 ixD (c7 3) (cE (.int 1))) q14)))) (t8 (cE (.bl false))) u0)
def Z3:Fs:=(aU4 (mtE X4 aQ4 (c7 2) (q13 (q15 bR3 (q13 (q15 (fnX 1 T9) (q13 (d7 ixD (c7 3) (cE (.int 0))) q14)) (q13 (q15 (fnX 1 T9) (q13 (d7 ixD (c7 3) (cE (.int 1))) q14)) q14))) q14)))
def aU9:Fs:=j0 (K3 (M6 (q13 (v7 (q13 (c7 0) (q13 (c7 1) q14))) q14)) (q16 2)) (j0 (bC6 (o7 (c7 2)) (j0 Z1 (j0 Z2 Z3))) (t8 (cE (.bl true))))
def aP6:List D->M D:=K4 4 aU9
def bW0:Fs:=t8 (ifE (o7 (d7 ixD (c7 0) (cE (.int 1)))) (d7 neD (d7 ixD (c7 0) (cE (.int 2))) (cE (.tup [.tup [],.tup [.str ("of" :Str),.tup []],.tup [],.non,.non]))) (cD1 (q15 (fnX 2 aP6) (q13 (d7 ixD (c7 0) (cE (.int 2))) (q13 (c7 1) q14)))))
def aZ5:List D->M D:=K4 2 bW0
def OF1:Fs:=(ifS (o8 (d7 eqD (c7 0) (cE (.str ("any" :Str))))) (t8 (cE (.bl true))) u0)
def OF2:Fs:=(ifS (aB3 (o8 (d7 aC1 (d7 ixD (c7 0) (cE (.int 3))) (cE .non))) (R1 (o7 (q15 aY1 (q13 (Q0 (itW (d7 ixD (d7 ixD (c7 0) (cE (.int 3))) (cE (.int 0)))) [none] (q16 0) (aA2) (d7 neD (c7 0) (cE (.tup [.tup [],.tup [.str ("of" :Str),.tup []],.tup [],.non,.non])))) q14))))) (t8 (cE (.bl false))) u0)
def OF3:Fs:=(ifS (aB3 (o8 (d7 aC1 (d7 ixD (c7 0) (cE (.int 4))) (cE .non))) (R1 (o7 (q15 aY1 (q13 (Q0 (itW (d7 ixD (d7 ixD (c7 0) (cE (.int 4))) (cE (.int 0)))) [none,some 0] (q16 0) (aA2) (q15 (fnX 2 aZ5) (q13 (c7 0) (q13 (d7 ixD (d7 ixD (c7 1) (cE (.int 4))) (cE (.int 1))) q14)))) q14))))) (t8 (cE (.bl false))) u0)
def OF4:Fs:=(t8 (d7 neD (c7 0) (cE (.tup [.tup [.tup [.non,.non]],.tup [.str ("but" :Str),.tup []],.tup [.bl false,.bl true],.tup [.tup [],.str ("any" :Str)],.tup [.tup [],.str ("any" :Str)]]))))
def aN5:Fs:=j0 OF1 (j0 OF2 (j0 OF3 OF4))
def X6:List D->M D:=K4 1 aN5
def V2:Fs:=(ifS (R1 (o7 (q15 (fnX 1 aD1) (q13 (c7 3) q14)))) (t8 (cE (.bl false))) u0)
def V3:Fs:=(aU4 (mtE X4 aR3 (c7 1) (q13 (c7 3) q14)))
def V4:Fs:=(aU4 (mtE X4 aQ4 (c7 2) (q13 (q15 (fnX 1 T9) (q13 (c7 3) q14)) q14)))
def bM5:Fs:=j0 (K3 (M6 q14) (q16 1)) (j0 (K3 (M6 (q13 (c7 0) q14)) (q16 2)) (j0 (bC6 (o7 (c7 2)) (j0 Z1 (j0 V2 (j0 V3 V4)))) (t8 (q15 aY1 (q13 (Q0 (itW (c7 1)) [none] (q16 0) (aA2) (q15 (fnX 1 X6) (q13 (c7 0) q14))) q14)))))
def aE8:List D->M D:=K4 4 bM5
def aY6:Fs:=j0 (K3 (cE (.int 0)) (q16 3)) (j0 (ifS (o8 (d7 neD (c7 0) (M6 q14))) (K3 (d7 cA4 (q15 dO9 (q13 (c7 0) q14)) (cE (.int 2))) (q16 3)) u0) (t8 (M6 (q13 (c7 1) (q13 (d7 cA4 (d7 bP9 (d7 Q3 (d7 Q3 (d7 cA4 (c7 1) (cE (.int 2147483629))) (d7 bP9 (cE (.int 7919)) (c7 2))) (cE (.int 1))) (cE (.int 48271))) (cE (.int 2147483647))) (q13 (c7 3) (q13 (cE (.int 0)) q14)))))))
def aK5:List D->M D:=K4 4 aY6
def bB4:Fs:=j0 (ifS (o8 (d7 eqD (d7 ixD (c7 0) (cE (.int 2))) (cE (.int 0)))) (j0 (K3 (d7 cA4 (d7 ixD (c7 0) (cE (.int 0))) (c7 1)) (q16 2)) (j0 (K3 (d7 cV0 (d7 ixD (c7 0) (cE (.int 0))) (c7 1)) (bT6 (c7 0) (cE (.int 0)))) (t8 (c7 2)))) u0) (j0 (K3 (d7 Q3 (d7 cA4 (d7 bP9 (d7 ixD (c7 0) (cE (.int 1))) (d7 ixD (c7 0) (cE (.int 1)))) (cE (.int 2147483629))) (cE (.int 3))) (bT6 (c7 0) (cE (.int 1)))) (t8 (d7 cA4 (d7 cV0 (d7 cA4 (d7 bP9 (d7 ixD (c7 0) (cE (.int 1))) (cE (.int 69621))) (cE (.int 2147483563))) (cE (.int 8))) (c7 1))))
def d8:List D->M D:=K4 3 bB4
def LT:Fs:=(K3 (d7 Q3 (c7 3) (d7 ixD (cE (.str ("abcdefghijklmnopqrstuvwxyz" :Str))) (q15 (fnX 2 d8) (q13 (c7 0) (q13 (cE (.int 26)) q14))))) (q16 3))
def aG7:Fs:=j0 (K3 (cE (.str ("" :Str))) (q16 3)) (j0 (aS1 (aG0 (q13 (d7 Q3 (c7 1) (q15 (fnX 2 d8) (q13 (c7 0) (q13 (d7 Q3 (d7 bB6 (c7 2) (c7 1)) (cE (.int 1))) q14)))) q14)) (q16 4) LT) (t8 (c7 3)))
def U8:List D->M D:=K4 5 aG7
def NB:Fs:=(j0 (K3 (d7 ixD (M6 (q13 (cE (.str ("a" :Str))) (q13 (cE (.str ("b" :Str))) (q13 (cE (.str ("ab" :Str))) (q13 (cE (.str ("ba" :Str))) (q13 (cE (.str ("abc" :Str))) (q13 (cE (.str ("z" :Str))) (q13 (cE (.str ("zz" :Str))) (q13 (cE (.str ("zzzzzzzz" :Str))) q14))))))))) (q15 (fnX 2 d8) (q13 (c7 0) (q13 (cE (.int 8)) q14)))) (q16 3)) (j0 (ifS (o8 (d7 eqD (q15 (fnX 2 d8) (q13 (c7 0) (q13 (cE (.int 3)) q14))) (cE (.int 1)))) (K3 (q15 (fnX 3 U8) (q13 (c7 0) (q13 (cE (.int 1)) (q13 (cE (.int 8)) q14)))) (q16 3)) u0) (K3 (cE (.bl true)) (bT6 (c7 1) (c7 3)))))
def aM5:Fs:=j0 (K3 (aK8) (q16 1)) (j0 (aS1 (aG0 (q13 (q15 (fnX 2 d8) (q13 (c7 0) (q13 (d7 ixD (M6 (q13 (cE (.int 4)) (q13 (cE (.int 9)) q14))) (q15 (fnX 2 d8) (q13 (c7 0) (q13 (cE (.int 2)) q14)))) q14))) q14)) (q16 2) NB) (t8 (q15 aK4 (q13 (c7 1) q14))))
def aA5:List D->M D:=K4 4 aM5
def aR4:Fs:=j0 (ifS (o8 (d7 eqD (q15 (fnX 2 d8) (q13 (c7 0) (q13 (cE (.int 3)) q14))) (cE (.int 1)))) (t8 (d7 bB6 (q15 (fnX 2 d8) (q13 (c7 0) (q13 (d7 Q3 (d7 bP9 (cE (.int 2)) (d7 dA9 (cE (.int 10)) (cE (.int 18)))) (cE (.int 1))) q14))) (d7 dA9 (cE (.int 10)) (cE (.int 18))))) u0) (t8 (d7 ixD (M6 (q13 (cE (.int 0)) (q13 (cE (.int 1)) (q13 (unE cT8 (cE (.int 1))) (q13 (cE (.int 2)) (q13 (unE cT8 (cE (.int 2))) (q13 (cE (.int 3)) (q13 (cE (.int 10)) (q13 (unE cT8 (cE (.int 10))) (q13 (d7 dA9 (cE (.int 10)) (cE (.int 18))) (q13 (d7 bB6 (cE (.int 0)) (d7 dA9 (cE (.int 10)) (cE (.int 18)))) q14))))))))))) (q15 (fnX 2 d8) (q13 (c7 0) (q13 (cE (.int 10)) q14)))))
def W5:List D->M D:=K4 1 aR4
def SA:Fs:=(j0 (K3 (d7 Q3 (d7 Q3 (c7 2) (cE (.int 2))) (q15 (fnX 2 d8) (q13 (c7 0) (q13 (d7 ixD (M6 (q13 (cE (.int 3)) (q13 (cE (.int 50)) q14))) (q15 (fnX 2 d8) (q13 (c7 0) (q13 (cE (.int 2)) q14)))) q14)))) (q16 2)) (j0 (K3 (d7 Q3 (c7 2) (d7 ixD (M6 (q13 (cE (.int 0)) (q13 (cE (.int 1)) (q13 (q15 (fnX 2 d8) (q13 (c7 0) (q13 (cE (.int 20)) q14))) q14)))) (q15 (fnX 2 d8) (q13 (c7 0) (q13 (cE (.int 3)) q14))))) (q16 5)) (j0 (aU4 (mtE X4 aR3 (c7 3) (q13 (v7 (q13 (c7 2) (q13 (c7 5) q14))) q14))) (K3 (c7 5) (q16 2)))))
def SC:Fs:=(ifS (aB3 (o8 (d7 neD (c7 3) (M6 q14))) (o8 (d7 eqD (q15 (fnX 2 d8) (q13 (c7 0) (q13 (cE (.int 3)) q14))) (cE (.int 1))))) (K3 (v7 (q13 (cE .non) (q13 (d7 ixD (d7 ixD (c7 3) (cE (.int 0))) (cE (.int 1))) q14))) (bT6 (c7 3) (cE (.int 0)))) u0)
def SD:Fs:=(ifS (aB3 (o8 (d7 neD (c7 3) (M6 q14))) (o8 (d7 eqD (q15 (fnX 2 d8) (q13 (c7 0) (q13 (cE (.int 3)) q14))) (cE (.int 1))))) (K3 (v7 (q13 (d7 ixD (d7 ixD (c7 3) (unE cT8 (cE (.int 1)))) (cE (.int 0))) (q13 (cE .non) q14))) (bT6 (c7 3) (unE cT8 (cE (.int 1))))) u0)
def aD4:Fs:=j0 (K3 (q15 dL0 (q13 (d7 bB6 (d7 dA9 (cE (.int 10)) (cE (.int 18))) (cE (.int 1000))) (q13 (q15 (fnX 1 W5) (q13 (c7 0) q14)) q14))) (q16 2)) (j0 (K3 (M6 q14) (q16 3)) (j0 (aS1 (aG0 (q13 (q15 (fnX 2 d8) (q13 (c7 0) (q13 (d7 Q3 (c7 1) (cE (.int 1))) q14))) q14)) (q16 4) SA) (j0 SC (j0 SD (t8 (q15 aL8 (q13 (c7 3) q14)))))))
def Q4:List D->M D:=K4 6 aD4
def aY4:Fs:=j0 (ifS (o8 (d7 eqD (q15 (fnX 2 d8) (q13 (c7 0) (q13 (cE (.int 3)) q14))) (cE (.int 1)))) (t8 (q15 (fnX 3 U8) (q13 (c7 0) (q13 (cE (.int 0)) (q13 (cE (.int 20)) q14))))) u0) (t8 (d7 ixD (M6 (q13 (cE (.str ("" :Str))) (q13 (cE (.str ("a" :Str))) (q13 (cE (.str ("b" :Str))) (q13 (cE (.str ("aa" :Str))) (q13 (cE (.str ("ab" :Str))) (q13 (cE (.str ("ba" :Str))) (q13 (cE (.str ("abc" :Str))) (q13 (cE (.str ("z" :Str))) (q13 (cE (.str ("true" :Str))) (q13 (d7 bP9 (cE (.str ("z" :Str))) (cE (.int 20))) q14))))))))))) (q15 (fnX 2 d8) (q13 (c7 0) (q13 (cE (.int 10)) q14)))))
def aK7:List D->M D:=K4 1 aY4
def WA:Fs:=(K3 (cE (.bl true)) (bT6 (c7 2) (q15 (fnX 1 aK7) (q13 (c7 0) q14))))
def WB:Fs:=(K3 (d7 Q3 (c7 4) (q15 aK4 (q13 (Q0 (itW (c7 2)) [none,some 5] (q16 0) (o8 (d7 eqD (q15 W8 (q13 (c7 0) q14)) (c7 1))) (c7 0)) q14))) (q16 4))
def aW3:Fs:=j0 (K3 (aK8) (q16 2)) (j0 (aS1 (aG0 (q13 (q15 (fnX 2 d8) (q13 (c7 0) (q13 (d7 Q3 (c7 1) (cE (.int 1))) q14))) q14)) (q16 3) WA) (j0 (K3 (M6 q14) (q16 4)) (j0 (aS1 (aG0 (q13 (cE (.int 21)) q14)) (q16 5) WB) (t8 (v7 (q13 (d7 ixD (M6 (q13 (cE (.str ("of" :Str))) (q13 (cE (.str ("but" :Str))) q14))) (q15 (fnX 2 d8) (q13 (c7 0) (q13 (cE (.int 2)) q14)))) (q13 (q15 aL8 (q13 (c7 4) q14)) q14)))))))
def aC8:List D->M D:=K4 6 aW3
def aP0:Fs:=t8 (v7 (q13 (v7 q14) (q13 (v7 (q13 (cE (.str ("of" :Str))) (q13 (v7 q14) q14))) (q13 (v7 q14) (q13 (cE .non) (q13 (cE .non) q14))))))
def o4:List D->M D:=K4 0 aP0
def FA:Fs:=(ifS (aB3 (o8 (d7 aC1 (c7 3) (cE .non))) (o8 (d7 inX (q15 (fnX 0 o4) q14) (d7 ixD (c7 3) (cE (.int 0)))))) (K3 (cE .non) (q16 3)) u0)
def FB:Fs:=(ifS (aB3 (o8 (d7 aC1 (c7 4) (cE .non))) (o8 (d7 neD (Q0 (itW (d7 ixD (c7 4) (cE (.int 0)))) [none] (q16 0) (aB3 (o7 (d7 ixD (c7 0) (cE (.int 1)))) (o8 (d7 eqD (d7 ixD (c7 0) (cE (.int 2))) (q15 (fnX 0 o4) q14)))) (c7 0)) (M6 q14)))) (K3 (cE .non) (q16 4)) u0)
def FC:Fs:=(ifS (o8 (d7 aC1 (c7 4) (cE .non))) (K3 (v7 (q13 (q15 aL8 (q13 (Q0 (itW (d7 ixD (c7 4) (cE (.int 0)))) [none,some 4] (q16 0) (orT (o7 (d7 ixD (c7 0) (cE (.int 1)))) (o8 (d7 neD (d7 ixD (c7 0) (cE (.int 2))) (d7 ixD (c7 1) (cE (.int 1)))))) (c7 0)) q14)) (q13 (d7 ixD (c7 4) (cE (.int 1))) q14))) (q16 4)) u0)
def FE:Fs:=(K3 (v7 (q13 (c7 0) (q13 (c7 1) (q13 (c7 2) (q13 (c7 3) (q13 (c7 4) q14)))))) (q16 5))
def FF':Fs:=(K3 (v7 (q13 (v7 (q13 (v7 (q13 (cE .non) (q13 (cE .non) q14))) q14)) (q13 (v7 (q13 (cE (.str ("but" :Str))) (q13 (v7 q14) q14))) (q13 (v7 (q13 (cE (.bl false)) (q13 (cE (.bl true)) q14))) (q13 (v7 (q13 (v7 q14) (q13 (cE (.str ("any" :Str))) q14))) (q13 (v7 (q13 (v7 q14) (q13 (cE (.str ("any" :Str))) q14))) q14)))))) (q16 6))
def FG':Fs:=(t8 (ifE (o8 (d7 eqD (c7 5) (c7 6))) (cE (.str ("any" :Str))) (c7 5)))
def bF1:Fs:=j0 FA (j0 FB (j0 FC (j0 FE (j0 FF' FG'))))
def K8:List D->M D:=K4 7 bF1
def bH4(R:List D->M D):Fs:=j0 (K3 (d7 ixD (M6 (q13 (v7 q14) (q13 (v7 (q13 (v7 (q13 (cE .non) (q13 (cE .non) q14))) q14)) (q13 (q15 (fnX 2 Q4) (q13 (c7 0) (q13 (cE (.int 3)) q14))) q14)))) (q15 (fnX 2 d8) (q13 (c7 0) (q13 (cE (.int 3)) q14)))) (q16 2)) (j0 (K3 (d7 ixD (M6 (q13 (v7 (q13 (cE (.str ("of" :Str))) (q13 (v7 q14) q14))) (q13 (v7 (q13 (cE (.str ("but" :Str))) (q13 (v7 q14) q14))) (q13 (q15 (fnX 2 aC8) (q13 (c7 0) (q13 (cE (.int 3)) q14))) q14)))) (q15 (fnX 2 d8) (q13 (c7 0) (q13 (cE (.int 3)) q14)))) (q16 3)) (j0 (K3 (d7 ixD (M6 (q13 (v7 q14) (q13 (v7 (q13 (cE (.bl false)) q14)) (q13 (v7 (q13 (cE (.bl true)) q14)) (q13 (v7 (q13 (cE (.bl false)) (q13 (cE (.bl true)) q14))) q14))))) (q15 (fnX 2 d8) (q13 (c7 0) (q13 (cE (.int 4)) q14)))) (q16 4)) (t8 (d7 Q3 (v7 (q13 (c7 2) (q13 (c7 3) (q13 (c7 4) q14)))) (q15 (fnX 2 R) (q13 (c7 0) (q13 (c7 1) q14)))))))
def aJ5(R:List D->M D):List D->M D:=K4 5 (bH4 R)
def bG3(R:List D->M D):Fs:=j0 (K3 (d7 Q3 (d7 ixD (c7 0) (cE (.int 3))) (cE (.int 1))) (bT6 (c7 0) (cE (.int 3)))) (j0 (K3 (q15 (fnX 2 d8) (q13 (c7 0) (q13 (cE (.int 6)) q14))) (q16 2)) (j0 (ifS (o8 (d7 ltD (c7 2) (cE (.int 2)))) (t8 (d7 ixD (M6 (q13 (cE (.str ("any" :Str))) (q13 (q15 (fnX 0 o4) q14) q14))) (c7 2))) u0) (j0 (K3 (q15 (fnX 2 (aJ5 R)) (q13 (c7 0) (q13 (c7 1) q14))) (cB8 5 (aD9 (q16 3) (aD9 (q16 4) (aD9 (q16 5) (aD9 (q16 6) (aD9 (q16 7) (cC6)))))))) (t8 (q15 (fnX 5 K8) (q13 (c7 3) (q13 (c7 4) (q13 (c7 5) (q13 (c7 6) (q13 (c7 7) q14))))))))))
def W4(R:List D->M D):List D->M D:=K4 8 (bG3 R)
def PD(R:List D->M D):Fs:=(aU4 (mtE X4 aR3 (c7 4) (q13 (v7 (q13 (c7 5) (q13 (d7 eqD (q15 (fnX 2 d8) (q13 (c7 0) (q13 (cE (.int 2)) q14))) (cE (.int 1))) (q13 (q15 (fnX 2 (W4 R)) (q13 (c7 0) (q13 (d7 bB6 (c7 1) (cE (.int 1))) q14))) q14)))) q14)))
def PL(R:List D->M D):Fs:=(ifS (aB3 (o8 (d7 gtD (c7 1) (cE (.int 1)))) (aB3 (o8 (d7 ltD (d7 ixD (c7 0) (cE (.int 3))) (cE (.int 25)))) (o8 (d7 eqD (q15 (fnX 2 d8) (q13 (c7 0) (q13 (cE (.int 2)) q14))) (cE (.int 1)))))) (K3 (v7 (q13 (q15 aL8 (q13 (Q0 (aG0 (q13 (q15 (fnX 2 d8) (q13 (c7 0) (q13 (cE (.int 4)) q14))) q14)) [none,some 1,some 0] (q16 0) (aA2) (q15 (fnX 2 (W4 R)) (q13 (c7 2) (q13 (d7 bB6 (c7 1) (cE (.int 1))) q14)))) q14)) (q13 (q15 (fnX 2 (W4 R)) (q13 (c7 0) (q13 (d7 bB6 (c7 1) (cE (.int 1))) q14))) q14))) (q16 2)) u0)
def PR(R:List D->M D):Fs:=(ifS (aB3 (o8 (d7 gtD (c7 1) (cE (.int 1)))) (aB3 (o8 (d7 ltD (d7 ixD (c7 0) (cE (.int 3))) (cE (.int 25)))) (o8 (d7 eqD (q15 (fnX 2 d8) (q13 (c7 0) (q13 (cE (.int 2)) q14))) (cE (.int 1)))))) (j0 (K3 (M6 q14) (q16 4)) (j0 (aS1 (itW (P0 (q15 (fnX 1 aA5) (q13 (c7 0) q14)) (Q6) (T5 (cE (.int 4))))) (q16 5) (PD R)) (K3 (v7 (q13 (q15 aL8 (q13 (c7 4) q14)) (q13 (q15 (fnX 2 (W4 R)) (q13 (c7 0) (q13 (d7 bB6 (c7 1) (cE (.int 1))) q14))) q14))) (q16 3)))) u0)
def Z7(R:List D->M D):Fs:=j0 (K3 (cE .non) (q16 2)) (j0 (K3 (cE .non) (q16 3)) (j0 (PL R) (j0 (PR R) (t8 (v7 (q13 (c7 2) (q13 (c7 3) q14)))))))
def aD7:Nat->List D->M D
 |0=>λ_=>M.stuck
 |n+1=>K4 6 (Z7 (aD7 n))
def Z9:List D->M D:=aD7 10
def aP1:List D->M D:=aJ5 Z9
def aN8:List D->M D:=W4 Z9
def SP0:Fs:=(K3 (q15 (fnX 0 o4) q14) (q16 2))
def SP1:Fs:=(K3 (v7 (q13 (v7 (q13 (v7 (q13 (cE .non) (q13 (cE .non) q14))) q14)) (q13 (v7 (q13 (cE (.str ("but" :Str))) (q13 (v7 q14) q14))) (q13 (v7 (q13 (cE (.bl false)) (q13 (cE (.bl true)) q14))) (q13 (v7 (q13 (v7 q14) (q13 (cE (.str ("any" :Str))) q14))) (q13 (v7 (q13 (v7 q14) (q13 (cE (.str ("any" :Str))) q14))) q14)))))) (q16 3))
def SP2:Fs:=(ifS (orT (R1 (o7 (q15 o6 (q13 (c7 1) (q13 (cE (.ty "tuple")) q14))))) (orT (o8 (d7 neD (q15 W8 (q13 (c7 1) q14)) (cE (.int 5)))) (o8 (d7 eqD (q15 (fnX 2 d8) (q13 (c7 0) (q13 (cE (.int 8)) q14))) (cE (.int 0)))))) (j0 (K3 (M6 (q13 (cE (.str ("any " :Str))) (q13 (cE (.str ("Any" :Str))) (q13 (cE (.str ("" :Str))) (q13 (cE .non) (q13 (v7 (q13 (cE (.str ("any" :Str))) q14)) (q13 (M6 (q13 (cE (.str ("any" :Str))) q14)) (q13 (c7 3) (q13 (cE (.int 5)) (q13 (aK8) (q13 (cE (.bl true)) (q13 (P0 (c7 2) (Q6) (T5 (cE (.int 4)))) (q13 (d7 Q3 (c7 2) (v7 (q13 (cE .non) q14))) (q13 (q15 bH9 (q13 (c7 2) q14)) q14)))))))))))))) (q16 4)) (t8 (d7 ixD (c7 4) (q15 (fnX 2 d8) (q13 (c7 0) (q13 (cE (.int 13)) q14)))))) u0)
def SP3:Fs:=(K3 (q15 (fnX 2 d8) (q13 (c7 0) (q13 (cE (.int 5)) q14))) (q16 5))
def SP4:Fs:=(K3 (M6 (q13 (cE .non) (q13 (M6 q14) (q13 (cE (.str ("" :Str))) (q13 (cE (.int 5)) (q13 (cE (.bl true)) (q13 (v7 (q13 (cE .non) q14)) (q13 (v7 (q13 (v7 q14) q14)) (q13 (aK8) (q13 (cE (.str ("any" :Str))) (q13 (v7 (q13 (cE (.int 0)) (q13 (cE (.int 1)) q14))) (q13 (v7 (q13 (cE (.int 1)) q14)) (q13 (v7 (q13 (cE (.bl true)) (q13 (cE (.bl false)) q14))) (q13 (v7 (q13 (cE (.bl true)) (q13 (cE (.bl true)) q14))) q14)))))))))))))) (q16 4))
def SP5:Fs:=(K3 (d7 Q3 (c7 4) (M6 (q13 (v7 (q13 (v7 (q13 (cE (.int 1)) (q13 (cE (.int 2)) q14))) (q13 (v7 (q13 (cE (.int 3)) (q13 (cE (.int 4)) q14))) q14))) (q13 (v7 (q13 (cE (.str ("of" :Str))) (q13 (v7 (q13 (cE (.str ("b" :Str))) (q13 (cE (.str ("a" :Str))) q14))) q14))) (q13 (v7 (q13 (cE (.str ("but" :Str))) (q13 (M6 (q13 (cE (.str ("a" :Str))) q14)) q14))) (q13 (v7 (q13 (cE (.str ("of" :Str))) (q13 (v7 (q13 (cE (.str ("a" :Str))) (q13 (cE (.str ("a" :Str))) q14))) q14))) (q13 (v7 (q13 (v7 (q13 (cE (.int 2)) (q13 (cE (.int 1)) q14))) q14)) q14))))))) (q16 4))
def SP6:Fs:=(K3 (d7 ixD (c7 4) (q15 (fnX 2 d8) (q13 (c7 0) (q13 (cE (.int 18)) q14)))) (q16 6))
def SP7(R:List D->M D):Fs:=(ifS (aB3 (o8 (d7 gtD (c7 5) (cE (.int 2)))) (aB3 (o7 (q15 o6 (q13 (d7 ixD (c7 1) (c7 5)) (q13 (cE (.ty "tuple")) q14)))) (aB3 (o8 (d7 eqD (q15 W8 (q13 (d7 ixD (c7 1) (c7 5)) q14)) (cE (.int 2)))) (o7 (q15 o6 (q13 (d7 ixD (d7 ixD (c7 1) (c7 5)) (cE (.int 0))) (q13 (cE (.ty "tuple")) q14))))))) (K3 (q15 (fnX 3 R) (q13 (c7 0) (q13 (d7 ixD (c7 1) (c7 5)) (q13 (d7 eqD (c7 5) (cE (.int 4))) q14)))) (q16 6)) u0)
def SP8:Fs:=(t8 (d7 Q3 (d7 Q3 (P0 (c7 1) (Q6) (T5 (c7 5))) (v7 (q13 (c7 6) q14))) (P0 (c7 1) (T5 (d7 Q3 (c7 5) (cE (.int 1)))) (Q6))))
def aK1(R:List D->M D):Fs:=j0 SP0 (j0 SP1 (j0 SP2 (j0 SP3 (j0 SP4 (j0 SP5 (j0 SP6 (j0 (SP7 R) SP8)))))))
def R3(R:List D->M D):List D->M D:=K4 7 (aK1 R)
def BP0:Fs:=(K3 (c7 1) (cB8 2 (aD9 (q16 3) (aD9 (q16 4) (cC6)))))
def BP1:Fs:=(K3 (q15 (fnX 0 o4) q14) (q16 5))
def BP2:Fs:=(K3 (q15 (fnX 2 d8) (q13 (c7 0) (q13 (cE (.int 8)) q14))) (q16 6))
def BP3:Fs:=(ifS (o8 (d7 eqD (c7 6) (cE (.int 0)))) (j0 (K3 (M6 (q13 (P0 (c7 1) (Q6) (T5 (cE (.int 1)))) (q13 (d7 Q3 (c7 1) (v7 (q13 (c7 4) q14))) (q13 (q15 bH9 (q13 (c7 1) q14)) (q13 (v7 (q13 (q15 bH9 (q13 (c7 3) q14)) (q13 (c7 4) q14))) (q13 (v7 (q13 (c7 4) (q13 (c7 3) q14))) (q13 (v7 (q13 (c7 3) (q13 (cE .non) q14))) (q13 (c7 4) (q13 (cE (.int 7)) q14))))))))) (q16 7)) (t8 (d7 ixD (c7 7) (q15 (fnX 2 d8) (q13 (c7 0) (q13 (cE (.int 8)) q14)))))) u0)
def BP4(R:List D->M D):Fs:=(ifS (o8 (d7 eqD (c7 6) (cE (.int 1)))) (t8 (v7 (q13 (c7 3) (q13 (q15 (fnX 2 (R3 R)) (q13 (c7 0) (q13 (c7 4) q14))) q14)))) u0)
def BP5:Fs:=(ifS (o8 (d7 eqD (c7 3) (v7 q14))) (t8 (v7 (q13 (v7 (q13 (d7 ixD (M6 (q13 (c7 5) (q13 (v7 (q13 (cE (.str ("a" :Str))) (q13 (d7 gtD (c7 6) (cE (.int 3))) (q13 (d7 ixD (M6 (q13 (c7 5) (q13 (c7 4) q14))) (q15 (fnX 2 d8) (q13 (c7 0) (q13 (cE (.int 2)) q14)))) q14)))) q14))) (q15 cQ1 (q13 (c7 2) q14))) q14)) (q13 (c7 4) q14)))) u0)
def BP6:Fs:=(K3 (q15 (fnX 2 d8) (q13 (c7 0) (q13 (q15 W8 (q13 (c7 3) q14)) q14))) (q16 8))
def BP7:Fs:=(K3 (d7 ixD (c7 3) (c7 8)) (q16 9))
def BP8(R:List D->M D):Fs:=(ifS (R1 (o7 (c7 2))) (t8 (v7 (q13 (d7 Q3 (d7 Q3 (P0 (c7 3) (Q6) (T5 (c7 8))) (v7 (q13 (d7 ixD (M6 (q13 (c7 5) (q13 (q15 (fnX 2 (R3 R)) (q13 (c7 0) (q13 (c7 9) q14))) q14))) (q15 cQ1 (q13 (d7 gtD (c7 6) (cE (.int 3))) q14))) q14))) (P0 (c7 3) (T5 (d7 Q3 (c7 8) (cE (.int 1)))) (Q6))) (q13 (c7 4) q14)))) u0)
def BP9:Fs:=(ifS (o8 (d7 eqD (c7 6) (cE (.int 2)))) (t8 (v7 (q13 (unE dS3 (c7 3)) (q13 (c7 4) q14)))) u0)
def eH8:Fs:=(ifS (orT (o8 (d7 eqD (c7 6) (cE (.int 3)))) (orT (R1 (o7 (q15 o6 (q13 (c7 9) (q13 (cE (.ty "tuple")) q14))))) (o8 (d7 neD (q15 W8 (q13 (c7 9) q14)) (cE (.int 3)))))) (t8 (v7 (q13 (d7 Q3 (d7 Q3 (P0 (c7 3) (Q6) (T5 (c7 8))) (v7 (q13 (c7 9) q14))) (P0 (c7 3) (T5 (c7 8)) (Q6))) (q13 (c7 4) q14)))) u0)
def eG4:Fs:=(ifS (orT (R1 (o7 (q15 o6 (q13 (d7 ixD (c7 9) (cE (.int 0))) (q13 (cE (.ty "str")) q14))))) (R1 (o7 (q15 o6 (q13 (d7 ixD (c7 9) (cE (.int 1))) (q13 (cE (.ty "bool")) q14)))))) (t8 (v7 (q13 (d7 Q3 (P0 (c7 3) (Q6) (T5 (c7 8))) (P0 (c7 3) (T5 (d7 Q3 (c7 8) (cE (.int 1)))) (Q6))) (q13 (c7 4) q14)))) u0)
def eJ6:Fs:=(K3 (M6 (q13 (P0 (c7 9) (Q6) (T5 (cE (.int 2)))) (q13 (d7 Q3 (c7 9) (v7 (q13 (cE (.int 0)) q14))) (q13 (q15 bH9 (q13 (c7 9) q14)) (q13 (v7 (q13 (d7 ixD (c7 9) (cE (.int 0))) (q13 (q15 cQ1 (q13 (d7 ixD (c7 9) (cE (.int 1))) q14)) (q13 (d7 ixD (c7 9) (cE (.int 2))) q14)))) (q13 (v7 (q13 (mtE cZ6 upD (d7 ixD (c7 9) (cE (.int 0))) q14) (q13 (d7 ixD (c7 9) (cE (.int 1))) (q13 (d7 ixD (c7 9) (cE (.int 2))) q14)))) q14)))))) (q16 7))
def eM3:Fs:=(K3 (d7 Q3 (c7 7) (M6 (q13 (v7 (q13 (cE (.str ("" :Str))) (q13 (d7 ixD (c7 9) (cE (.int 1))) (q13 (d7 ixD (c7 9) (cE (.int 2))) q14)))) (q13 (v7 (q13 (d7 ixD (c7 9) (cE (.int 0))) (q13 (cE (.bl false)) (q13 (c7 4) q14)))) (q13 (v7 (q13 (d7 ixD (c7 9) (cE (.int 0))) (q13 (cE (.bl true)) (q13 (c7 5) q14)))) (q13 (v7 (q13 (d7 ixD (c7 9) (cE (.int 0))) (q13 (cE (.bl true)) (q13 (c7 4) q14)))) q14)))))) (q16 7))
def eN6(R:List D->M D):Fs:=(aU4 (mtE X4 aR3 (c7 7) (q13 (v7 (q13 (d7 ixD (c7 9) (cE (.int 0))) (q13 (d7 ixD (c7 9) (cE (.int 1))) (q13 (q15 (fnX 2 (R3 R)) (q13 (c7 0) (q13 (d7 ixD (c7 9) (cE (.int 2))) q14))) q14)))) q14)))
def eJ3:Fs:=(t8 (v7 (q13 (d7 Q3 (d7 Q3 (P0 (c7 3) (Q6) (T5 (c7 8))) (v7 (q13 (d7 ixD (c7 7) (q15 (fnX 2 d8) (q13 (c7 0) (q13 (cE (.int 10)) q14)))) q14))) (P0 (c7 3) (T5 (d7 Q3 (c7 8) (cE (.int 1)))) (Q6))) (q13 (c7 4) q14))))
def W0(R:List D->M D):Fs:=j0 BP0 (j0 BP1 (j0 BP2 (j0 BP3 (j0 (BP4 R) (j0 BP5 (j0 BP6 (j0 BP7 (j0 (BP8 R) (j0 BP9 (j0 eH8 (j0 eG4 (j0 eJ6 (j0 eM3 (j0 (eN6 R) eJ3))))))))))))))
def aF2:Nat->List D->M D
 |0=>λ_=>M.stuck
 |n+1=>K4 10 (W0 (aF2 n))
def aL6:List D->M D:=aF2 12
def aB6:List D->M D:=R3 aL6
def NG1:DSt->M Bool:=(orT (R1 (o7 (q15 o6 (q13 (c7 0) (q13 (cE (.ty "tuple")) q14))))) (o8 (d7 neD (Q0 (itW (c7 0)) [none] (q16 0) (orT (R1 (o7 (q15 o6 (q13 (c7 0) (q13 (cE (.ty "tuple")) q14))))) (o8 (d7 neD (q15 W8 (q13 (c7 0) q14)) (cE (.int 2))))) (c7 0)) (M6 q14))))
def NL1:Fs:=(aS1 (itW (c7 0)) (cB8 2 (aD9 (q16 2) (aD9 (q16 3) (cC6)))) (K3 (d7 Q3 (c7 1) (M6 (q13 (c7 2) (q13 (c7 3) q14)))) (q16 1)))
def NG2:DSt->M Bool:=(o8 (d7 neD (Q0 (itW (c7 1)) [none] (q16 0) (aB3 (o8 (d7 aC1 (c7 0) (cE .non))) (orT (R1 (o7 (q15 o6 (q13 (c7 0) (q13 (cE (.ty "int")) q14))))) (o7 (q15 o6 (q13 (c7 0) (q13 (cE (.ty "bool")) q14)))))) (c7 0)) (M6 q14)))
def NG3:DSt->M Bool:=(o8 (d7 inD (cE .non) (P0 (c7 1) (T5 (cE (.int 1))) (T5 (unE cT8 (cE (.int 1)))))))
def NG4:DSt->M Bool:=(aB3 (o8 (d7 aC1 (d7 ixD (c7 1) (d7 bB6 (c7 4) (cE (.int 1)))) (cE .non))) (aB3 (o8 (d7 aC1 (d7 ixD (c7 1) (c7 4)) (cE .non))) (o8 (d7 ltD (d7 bB6 (d7 ixD (c7 1) (c7 4)) (d7 ixD (c7 1) (d7 bB6 (c7 4) (cE (.int 1))))) (d7 ixD (M6 (q13 (cE (.int 2)) (q13 (cE (.int 0)) q14))) (d7 cA4 (c7 4) (cE (.int 2))))))))
def NL2:Fs:=(aS1 (bG5 (q13 (cE (.int 1)) (q13 (q15 W8 (q13 (c7 1) q14)) q14))) (q16 4) (ifS NG4 (t8 (cE (.bl false))) u0))
def aH3:Fs:=j0 (ifS NG1 (t8 (cE (.bl false))) u0) (j0 (K3 (M6 q14) (q16 1)) (j0 NL1 (j0 (ifS NG2 (t8 (cE (.bl false))) u0) (j0 (ifS NG3 (t8 (cE (.bl false))) u0) (j0 NL2 (t8 (cE (.bl true))))))))
def N7:List D->M D:=K4 5 aH3
def TK:Fs:=(j0 (ifS (orT (R1 (o7 (q15 o6 (q13 (c7 2) (q13 (cE (.ty "str")) q14))))) (o8 (d7 neD (Q0 (itW (c7 2)) [none] (q16 0) (o8 (d7 aW5 (c7 0) (cE (.str ("abcdefghijklmnopqrstuvwxyz" :Str))))) (c7 0)) (M6 q14)))) (t8 (cE (.bl false))) u0) (aU4 (mtE X4 aR3 (c7 1) (q13 (v7 (q13 (q15 W8 (q13 (c7 2) q14)) (q13 (c7 2) q14))) q14))))
def TZ:Fs:=(t8 (d7 eqD (Q0 (bG5 (q13 (cE (.int 1)) (q13 (q15 W8 (q13 (c7 1) q14)) q14))) [none,some 1] (q16 0) (o8 (d7 geT (d7 ixD (c7 1) (d7 bB6 (c7 0) (cE (.int 1)))) (d7 ixD (c7 1) (c7 0)))) (c7 0)) (M6 q14)))
def aL4:Fs:=j0 (ifS (orT (R1 (o7 (q15 o6 (q13 (c7 0) (q13 (cE (.ty "tuple")) q14))))) (orT (o8 (d7 neD (q15 W8 (q13 (c7 0) q14)) (cE (.int 2)))) (R1 (o7 (q15 o6 (q13 (d7 ixD (c7 0) (cE (.int 1))) (q13 (cE (.ty "tuple")) q14))))))) (t8 (cE (.bl false))) u0) (j0 (ifS (orT (R1 (o7 (q15 o6 (q13 (d7 ixD (c7 0) (cE (.int 0))) (q13 (cE (.ty "str")) q14))))) (o8 (d7 aW5 (d7 ixD (c7 0) (cE (.int 0))) (M6 (q13 (cE (.str ("of" :Str))) (q13 (cE (.str ("but" :Str))) q14)))))) (t8 (cE (.bl false))) u0) (j0 (K3 (M6 q14) (q16 1)) (j0 (aS1 (itW (d7 ixD (c7 0) (cE (.int 1)))) (q16 2) TK) TZ)))
def R5:List D->M D:=K4 3 aL4
def aI4:Fs:=j0 (ifS (orT (R1 (o7 (q15 o6 (q13 (c7 0) (q13 (cE (.ty "tuple")) q14))))) (o8 (d7 neD (Q0 (itW (c7 0)) [none] (q16 0) (R1 (o7 (q15 o6 (q13 (c7 0) (q13 (cE (.ty "bool")) q14))))) (c7 0)) (M6 q14)))) (t8 (cE (.bl false))) u0) (t8 (dA0 (d7 ltD (q15 W8 (q13 (c7 0) q14)) (cE (.int 2))) (aB4 (d7 eqD (q15 W8 (q13 (c7 0) q14)) (cE (.int 2))) (aB4 (cD1 (d7 ixD (c7 0) (cE (.int 0)))) (d7 ixD (c7 0) (cE (.int 1)))))))
def M9:List D->M D:=K4 1 aI4
def SG1:DSt->M Bool:=(orT (R1 (o7 (q15 o6 (q13 (c7 0) (q13 (cE (.ty "tuple")) q14))))) (orT (o8 (d7 neD (q15 W8 (q13 (c7 0) q14)) (cE (.int 5)))) (R1 (o7 (q15 (fnX 1 N7) (q13 (d7 ixD (c7 0) (cE (.int 0))) q14))))))
def SG2:DSt->M Bool:=(orT (R1 (o7 (q15 (fnX 1 R5) (q13 (d7 ixD (c7 0) (cE (.int 1))) q14)))) (R1 (o7 (q15 (fnX 1 M9) (q13 (d7 ixD (c7 0) (cE (.int 2))) q14)))))
def SG3(R:List D->M D):DSt->M Bool:=(orT (R1 (o7 (q15 (fnX 2 R) (q13 (d7 ixD (c7 0) (cE (.int 3))) (q13 (cE (.bl false)) q14))))) (R1 (o7 (q15 (fnX 2 R) (q13 (d7 ixD (c7 0) (cE (.int 4))) (q13 (cE (.bl true)) q14))))))
def bO1(R:List D->M D):Fs:=j0 (ifS (o7 (q15 o6 (q13 (c7 0) (q13 (cE (.ty "str")) q14)))) (t8 (d7 eqD (c7 0) (cE (.str ("any" :Str))))) u0) (j0 (ifS SG1 (t8 (cE (.bl false))) u0) (j0 (ifS SG2 (t8 (cE (.bl false))) u0) (j0 (ifS (SG3 R) (t8 (cE (.bl false))) u0) (t8 (d7 neD (q15 (fnX 5 K8) (q13 (d7 ixD (c7 0) (cE (.int 0))) (q13 (d7 ixD (c7 0) (cE (.int 1))) (q13 (d7 ixD (c7 0) (cE (.int 2))) (q13 (d7 ixD (c7 0) (cE (.int 3))) (q13 (d7 ixD (c7 0) (cE (.int 4))) q14)))))) (cE (.str ("any" :Str))))))))
def aA0(R:List D->M D):List D->M D:=K4 1 (bO1 R)
def PG1(R:List D->M D):DSt->M Bool:=(orT (R1 (o7 (q15 o6 (q13 (c7 0) (q13 (cE (.ty "tuple")) q14))))) (orT (o8 (d7 neD (q15 W8 (q13 (c7 0) q14)) (cE (.int 2)))) (orT (R1 (o7 (q15 o6 (q13 (d7 ixD (c7 0) (cE (.int 0))) (q13 (cE (.ty "tuple")) q14))))) (R1 (o7 (q15 (fnX 1 (aA0 R)) (q13 (d7 ixD (c7 0) (cE (.int 1))) q14)))))))
def PL1(R:List D->M D):Fe:=(d7 eqD (Q0 (itW (d7 ixD (c7 0) (cE (.int 0)))) [none] (q16 0) (orT (R1 (o7 (q15 (fnX 1 (aA0 R)) (q13 (c7 0) q14)))) (o8 (d7 eqD (c7 0) (q15 (fnX 0 o4) q14)))) (c7 0)) (M6 q14))
def PR1:DSt->M Bool:=(orT (R1 (o7 (q15 o6 (q13 (c7 3) (q13 (cE (.ty "tuple")) q14))))) (orT (o8 (d7 neD (q15 W8 (q13 (c7 3) q14)) (cE (.int 3)))) (orT (R1 (o7 (q15 o6 (q13 (d7 ixD (c7 3) (cE (.int 0))) (q13 (cE (.ty "str")) q14))))) (o8 (d7 leD (d7 ixD (c7 3) (cE (.int 0))) (c7 2))))))
def PR2:DSt->M Bool:=(o8 (d7 neD (Q0 (itW (d7 ixD (c7 3) (cE (.int 0)))) [none] (q16 0) (o8 (d7 aW5 (c7 0) (cE (.str ("abcdefghijklmnopqrstuvwxyz" :Str))))) (c7 0)) (M6 q14)))
def PR3(R:List D->M D):DSt->M Bool:=(orT (R1 (o7 (q15 o6 (q13 (d7 ixD (c7 3) (cE (.int 1))) (q13 (cE (.ty "bool")) q14))))) (orT (R1 (o7 (q15 (fnX 1 (aA0 R)) (q13 (d7 ixD (c7 3) (cE (.int 2))) q14)))) (o8 (d7 eqD (d7 ixD (c7 3) (cE (.int 2))) (d7 ixD (M6 (q13 (d7 ixD (c7 0) (cE (.int 1))) (q13 (q15 (fnX 0 o4) q14) q14))) (q15 cQ1 (q13 (d7 ixD (c7 3) (cE (.int 1))) q14)))))))
def PB'(R:List D->M D):Fs:=j0 (ifS PR1 (t8 (cE (.bl false))) u0) (j0 (ifS PR2 (t8 (cE (.bl false))) u0) (j0 (ifS (PR3 R) (t8 (cE (.bl false))) u0) (K3 (d7 ixD (c7 3) (cE (.int 0))) (q16 2))))
def PF(R:List D->M D):Fs:=(aS1 (itW (d7 ixD (c7 0) (cE (.int 0)))) (q16 3) (PB' R))
def aC5(R:List D->M D):Fs:=j0 (ifS (o8 (d7 cC7 (c7 0) (cE .non))) (t8 (cE (.bl true))) u0) (j0 (ifS (PG1 R) (t8 (cE (.bl false))) u0) (j0 (ifS (R1 (o7 (c7 1))) (t8 (PL1 R)) u0) (j0 (K3 (cE (.str ("" :Str))) (q16 2)) (j0 (PF R) (t8 (cE (.bl true)))))))
def aI1:Nat->List D->M D
 |0=>λ_=>M.stuck
 |n+1=>K4 4 (aC5 (aI1 n))
def aP2:List D->M D:=aI1 16
def bD3:List D->M D:=aA0 aP2
def bB1:Fs:=j0 (K3 (q15 (fnX 1 aE8) (q13 (c7 0) q14)) (q16 1)) (t8 (aB4 (q15 o6 (q13 (c7 1) (q13 (cE (.ty "bool")) q14))) (d7 eqD (c7 1) (q15 (fnX 1 bD3) (q13 (c7 0) q14)))))
def aG3:List D->M D:=K4 2 bB1
def LA0:DSt->M Bool:=(orT (o8 (d7 neD (cE (.str ("any" :Str))) (cE (.str ("any" :Str))))) (orT (o8 (d7 neD (cE (.tup [.tup [],.tup [.str ("of" :Str),.tup []],.tup [],.non,.non])) (q15 (fnX 0 o4) q14))) (R1 (o7 (q15 (fnX 1 aG3) (q13 (c7 1) q14))))))
def LA1:DSt->M Bool:=(orT (o8 (d7 aC1 (q15 (fnX 1 aE8) (q13 (cE (.str ("any" :Str))) q14)) (cE (.bl true)))) (orT (o8 (d7 aC1 (q15 (fnX 1 aE8) (q13 (cE (.tup [.tup [],.tup [.str ("of" :Str),.tup []],.tup [],.non,.non])) q14)) (cE (.bl true)))) (o8 (d7 aC1 (q15 (fnX 1 aE8) (q13 (d7 Q3 (P0 (c7 1) (Q6) (T5 (cE (.int 3)))) (v7 (q13 (cE .non) (q13 (cE .non) q14)))) q14)) (cE (.bl true))))))
def LA2:DSt->M Bool:=(o8 (d7 aC1 (q15 (fnX 1 aE8) (q13 (d7 Q3 (d7 Q3 (P0 (c7 1) (Q6) (T5 (cE (.int 2)))) (v7 (q13 (v7 (q13 (cE (.int 0)) (q13 (cE (.int 1)) q14))) q14))) (P0 (c7 1) (T5 (cE (.int 3))) (Q6))) q14)) (cE (.bl false))))
def LTo:Fs:=(ifS (R1 (o7 (q15 (fnX 1 aG3) (q13 (c7 7) q14)))) (t8 (cE (.bl false))) u0)
def LTh:Fe:=(M6 (q13 (c7 5) (q13 (c7 6) (q13 (q15 (fnX 2 aP1) (q13 (c7 4) (q13 (cE (.int 3)) q14))) (q13 (q15 (fnX 2 aB6) (q13 (c7 4) (q13 (q15 (fnX 2 aN8) (q13 (c7 4) (q13 (cE (.int 3)) q14))) q14))) (q13 (q15 (fnX 2 aB6) (q13 (c7 4) (q13 (c7 6) q14))) q14))))))
def LBo:Fs:=(j0 (K3 (q15 (fnX 3 aK5) (q13 (c7 0) (q13 (c7 3) (q13 (c7 2) q14)))) (q16 4)) (j0 (K3 (q15 (fnX 2 aN8) (q13 (c7 4) (q13 (cE (.int 4)) q14))) (q16 5)) (j0 (K3 (q15 (fnX 2 aB6) (q13 (c7 4) (q13 (c7 5) q14))) (q16 6)) (aS1 (itW LTh) (q16 7) LTo))))
def dC9:Fs:=j0 (K3 (v7 (q13 (v7 (q13 (v7 (q13 (cE .non) (q13 (cE .non) q14))) q14)) (q13 (v7 (q13 (cE (.str ("but" :Str))) (q13 (v7 q14) q14))) (q13 (v7 (q13 (cE (.bl false)) (q13 (cE (.bl true)) q14))) (q13 (v7 (q13 (v7 q14) (q13 (cE (.str ("any" :Str))) q14))) (q13 (v7 (q13 (v7 q14) (q13 (cE (.str ("any" :Str))) q14))) q14)))))) (q16 1)) (j0 (ifS LA0 (t8 (cE (.bl false))) u0) (j0 (ifS LA1 (t8 (cE (.bl false))) u0) (j0 (ifS LA2 (t8 (cE (.bl false))) u0) (j0 (aS1 (bQ2 (q13 (P0 (c7 0) (Q6) (T5 (cE (.int 42)))) q14)) (cB8 2 (aD9 (q16 2) (aD9 (q16 3) (cC6)))) LBo) (t8 (cE (.bl true)))))))
def cS6:List D->M D:=K4 8 dC9
local macro_rules | `(tactic| walk_at "cl") => `(tactic| (refine ⟨?k, ?kk, ?a, ?b, ?c⟩; (case a => first | (dsimp only [Cx.nox, cW3]; with_reducible assumption) | assumption); (case b => assumption); (case c => first | decide | omega)))
local macro_rules | `(tactic| walk_at "ck") => `(tactic| (refine ⟨?k, ?kk, ?kkk, ?a, ?b, ?c, ?d⟩; (case a => assumption); (case b => rfl); (case c => rfl); (case d => decide +kernel)))
local macro_rules | `(tactic| walk_at "od") => `(tactic| first
 |with_reducible exact fH8
 |with_reducible exact fC9
 |with_reducible exact fH1
 |with_reducible exact eF7
 |with_reducible exact eW5
 |with_reducible exact fC2
 |with_reducible exact fX2
 |with_reducible exact fU0
 |with_reducible exact fE2
 |with_reducible exact dN9
 |((with_reducible refine fY7 ?_);exact aG6.units (by assumption))
 |((with_reducible refine fO5 ?_);exact aG6.units (by assumption))
 |((with_reducible refine fU9 ?_);exact aG6.units (by assumption))
 |((with_reducible refine fR6 ?_);exact aG6.units (by assumption))
 |((with_reducible refine fG2 ?_);exact aG6.units (by assumption))
 |((with_reducible refine fF2 ?_);exact aG6.units (by assumption))
 |((with_reducible refine dR5 ?_);exact aG6.units (by assumption)))
local macro_rules | `(tactic| walk_at "bd") => `(tactic| first
 |with_reducible exact fG0
 |with_reducible exact cD3
 |with_reducible exact fB6
 |with_reducible exact fJ0
 |with_reducible exact dY8
 |with_reducible exact eE0
 |with_reducible exact eZ4
 |with_reducible exact fD3
 |with_reducible exact cX1)
local macro_rules | `(tactic| walk_at "da") => `(tactic| first
 |with_reducible exact q19
 |((with_reducible refine gD0 ?_ ?_ ?_);walk_at "de";walk_at "da";rfl))
local macro_rules | `(tactic| walk_at "do") => `(tactic| first
 |with_reducible exact eD9
 |((with_reducible refine eN5 ?_);walk_at "de"))
local macro_rules | `(tactic| walk_at "pk") => `(tactic| first | exact fE9 | ((apply fH4); walk_at "pk"; walk_at "pk"; (unfold dM8; decide); rfl) | ((apply fA3); walk_at "pk"; walk_at "pk"; rfl))
local macro_rules | `(tactic| walk_at "de") => `(tactic| first
 |with_reducible exact q20
 |with_reducible exact fX1
 |with_reducible exact fC7
 |with_reducible exact fG5
 |((with_reducible refine gB5 _ ?_ ?_ ?_ ?_);rfl;(first|exact Or.inl rfl|exact Or.inr (Or.inl rfl)|exact Or.inr (Or.inr rfl));decide;decide)
 |((with_reducible refine fL2 ?_ ?_ ?_ ?_ ?_ ?_);assumption;decide;decide +kernel;rfl;decide;decide)
 |((with_reducible refine fA2 ?_ ?_ ?_);assumption;rfl;decide)
 |((with_reducible refine fS0 ?_ ?_ ?_);walk_at "od";walk_at "de";walk_at "de")
 |((with_reducible refine fP3 eX3 ?_);walk_at "de")
 |((with_reducible refine eZ8 ?_);walk_at "de")
 |((with_reducible refine fE5 ?_ ?_ ?_ ?_);walk_at "od";walk_at "de";walk_at "de";with_unfolding_all rfl)
 |((with_reducible refine eC9 ?_ ?_ ?_ ?_ ?_ ?_);walk_at "od";walk_at "od";walk_at "de";walk_at "de";walk_at "de";with_unfolding_all rfl)
 |((with_reducible refine fL7 ?_);walk_at "de")
 |((with_reducible refine eH1 ?_ ?_);walk_at "de";walk_at "de")
 |((with_reducible refine fE4 ?_ ?_);walk_at "de";walk_at "de")
 |((with_reducible refine fS9 ?_ ?_ ?_);walk_at "dt";walk_at "de";walk_at "de")
 |((with_reducible refine fB1 ?_);walk_at "da")
 |((with_reducible refine fJ3 ?_);walk_at "da")
 |with_reducible exact dZ9
 |((with_reducible refine eP5 (j:=0) ?_);walk_at "de")
 |((with_reducible refine dP9 ?_ ?_ ?_);walk_at "de";walk_at "do";walk_at "do")
 |((with_reducible refine fQ5 ?_ ?_ ?_);walk_at "de";walk_at "de";exact λ_ _=>rfl)
 |((with_reducible refine eG1 ?_ ?_ ?_ ?_ ?_ ?_ ?_);walk_at "da";rfl;assumption;rfl;rfl;rfl;rfl)
 |((with_reducible refine dX9 ?_ ?_ ?_ ?_ ?_);walk_at "cl";rfl;walk_at "da";decide;rfl)
 |((with_reducible refine dN4 ?_ ?_ ?_);walk_at "cl";rfl;decide)
 |((with_reducible refine fK2 ?_ ?_ ?_ ?_ ?_ ?_ ?_ ?_ ?_);rfl;walk_at "bd";assumption;decide +kernel;rfl;walk_at "da";decide;decide;rfl)
 |((with_reducible refine eS4 YW PySem.F.type_list_append dN6 ?_ ?_ ?_ ?_ ?_ ?_ ?_);walk_at "de";walk_at "da";rfl;rfl;rfl;exact q17 rfl;rfl)
 |((with_reducible refine eS4 YV PySem.F.type_list_extend dL9 ?_ ?_ ?_ ?_ ?_ ?_ ?_);walk_at "de";walk_at "da";rfl;rfl;rfl;exact q17 rfl;rfl)
 |((with_reducible refine eI1 Xo PySem.F.type_str_upper dZ6 ?_ ?_ ?_);walk_at "de";rfl;rfl)
 |((with_reducible refine eZ1 Xw PySem.F.type_list_pop eX9 ?_ ?_ ?_);walk_at "de";rfl;rfl)
 |((with_reducible refine eN1 ?_ ?_ ?_ ?_ ?_ ?_ ?_ ?_);rfl;walk_at "di";walk_at "ck";decide +kernel;(intro _ _ _ _ _;walk_at "dg");(intro _ _ _ _;walk_at "dts");(intro _ _ _ _;walk_at "de");exact λ_=>rfl))
local macro_rules | `(tactic| walk_at "dt") => `(tactic| first
 |((with_reducible refine DW.dt ?_);walk_at "dw")
 |((with_reducible refine eY2 ?_);walk_at "dt")
 |((with_reducible refine eZ9 ?_ ?_ ?_ ?_);walk_at "od";walk_at "de";walk_at "de";with_unfolding_all rfl)
 |((with_reducible refine dS9 ?_ ?_);walk_at "de";exact λ_=>rfl))
local macro_rules | `(tactic| walk_at "dw") => `(tactic| first
 |((with_reducible refine eL5 ?_);walk_at "dt")
 |((with_reducible refine eX7 ?_);walk_at "dt")
 |((with_reducible refine fE0 ?_ ?_);walk_at "dt";walk_at "dw")
 |((with_reducible refine fO7 ?_ ?_);walk_at "dt";walk_at "dw"))
local macro_rules | `(tactic| walk_at "dts") => `(tactic| first
 |with_reducible exact eP0
 |((with_reducible refine eH0 ?_);walk_at "dt"))
local macro_rules | `(tactic| walk_at "di") => `(tactic| first
 |((with_reducible refine fR9 ?_ ?_ ?_ ?_);assumption;rfl;walk_at "da";rfl)
 |((with_reducible refine fP6 ?_ ?_ ?_ ?_ ?_);assumption;rfl;walk_at "da";rfl;rfl)
 |((with_reducible refine gD8 ?_ ?_ ?_ ?_ ?_);assumption;rfl;walk_at "da";rfl;rfl)
 |((with_reducible refine gE3 ?_ ?_ ?_ ?_);assumption;rfl;walk_at "da";rfl)
 |((with_reducible refine fZ9 ?_);walk_at "de"))
local macro_rules | `(tactic| walk_at "dg") => `(tactic| first
 |((with_reducible refine fX6 ?_ ?_ ?_ ?_);exact⟨_,_,_, ‹u9 _ _ _›,rfl⟩;rfl;(first|exact Or.inl rfl|exact Or.inr rfl);(first|exact .inl rfl|exact .inr rfl))
 |((with_reducible refine dH2 ?_ ?_ ?_ ?_);assumption;rfl;(first|exact Or.inl rfl|exact Or.inr rfl);(first|exact .inl rfl|exact .inr rfl))
 |((with_reducible refine eZ2 ?_ ?_ ?_ ?_);rfl;walk_at "dgs";rfl;rfl)
 |((with_reducible refine fI4 ?_ ?_ ?_ ?_);exact aG6.units (by assumption);walk_at "de";walk_at "de";exact λ_=>rfl))
local macro_rules | `(tactic| walk_at "dgs") => `(tactic| first
 |with_reducible exact eN3
 |((with_reducible refine dW2 ?_ ?_ ?_);walk_at "dg";walk_at "dgs";rfl))
local macro_rules | `(tactic| walk_at "ds") => `(tactic| first
 |((with_reducible refine fK8 ?_);walk_at "de")
 |((with_reducible refine fQ4 ?_ ?_ ?_);walk_at "dt";walk_at "db";walk_at "db")
 |((with_reducible refine eV8 ?_ ?_ ?_ ?_ ?_);walk_at "de";walk_at "dg";rfl;rfl;rfl)
 |((with_reducible refine eM4 ?_ ?_);walk_at "de";rfl)
 |((with_reducible refine eY4 ?_ ?_ ?_ ?_ ?_ ?_);exact Xe;rfl;walk_at "di";walk_at "dg";walk_at "db";exact λ_=>rfl)
 |((with_reducible refine dT4 ?_ ?_ ?_);exact Xe;walk_at "dt";walk_at "db"))
local macro_rules | `(tactic| walk_at "db") => `(tactic| first
 |with_reducible exact fK6
 |((with_reducible refine dR2 ?_);walk_at "ds")
 |((with_reducible refine dI0 ?_ ?_);walk_at "ds";walk_at "db"))
local macro_rules | `(tactic| walk_at "db0") => `(tactic| first
 |(refine dR2 ?_;walk_at "ds")
 |(refine dI0 ?_ ?_;walk_at "ds";walk_at "db"))
set_option maxHeartbeats 2000000
local macro_rules | `(tactic| walk_at "sc") => `(tactic| exact ⟨rfl, rfl, rfl, by decide +kernel, rfl, by decide +kernel, by decide +kernel⟩)
structure BC(K:zk)(mg:Str->Option ze):Prop where
 b:BLs mg
 c_ANY:dI8 K mg "ANY" (.str ("any" :Str))
 c_NOTHING:dI8 K mg "NOTHING" (.tup [.tup [],.tup [.str ("of" :Str),.tup []],.tup [],.non,.non])
 c_ALL_PARTS:dI8 K mg "ALL_PARTS" (.tup [.tup [.tup [.non,.non]],.tup [.str ("but" :Str),.tup []],.tup [.bl false,.bl true],.tup [.tup [],.str ("any" :Str)],.tup [.tup [],.str ("any" :Str)]])
noncomputable def top(i:Nat):Stmt:=PySem.Challenge.pw_allmeet_k14_what_is_a_set.main.body.getD i (.Pass ⟨0,0,0,0⟩)
abbrev bC5:Stmt:=top 20
abbrev aJ4:Stmt:=top 22
abbrev bX3:Stmt:=top 5
abbrev bF5:Stmt:=top 6
abbrev bN2:Stmt:=top 2
abbrev bN3:Stmt:=top 3
abbrev bG4:Stmt:=top 21
abbrev aF8:Stmt:=top 23
abbrev aW9:Stmt:=top 12
abbrev bF7:Stmt:=top 11
abbrev bF3:Stmt:=top 1
abbrev bV8:Stmt:=top 9
abbrev aV1:Stmt:=top 10
abbrev aV4:Stmt:=top 13
abbrev aY9:Stmt:=top 4
abbrev aV0:Stmt:=top 7
abbrev bF9:Stmt:=top 14
abbrev aY7:Stmt:=top 15
abbrev aP5:Stmt:=top 24
abbrev aW4:Stmt:=top 25
abbrev aU8:Stmt:=top 26
abbrev bG9:Stmt:=top 27
abbrev bX0:Stmt:=top 28
abbrev aP3:Stmt:=top 29
abbrev cA1:Stmt:=top 30
abbrev aZ6:Stmt:=top 32
abbrev bB2:Stmt:=top 33
abbrev aO5:Stmt:=top 34
abbrev aV3:Stmt:=top 37
abbrev aR7:Stmt:=top 36
abbrev aJ6:Stmt:=top 39
abbrev bC0:Stmt:=top 35
abbrev bH0:Stmt:=top 40
abbrev aO1:Stmt:=top 41
abbrev aS5:Stmt:=top 42
abbrev Z4:Stmt:=top 43
abbrev aJ3:Stmt:=top 44
abbrev aI6:Stmt:=top 45
abbrev aB1:Stmt:=top 51
abbrev aB5:Stmt:=top 52
abbrev aI0:Stmt:=top 47
abbrev aL9:Stmt:=top 46
abbrev aI5:Stmt:=top 48
abbrev aC7:Stmt:=top 49
abbrev aN0:Stmt:=top 50
abbrev aZ4:Stmt:=top 53
abbrev cA5:Stmt:=top 54
theorem bJ0:u9 ["thing"] ["thing"] (m7 bC5):=by walk_at "sc"
theorem aQ0:u9 ["thing"] ["thing"] (m7 aJ4):=by walk_at "sc"
theorem cH1:u9 ["keys"] ["keys"] (m7 bX3):=by walk_at "sc"
theorem bS4:u9 ["pairs"] ["pairs"] (m7 bF5):=by walk_at "sc"
theorem bY8:u9 ["thing"] ["thing"] (m7 bN2):=by walk_at "sc"
theorem bZ6:u9 ["thing"] ["thing"] (m7 bN3):=by walk_at "sc"
theorem bS8:u9 ["thing"] ["thing"] (m7 bG4):=by walk_at "sc"
theorem aM1:u9 ["thing"] ["thing"] (m7 aF8):=by walk_at "sc"
theorem bE6:u9 ["lower", "upper"] ["lower", "upper"] (m7 aW9):=by walk_at "sc"
theorem bS1:u9 ["low", "high"] ["low", "high"] (m7 bF7):=by walk_at "sc"
theorem bQ7:u9 ["thing"] ["thing"] (m7 bF3):=by walk_at "sc"
theorem cG0:u9 ["thing"] ["thing"] (m7 bV8):=by walk_at "sc"
theorem bE4:u9 ["thing"] ["thing"] (m7 aV1):=by walk_at "sc"
theorem bE5:u9 ["thing"] ["thing"] (m7 aV4):=by walk_at "sc"
theorem bK4:u9 ["thing", "word"] ["thing", "word"] (m7 aY9):=by walk_at "sc"
theorem bE3:u9 ["text"] ["text"] (m7 aV0):=by walk_at "sc"
theorem bR9:u9 ["thing"] ["thing"] (m7 bF9):=by walk_at "sc"
theorem bJ6:u9 ["thing"] ["thing"] (m7 aY7):=by walk_at "sc"
theorem aX7:u9 ["thing"] ["thing"] (m7 aP5):=by walk_at "sc"
theorem bE2:u9 ["thing", "inner"] ["thing"] (m7 aW4):=by walk_at "sc"
theorem bE9:u9 ["some", "fronts", "fields"] ["some"] (m7 aU8):=by walk_at "sc"
theorem bQ9:u9 ["one", "other", "waiting", "pair"] ["one", "other"] (m7 bG9):=by walk_at "sc"
theorem cH3:u9 ["field", "more"] ["field", "more"] (m7 bX0):=by walk_at "sc"
theorem aY0:u9 ["some"] ["some"] (m7 aP3):=by walk_at "sc"
theorem cH9:u9 ["thing", "found", "waiting", "some"] ["thing"] (m7 cA1):=by walk_at "sc"
theorem bK7:u9 ["script", "cell", "k", "way"] ["script", "cell", "k"] (m7 aZ6):=by walk_at "sc"
theorem bL2:u9 ["hand", "limit", "got"] ["hand", "limit"] (m7 bB2):=by walk_at "sc"
theorem aX8:u9 ["hand", "least", "most", "text", "k"] ["hand", "least", "most"] (m7 aO5):=by walk_at "sc"
theorem bE8:u9 ["hand", "some", "k", "name"] ["hand"] (m7 aV3):=by walk_at "sc"
theorem aY3:u9 ["hand"] ["hand"] (m7 aR7):=by walk_at "sc"
theorem aQ8:u9 ["hand", "most", "low", "some", "k", "high"] ["hand", "most"] (m7 aJ6):=by walk_at "sc"
theorem bK1:u9 ["hand"] ["hand"] (m7 bC0):=by walk_at "sc"
theorem bS2:u9 ["hand", "most", "some", "k", "got", "size"] ["hand", "most"] (m7 bH0):=by walk_at "sc"
theorem aX2:u9 [] [] (m7 aO1):=by walk_at "sc"
theorem bC3:u9 ["numbers", "texts", "truths", "lists", "records", "got", "every"] ["numbers", "texts", "truths", "lists", "records"] (m7 aS5):=by walk_at "sc"
theorem aQ6:u9 ["hand", "deep", "lists", "records", "fields", "name"] ["hand", "deep"] (m7 Z4):=by walk_at "sc"
theorem bR4:u9 ["hand", "deep", "numbers", "texts", "truths"] ["hand", "deep"] (m7 aJ3):=by walk_at "sc"
theorem bQ6:u9 ["hand", "deep", "kind", "numbers", "texts", "truths", "lists", "records"] ["hand", "deep"] (m7 aI6):=by walk_at "sc"
theorem aS9:u9 ["hand", "part", "is_records", "rows", "more", "none", "kind", "some", "at", "one"] ["hand", "part", "is_records"] (m7 aB1):=by walk_at "sc"
theorem bC1:u9 ["hand", "some", "none", "every", "odd", "at", "new"] ["hand", "some"] (m7 aB5):=by walk_at "sc"
theorem aN9:u9 ["thing", "ends", "low", "high", "k"] ["thing"] (m7 aI0):=by walk_at "sc"
theorem aU5:u9 ["thing", "keys", "one"] ["thing"] (m7 aL9):=by walk_at "sc"
theorem aQ1:u9 ["thing"] ["thing"] (m7 aI5):=by walk_at "sc"
theorem aX4:u9 ["thing", "is_records", "last", "one"] ["thing", "is_records"] (m7 aC7):=by walk_at "sc"
theorem bZ9:u9 ["thing"] ["thing"] (m7 aN0):=by walk_at "sc"
theorem bM7:u9 ["thing", "got"] ["thing"] (m7 aZ4):=by walk_at "sc"
theorem dT8:u9 ["script", "every", "k", "cell", "hand", "some", "bad", "thing"] ["script"] (m7 cA5):=by walk_at "sc"
section
variable{P:zE}{w:zP}{K:zk}{mg:Str->Option ze}{base:Heap}{a:Addr}{d:jm}(zb:BC K mg)
include zb
theorem cK6(c:FF K mg "is_couple" bC5 ["thing"] a d):M4 P w K mg base CX0 1 a d ["thing"] (spD ⟨K,mg⟩ 1 aD2):=by
 unfold aD2
 exact U9 c bJ0 rfl rfl λ_ _ _ _ _ _ _=>by obtain⟨_,_,_,_⟩:=zb;have:=bJ0;unfold bA1;walk_at "db0"
theorem bJ8(c:FF K mg "has_lists_form" aJ4 ["thing"] a d)(k0:b8 aD2 1 "is_couple" P w K mg base 1):M4 P w K mg base CX0 2 a d ["thing"] (spD ⟨K,mg⟩ 1 Z8):=by
 unfold Z8
 exact U9 c aQ0 rfl rfl λ_ _ _ _ _ _ _=>by obtain⟨_,_,_,_⟩:=zb;have:=aQ0;unfold aT6;walk_at "db0"
theorem dL3(c:FF K mg "rising" bX3 ["keys"] a d):M4 P w K mg base CX0 1 a d ["keys"] (spD ⟨K,mg⟩ 1 Z5):=by
 unfold Z5
 exact U9 c cH1 rfl rfl λ_ _ _ _ _ _ _=>by obtain⟨_,_,_,_⟩:=zb;have:=cH1;unfold bI0;walk_at "db0"
theorem cW8(c:FF K mg "names_of" bF5 ["pairs"] a d):M4 P w K mg base CX0 1 a d ["pairs"] (spD ⟨K,mg⟩ 1 aO6):=by
 unfold aO6
 exact U9 c bS4 rfl rfl λ_ _ _ _ _ _ _=>by obtain⟨_,_,_,_⟩:=zb;have:=bS4;unfold aU6;walk_at "db0"
theorem cX7(c:FF K mg "is_text" bN2 ["thing"] a d):M4 P w K mg base CX0 1 a d ["thing"] (spD ⟨K,mg⟩ 1 aD3):=by
 unfold aD3
 exact U9 c bY8 rfl rfl λ_ _ _ _ _ _ _=>by obtain⟨_,_,_,_⟩:=zb;have:=bY8;unfold bN6;walk_at "db0"
theorem cY3(c:FF K mg "is_name" bN3 ["thing"] a d)(k4:b8 aD3 1 "is_text" P w K mg base 1):M4 P w K mg base CX0 2 a d ["thing"] (spD ⟨K,mg⟩ 1 aU0):=by
 unfold aU0
 exact U9 c bZ6 rfl rfl λ_ _ _ _ _ _ _=>by obtain⟨_,_,_,_⟩:=zb;have:=bZ6;unfold cG2;walk_at "db0"
theorem cT9(c:FF K mg "is_field" bG4 ["thing"] a d)(k5:b8 aU0 1 "is_name" P w K mg base 2):M4 P w K mg base CX0 3 a d ["thing"] (spD ⟨K,mg⟩ 1 aO4):=by
 unfold aO4
 exact U9 c bS8 rfl rfl λ_ _ _ _ _ _ _=>by obtain⟨_,_,_,_⟩:=zb;have:=bS8;unfold bG1;walk_at "db0"
theorem bE0(c:FF K mg "has_records_form" aF8 ["thing"] a d)(k2:b8 Z5 1 "rising" P w K mg base 1)(k3:b8 aO6 1 "names_of" P w K mg base 1)(k0:b8 aD2 1 "is_couple" P w K mg base 1)(k6:b8 aO4 1 "is_field" P w K mg base 3):M4 P w K mg base CX0 4 a d ["thing"] (spD ⟨K,mg⟩ 1 V1):=by
 unfold V1
 exact U9 c aM1 rfl rfl λ_ _ _ _ _ _ _=>by obtain⟨_,_,_,_⟩:=zb;have:=aM1;unfold aF9;walk_at "db0"
theorem cC5(c:FF K mg "lies_clear" aW9 ["lower", "upper"] a d):M4 P w K mg base CX0 1 a d ["lower", "upper"] (spD ⟨K,mg⟩ 2 aG8):=by
 unfold aG8
 exact U9 c bE6 rfl rfl λ_ _ _ _ _ _ _=>by obtain⟨_,_,_,_⟩:=zb;have:=bE6;unfold bJ3;walk_at "db0"
theorem cV7(c:FF K mg "is_empty" bF7 ["low", "high"] a d):M4 P w K mg base CX0 1 a d ["low", "high"] (spD ⟨K,mg⟩ 2 aO9):=by
 unfold aO9
 exact U9 c bS1 rfl rfl λ_ _ _ _ _ _ _=>by obtain⟨_,_,_,_⟩:=zb;have:=bS1;unfold bY3;walk_at "db0"
theorem cV4(c:FF K mg "is_whole" bF3 ["thing"] a d):M4 P w K mg base CX0 1 a d ["thing"] (spD ⟨K,mg⟩ 1 aO0):=by
 unfold aO0
 exact U9 c bQ7 rfl rfl λ_ _ _ _ _ _ _=>by obtain⟨_,_,_,_⟩:=zb;have:=bQ7;unfold bZ2;walk_at "db0"
theorem dM4(c:FF K mg "is_end" bV8 ["thing"] a d)(k10:b8 aO0 1 "is_whole" P w K mg base 1):M4 P w K mg base CX0 2 a d ["thing"] (spD ⟨K,mg⟩ 1 aT3):=by
 unfold aT3
 exact U9 c cG0 rfl rfl λ_ _ _ _ _ _ _=>by obtain⟨_,_,_,_⟩:=zb;have:=cG0;unfold cR5;walk_at "db0"
theorem cB5(c:FF K mg "is_stretch" aV1 ["thing"] a d)(k9:b8 aO9 2 "is_empty" P w K mg base 1)(k11:b8 aT3 1 "is_end" P w K mg base 2):M4 P w K mg base CX0 3 a d ["thing"] (spD ⟨K,mg⟩ 1 aH9):=by
 unfold aH9
 exact U9 c bE4 rfl rfl λ_ _ _ _ _ _ _=>by obtain⟨_,_,_,_⟩:=zb;have:=bE4;unfold aW8;walk_at "db0"
theorem cD4(c:FF K mg "is_numbers" aV4 ["thing"] a d)(k8:b8 aG8 2 "lies_clear" P w K mg base 1)(k12:b8 aH9 1 "is_stretch" P w K mg base 3):M4 P w K mg base CX0 4 a d ["thing"] (spD ⟨K,mg⟩ 1 aH7):=by
 unfold aH7
 exact U9 c bE5 rfl rfl λ_ _ _ _ _ _ _=>by obtain⟨_,_,_,_⟩:=zb;have:=bE5;unfold aV6;walk_at "db0"
theorem cN2(c:FF K mg "is_tagged" aY9 ["thing", "word"] a d):M4 P w K mg base CX0 1 a d ["thing", "word"] (spD ⟨K,mg⟩ 2 aC9):=by
 unfold aC9
 exact U9 c bK4 rfl rfl λ_ _ _ _ _ _ _=>by obtain⟨_,_,_,_⟩:=zb;have:=bK4;unfold bC2;walk_at "db0"
theorem cC2(c:FF K mg "text_order" aV0 ["text"] a d):M4 P w K mg base CX0 1 a d ["text"] (spD ⟨K,mg⟩ 1 W2):=by
 unfold W2
 exact U9 c bE3 rfl rfl λ_ _ _ _ _ _ _=>by obtain⟨_,_,_,_⟩:=zb;have:=bE3;unfold aU7;walk_at "db0"
theorem cQ5(c:FF K mg "is_texts" bF9 ["thing"] a d)(k2:b8 Z5 1 "rising" P w K mg base 1)(k14:b8 aC9 2 "is_tagged" P w K mg base 1)(k15:b8 W2 1 "text_order" P w K mg base 1)(k4:b8 aD3 1 "is_text" P w K mg base 1):M4 P w K mg base CX0 2 a d ["thing"] (spD ⟨K,mg⟩ 1 aJ8):=by
 unfold aJ8
 exact U9 c bR9 rfl rfl λ_ _ _ _ _ _ _=>by obtain⟨_,_,_,_⟩:=zb;have:=bR9;unfold bH1;walk_at "db0"
theorem cK0(c:FF K mg "is_truths" aY7 ["thing"] a d)(k2:b8 Z5 1 "rising" P w K mg base 1):M4 P w K mg base CX0 2 a d ["thing"] (spD ⟨K,mg⟩ 1 aG1):=by
 unfold aG1
 exact U9 c bJ6 rfl rfl λ_ _ _ _ _ _ _=>by obtain⟨_,_,_,_⟩:=zb;have:=bJ6;unfold aY2;walk_at "db0"
theorem bT8(c:FF K mg "has_set_form" aP5 ["thing"] a d)(k1:b8 Z8 1 "has_lists_form" P w K mg base 2)(k7:b8 V1 1 "has_records_form" P w K mg base 4)(k13:b8 aH7 1 "is_numbers" P w K mg base 4)(k16:b8 aJ8 1 "is_texts" P w K mg base 2)(k17:b8 aG1 1 "is_truths" P w K mg base 2):M4 P w K mg base CX0 5 a d ["thing"] (spD ⟨K,mg⟩ 1 aD1):=by
 unfold aD1
 exact U9 c aX7 rfl rfl λ_ _ _ _ _ _ _=>by obtain⟨_,_,_,_⟩:=zb;have:=aX7;unfold aN1;walk_at "db0"
theorem cC4(c:FF K mg "inner_sets" aW4 ["thing"] a d):M4 P w K mg base CX0 1 a d ["thing"] (spD ⟨K,mg⟩ 1 T9):=by
 unfold T9
 exact U9 c bE2 rfl rfl λ_ _ _ _ _ _ _=>by obtain⟨_,_,_,_⟩:=zb;have:=bE2;unfold aA9;unfold IR IL;walk_at "db0"
theorem cD2(c:FF K mg "outer_form" aU8 ["some"] a d):M4 P w K mg base CX0 1 a d ["some"] (spD ⟨K,mg⟩ 1 aD6):=by
 unfold aD6
 exact U9 c bE9 rfl rfl λ_ _ _ _ _ _ _=>by obtain⟨_,_,_,_⟩:=zb;have:=bE9;unfold bI4;walk_at "db0"
theorem cQ4(c:FF K mg "same_set" bG9 ["one", "other"] a d)(k20:b8 aD6 1 "outer_form" P w K mg base 1)(k19:b8 T9 1 "inner_sets" P w K mg base 1):M4 P w K mg base CX0 2 a d ["one", "other"] (spD ⟨K,mg⟩ 2 aP6):=by
 unfold aP6
 exact U9 c bQ9 rfl rfl λ_ _ _ _ _ _ _=>by obtain⟨_,_,_,_⟩:=zb;have:=bQ9;unfold aU9;unfold Z3 Z2 Z1;walk_at "db0"
theorem dM5(c:FF K mg "is_due" bX0 ["field", "more"] a d)(k21:b8 aP6 2 "same_set" P w K mg base 2):M4 P w K mg base CX0 3 a d ["field", "more"] (spD ⟨K,mg⟩ 2 aZ5):=by
 unfold aZ5
 exact U9 c cH3 rfl rfl λ_ _ _ _ _ _ _=>by obtain⟨_,_,_,_⟩:=zb;have:=cH3;unfold bW0;walk_at "db0"
theorem bT5(c:FF K mg "has_one_form" aP3 ["some"] a d)(k22:b8 aZ5 2 "is_due" P w K mg base 3):M4 P w K mg base CX0 4 a d ["some"] (spD ⟨K,mg⟩ 1 X6):=by
 unfold X6
 exact U9 c aY0 rfl rfl λ_ _ _ _ _ _ _=>by obtain⟨_,_,_,_⟩:=zb;have:=aY0;unfold aN5;unfold OF3 OF2 OF4 OF1;walk_at "db0"
theorem dN3(c:FF K mg "is_set" cA1 ["thing"] a d)(k18:b8 aD1 1 "has_set_form" P w K mg base 5)(k19:b8 T9 1 "inner_sets" P w K mg base 1)(k23:b8 X6 1 "has_one_form" P w K mg base 4):M4 P w K mg base CX0 6 a d ["thing"] (spD ⟨K,mg⟩ 1 aE8):=by
 unfold aE8
 exact U9 c cH9 rfl rfl λ_ _ _ _ _ _ _=>by obtain⟨_,_,_,_⟩:=zb;have:=cH9;unfold bM5;unfold V4 V2 V3 Z1;walk_at "db0"
theorem cJ7(c:FF K mg "_law_hand" aZ6 ["script", "cell", "k"] a d):M4 P w K mg base CX0 1 a d ["script", "cell", "k"] (spD ⟨K,mg⟩ 3 aK5):=by
 unfold aK5
 exact U9 c bK7 rfl rfl λ_ _ _ _ _ _ _=>by obtain⟨_,_,_,_⟩:=zb;have:=bK7;unfold aY6;walk_at "db0"
theorem cL5(c:FF K mg "_law_draw" bB2 ["hand", "limit"] a d):M4 P w K mg base CX0 1 a d ["hand", "limit"] (spD ⟨K,mg⟩ 2 d8):=by
 unfold d8
 exact U9 c bL2 rfl rfl λ_ _ _ _ _ _ _=>by obtain⟨_,_,_,_⟩:=zb;have:=bL2;unfold bB4;walk_at "db0"
theorem bT3(c:FF K mg "_law_letters" aO5 ["hand", "least", "most"] a d)(k26:b8 d8 2 "_law_draw" P w K mg base 1):M4 P w K mg base CX0 2 a d ["hand", "least", "most"] (spD ⟨K,mg⟩ 3 U8):=by
 unfold U8
 exact U9 c aX8 rfl rfl λ_ _ _ _ _ _ _=>by obtain⟨_,_,_,_⟩:=zb;have:=aX8;unfold aG7;unfold LT;walk_at "db0"
theorem cD0(c:FF K mg "_law_names" aV3 ["hand"] a d)(k26:b8 d8 2 "_law_draw" P w K mg base 1)(k27:b8 U8 3 "_law_letters" P w K mg base 2):M4 P w K mg base CX0 3 a d ["hand"] (spD ⟨K,mg⟩ 1 aA5):=by
 unfold aA5
 exact U9 c bE8 rfl rfl λ_ _ _ _ _ _ _=>by obtain⟨_,_,_,_⟩:=zb;have:=bE8;unfold aM5;unfold NB;walk_at "db0"
theorem cB1(c:FF K mg "_law_number" aR7 ["hand"] a d)(k26:b8 d8 2 "_law_draw" P w K mg base 1):M4 P w K mg base CX0 2 a d ["hand"] (spD ⟨K,mg⟩ 1 W5):=by
 unfold W5
 exact U9 c aY3 rfl rfl λ_ _ _ _ _ _ _=>by obtain⟨_,_,_,_⟩:=zb;have:=aY3;unfold aR4;walk_at "db0"
theorem bI3(c:FF K mg "_law_stretches" aJ6 ["hand", "most"] a d)(k29:b8 W5 1 "_law_number" P w K mg base 2)(k26:b8 d8 2 "_law_draw" P w K mg base 1):M4 P w K mg base CX0 3 a d ["hand", "most"] (spD ⟨K,mg⟩ 2 Q4):=by
 unfold Q4
 exact U9 c aQ8 rfl rfl λ_ _ _ _ _ _ _=>by obtain⟨_,_,_,_⟩:=zb;have:=aQ8;unfold aD4;unfold SA SD SC;walk_at "db0"
theorem cK8(c:FF K mg "_law_text" bC0 ["hand"] a d)(k26:b8 d8 2 "_law_draw" P w K mg base 1)(k27:b8 U8 3 "_law_letters" P w K mg base 2):M4 P w K mg base CX0 3 a d ["hand"] (spD ⟨K,mg⟩ 1 aK7):=by
 unfold aK7
 exact U9 c bK1 rfl rfl λ_ _ _ _ _ _ _=>by obtain⟨_,_,_,_⟩:=zb;have:=bK1;unfold aY4;walk_at "db0"
theorem cW1(c:FF K mg "_law_row" bH0 ["hand", "most"] a d)(k26:b8 d8 2 "_law_draw" P w K mg base 1)(k31:b8 aK7 1 "_law_text" P w K mg base 3):M4 P w K mg base CX0 4 a d ["hand", "most"] (spD ⟨K,mg⟩ 2 aC8):=by
 unfold aC8
 exact U9 c bS2 rfl rfl λ_ _ _ _ _ _ _=>by obtain⟨_,_,_,_⟩:=zb;have:=bS2;unfold aW3;unfold WB WA;walk_at "db0"
theorem bT2(c:FF K mg "_law_nothing" aO1 [] a d):M4 P w K mg base CX0 1 a d [] (spD ⟨K,mg⟩ 0 o4):=by
 unfold o4
 exact U9 c aX2 rfl rfl λ_ _ _ _ _ _ _=>by obtain⟨_,_,_,_⟩:=zb;have:=aX2;unfold aP0;walk_at "db0"
theorem bY5(c:FF K mg "_law_formed" aS5 ["numbers", "texts", "truths", "lists", "records"] a d)(k33:b8 o4 0 "_law_nothing" P w K mg base 1):M4 P w K mg base CX0 2 a d ["numbers", "texts", "truths", "lists", "records"] (spD ⟨K,mg⟩ 5 K8):=by
 unfold K8
 exact U9 c bC3 rfl rfl λ_ _ _ _ _ _ _=>by obtain⟨_,_,_,_⟩:=zb;have:=bC3;unfold bF1;unfold FF' FC FB FA FE FG';walk_at "db0"
theorem bJ9(c:FF K mg "_law_raw" aJ3 ["hand", "deep"] a d)(k26:b8 d8 2 "_law_draw" P w K mg base 1)(k30:b8 Q4 2 "_law_stretches" P w K mg base 3)(k32:b8 aC8 2 "_law_row" P w K mg base 4){R:List D->M D}{lv:Nat}(k_R:b8 R 2 "_law_part_sets" P w K mg base lv)(h2:4<=lv):M4 P w K mg base CX0 (lv+1) a d ["hand", "deep"] (spD ⟨K,mg⟩ 2 (aJ5 R)):=by
 unfold aJ5
 exact U9 c bR4 rfl rfl λ_ _ _ _ _ _ _=>by obtain⟨_,_,_,_⟩:=zb;have:=bR4;unfold bH4;walk_at "db0"
theorem bL7(c:FF K mg "_law_set" aI6 ["hand", "deep"] a d)(k26:b8 d8 2 "_law_draw" P w K mg base 1)(k34:b8 K8 5 "_law_formed" P w K mg base 2)(k33:b8 o4 0 "_law_nothing" P w K mg base 1){R:List D->M D}{lv:Nat}(k_R:b8 R 2 "_law_part_sets" P w K mg base lv)(k36:b8 (aJ5 R) 2 "_law_raw" P w K mg base (lv+1))(h2:4<=lv):M4 P w K mg base CX0 (lv+2) a d ["hand", "deep"] (spD ⟨K,mg⟩ 2 (W4 R)):=by
 unfold W4
 exact U9 c bQ6 rfl rfl λ_ _ _ _ _ _ _=>by obtain⟨_,_,_,_⟩:=zb;have:=bQ6;unfold bG3;walk_at "db0"
theorem bE1(c:FF K mg "_law_part_sets" Z4 ["hand", "deep"] a d)(k26:b8 d8 2 "_law_draw" P w K mg base 1)(k28:b8 aA5 1 "_law_names" P w K mg base 3){R:List D->M D}{lv:Nat}(k_R:b8 R 2 "_law_part_sets" P w K mg base lv)(k37:b8 (W4 R) 2 "_law_set" P w K mg base (lv+2))(h2:4<=lv):M4 P w K mg base CX0 (lv+3) a d ["hand", "deep"] (spD ⟨K,mg⟩ 2 (K4 6 (Z7 R))):=
 U9 c aQ6 rfl rfl λ_ _ _ _ _ _ _=>by obtain⟨_,_,_,_⟩:=zb;have:=aQ6;unfold Z7;unfold PR PD PL;walk_at "db0"
theorem aO2(c:FF K mg "_law_part_sets" Z4 ["hand", "deep"] a d){a36:Addr}{d36:jm}(c36:FF K mg "_law_raw" aJ3 ["hand", "deep"] a36 d36){a37:Addr}{d37:jm}(c37:FF K mg "_law_set" aI6 ["hand", "deep"] a37 d37)(k26:b8 d8 2 "_law_draw" P w K mg base 1)(k28:b8 aA5 1 "_law_names" P w K mg base 3)(k30:b8 Q4 2 "_law_stretches" P w K mg base 3)(k32:b8 aC8 2 "_law_row" P w K mg base 4)(k34:b8 K8 5 "_law_formed" P w K mg base 2)(k33:b8 o4 0 "_law_nothing" P w K mg base 1):∀n,M4 P w K mg base CX0 (4+3*n) a d ["hand", "deep"] (spD ⟨K,mg⟩ 2 (aD7 n))
 |0=>bZ8 rfl
 |n+1=>by
   have kR:=b8.of c (aO2 c c36 c37 k26 k28 k30 k32 k34 k33 n)
   have h36:=b8.of c36 (bJ9 zb c36 k26 k30 k32 kR (jx _ _))
   have h37:=b8.of c37 (bL7 zb c37 k26 k34 k33 kR h36 (jx _ _))
   exact bE1 zb c k26 k28 kR h37 (jx _ _)
theorem bM0(c:FF K mg "_law_part_sets" Z4 ["hand", "deep"] a d){a36:Addr}{d36:jm}(c36:FF K mg "_law_raw" aJ3 ["hand", "deep"] a36 d36){a37:Addr}{d37:jm}(c37:FF K mg "_law_set" aI6 ["hand", "deep"] a37 d37)(k26:b8 d8 2 "_law_draw" P w K mg base 1)(k28:b8 aA5 1 "_law_names" P w K mg base 3)(k30:b8 Q4 2 "_law_stretches" P w K mg base 3)(k32:b8 aC8 2 "_law_row" P w K mg base 4)(k34:b8 K8 5 "_law_formed" P w K mg base 2)(k33:b8 o4 0 "_law_nothing" P w K mg base 1):M4 P w K mg base CX0 34 a d ["hand", "deep"] (spD ⟨K,mg⟩ 2 Z9):=aO2 zb c c36 c37 k26 k28 k30 k32 k34 k33 10
theorem cR4(c:FF K mg "_law_raw" aJ3 ["hand", "deep"] a d)(k26:b8 d8 2 "_law_draw" P w K mg base 1)(k30:b8 Q4 2 "_law_stretches" P w K mg base 3)(k32:b8 aC8 2 "_law_row" P w K mg base 4)(k35:b8 Z9 2 "_law_part_sets" P w K mg base 34):M4 P w K mg base CX0 35 a d ["hand", "deep"] (spD ⟨K,mg⟩ 2 aP1):=bJ9 zb c k26 k30 k32 k35 (by decide)
theorem cQ8(c:FF K mg "_law_set" aI6 ["hand", "deep"] a d)(k26:b8 d8 2 "_law_draw" P w K mg base 1)(k34:b8 K8 5 "_law_formed" P w K mg base 2)(k33:b8 o4 0 "_law_nothing" P w K mg base 1)(k35:b8 Z9 2 "_law_part_sets" P w K mg base 34)(k36:b8 aP1 2 "_law_raw" P w K mg base 35):M4 P w K mg base CX0 36 a d ["hand", "deep"] (spD ⟨K,mg⟩ 2 aN8):=bL7 zb c k26 k34 k33 k35 k36 (by decide)
theorem aX9(c:FF K mg "_law_spoilt" aB5 ["hand", "some"] a d)(k33:b8 o4 0 "_law_nothing" P w K mg base 1)(k26:b8 d8 2 "_law_draw" P w K mg base 1){R:List D->M D}{lv:Nat}(k_R:b8 R 3 "_law_bad_part" P w K mg base lv)(h2:1<=lv):M4 P w K mg base CX0 (lv+1) a d ["hand", "some"] (spD ⟨K,mg⟩ 2 (R3 R)):=by
 unfold R3
 exact U9 c bC1 rfl rfl λ_ _ _ _ _ _ _=>by obtain⟨_,_,_,_⟩:=zb;have:=bC1;unfold aK1;unfold SP2 SP5 SP4 SP7 SP1 SP8 SP6 SP3 SP0;walk_at "db0"
theorem bG2(c:FF K mg "_law_bad_part" aB1 ["hand", "part", "is_records"] a d)(k33:b8 o4 0 "_law_nothing" P w K mg base 1)(k26:b8 d8 2 "_law_draw" P w K mg base 1){R:List D->M D}{lv:Nat}(k_R:b8 R 3 "_law_bad_part" P w K mg base lv)(k39:b8 (R3 R) 2 "_law_spoilt" P w K mg base (lv+1))(h2:1<=lv):M4 P w K mg base CX0 (lv+2) a d ["hand", "part", "is_records"] (spD ⟨K,mg⟩ 3 (K4 10 (W0 R))):=
 U9 c aS9 rfl rfl λ_ _ _ _ _ _ _=>by obtain⟨_,_,_,_⟩:=zb;have:=aS9;unfold W0;unfold BP3 eJ6 eM3 BP5 BP8 eH8 eG4 eJ3 eN6 BP4 BP9 BP6 BP2 BP0 BP1 BP7;walk_at "db0"
theorem aR0(c:FF K mg "_law_bad_part" aB1 ["hand", "part", "is_records"] a d){a39:Addr}{d39:jm}(c39:FF K mg "_law_spoilt" aB5 ["hand", "some"] a39 d39)(k33:b8 o4 0 "_law_nothing" P w K mg base 1)(k26:b8 d8 2 "_law_draw" P w K mg base 1):∀n,M4 P w K mg base CX0 (1+2*n) a d ["hand", "part", "is_records"] (spD ⟨K,mg⟩ 3 (aF2 n))
 |0=>bZ8 rfl
 |n+1=>by
   have kR:=b8.of c (aR0 c c39 k33 k26 n)
   have h39:=b8.of c39 (aX9 zb c39 k33 k26 kR (jx _ _))
   exact bG2 zb c k33 k26 kR h39 (jx _ _)
theorem bQ1(c:FF K mg "_law_bad_part" aB1 ["hand", "part", "is_records"] a d){a39:Addr}{d39:jm}(c39:FF K mg "_law_spoilt" aB5 ["hand", "some"] a39 d39)(k33:b8 o4 0 "_law_nothing" P w K mg base 1)(k26:b8 d8 2 "_law_draw" P w K mg base 1):M4 P w K mg base CX0 25 a d ["hand", "part", "is_records"] (spD ⟨K,mg⟩ 3 aL6):=aR0 zb c c39 k33 k26 12
theorem cA6(c:FF K mg "_law_spoilt" aB5 ["hand", "some"] a d)(k33:b8 o4 0 "_law_nothing" P w K mg base 1)(k26:b8 d8 2 "_law_draw" P w K mg base 1)(k38:b8 aL6 3 "_law_bad_part" P w K mg base 25):M4 P w K mg base CX0 26 a d ["hand", "some"] (spD ⟨K,mg⟩ 2 aB6):=aX9 zb c k33 k26 k38 (by decide)
theorem bH7(c:FF K mg "_law_is_numbers" aI0 ["thing"] a d):M4 P w K mg base CX0 1 a d ["thing"] (spD ⟨K,mg⟩ 1 N7):=by
 unfold N7
 exact U9 c aN9 rfl rfl λ_ _ _ _ _ _ _=>by obtain⟨_,_,_,_⟩:=zb;have:=aN9;unfold aH3;unfold NL2 NG4 NG1 NG2 NL1 NG3;walk_at "db0"
theorem bM9(c:FF K mg "_law_is_texts" aL9 ["thing"] a d):M4 P w K mg base CX0 1 a d ["thing"] (spD ⟨K,mg⟩ 1 R5):=by
 unfold R5
 exact U9 c aU5 rfl rfl λ_ _ _ _ _ _ _=>by obtain⟨_,_,_,_⟩:=zb;have:=aU5;unfold aL4;unfold TK TZ;walk_at "db0"
theorem bL8(c:FF K mg "_law_is_truths" aI5 ["thing"] a d):M4 P w K mg base CX0 1 a d ["thing"] (spD ⟨K,mg⟩ 1 M9):=by
 unfold M9
 exact U9 c aQ1 rfl rfl λ_ _ _ _ _ _ _=>by obtain⟨_,_,_,_⟩:=zb;have:=aQ1;unfold aI4;walk_at "db0"
theorem bS5(c:FF K mg "_law_is" aN0 ["thing"] a d)(k34:b8 K8 5 "_law_formed" P w K mg base 2)(k40:b8 N7 1 "_law_is_numbers" P w K mg base 1)(k41:b8 R5 1 "_law_is_texts" P w K mg base 1)(k42:b8 M9 1 "_law_is_truths" P w K mg base 1){R:List D->M D}{lv:Nat}(k_R:b8 R 2 "_law_is_part" P w K mg base lv)(h2:2<=lv):M4 P w K mg base CX0 (lv+1) a d ["thing"] (spD ⟨K,mg⟩ 1 (aA0 R)):=by
 unfold aA0
 exact U9 c bZ9 rfl rfl λ_ _ _ _ _ _ _=>by obtain⟨_,_,_,_⟩:=zb;have:=bZ9;unfold bO1;unfold SG1 SG3 SG2;walk_at "db0"
theorem bK0(c:FF K mg "_law_is_part" aC7 ["thing", "is_records"] a d)(k33:b8 o4 0 "_law_nothing" P w K mg base 1){R:List D->M D}{lv:Nat}(k_R:b8 R 2 "_law_is_part" P w K mg base lv)(k44:b8 (aA0 R) 1 "_law_is" P w K mg base (lv+1))(h2:2<=lv):M4 P w K mg base CX0 (lv+2) a d ["thing", "is_records"] (spD ⟨K,mg⟩ 2 (K4 4 (aC5 R))):=
 U9 c aX4 rfl rfl λ_ _ _ _ _ _ _=>by obtain⟨_,_,_,_⟩:=zb;have:=aX4;unfold aC5;unfold PF PB' PR1 PR2 PR3 PG1 PL1;walk_at "db0"
theorem aT8(c:FF K mg "_law_is_part" aC7 ["thing", "is_records"] a d){a44:Addr}{d44:jm}(c44:FF K mg "_law_is" aN0 ["thing"] a44 d44)(k33:b8 o4 0 "_law_nothing" P w K mg base 1)(k34:b8 K8 5 "_law_formed" P w K mg base 2)(k40:b8 N7 1 "_law_is_numbers" P w K mg base 1)(k41:b8 R5 1 "_law_is_texts" P w K mg base 1)(k42:b8 M9 1 "_law_is_truths" P w K mg base 1):∀n,M4 P w K mg base CX0 (2+2*n) a d ["thing", "is_records"] (spD ⟨K,mg⟩ 2 (aI1 n))
 |0=>bZ8 rfl
 |n+1=>by
   have kR:=b8.of c (aT8 c c44 k33 k34 k40 k41 k42 n)
   have h44:=b8.of c44 (bS5 zb c44 k34 k40 k41 k42 kR (jx _ _))
   exact bK0 zb c k33 kR h44 (jx _ _)
theorem bT4(c:FF K mg "_law_is_part" aC7 ["thing", "is_records"] a d){a44:Addr}{d44:jm}(c44:FF K mg "_law_is" aN0 ["thing"] a44 d44)(k33:b8 o4 0 "_law_nothing" P w K mg base 1)(k34:b8 K8 5 "_law_formed" P w K mg base 2)(k40:b8 N7 1 "_law_is_numbers" P w K mg base 1)(k41:b8 R5 1 "_law_is_texts" P w K mg base 1)(k42:b8 M9 1 "_law_is_truths" P w K mg base 1):M4 P w K mg base CX0 34 a d ["thing", "is_records"] (spD ⟨K,mg⟩ 2 aP2):=aT8 zb c c44 k33 k34 k40 k41 k42 16
theorem dA6(c:FF K mg "_law_is" aN0 ["thing"] a d)(k34:b8 K8 5 "_law_formed" P w K mg base 2)(k40:b8 N7 1 "_law_is_numbers" P w K mg base 1)(k41:b8 R5 1 "_law_is_texts" P w K mg base 1)(k42:b8 M9 1 "_law_is_truths" P w K mg base 1)(k43:b8 aP2 2 "_law_is_part" P w K mg base 34):M4 P w K mg base CX0 35 a d ["thing"] (spD ⟨K,mg⟩ 1 bD3):=bS5 zb c k34 k40 k41 k42 k43 (by decide)
theorem cP0(c:FF K mg "_law_told" aZ4 ["thing"] a d)(k24:b8 aE8 1 "is_set" P w K mg base 6)(k44:b8 bD3 1 "_law_is" P w K mg base 35):M4 P w K mg base CX0 36 a d ["thing"] (spD ⟨K,mg⟩ 1 aG3):=by
 unfold aG3
 exact U9 c bM7 rfl rfl λ_ _ _ _ _ _ _=>by obtain⟨_,_,_,_⟩:=zb;have:=bM7;unfold bB1;walk_at "db0"
theorem eZ6(c:FF K mg "law" cA5 ["script"] a d)(k24:b8 aE8 1 "is_set" P w K mg base 6)(k25:b8 aK5 3 "_law_hand" P w K mg base 1)(k37:b8 aN8 2 "_law_set" P w K mg base 36)(k39:b8 aB6 2 "_law_spoilt" P w K mg base 26)(k33:b8 o4 0 "_law_nothing" P w K mg base 1)(k45:b8 aG3 1 "_law_told" P w K mg base 36)(k36:b8 aP1 2 "_law_raw" P w K mg base 35):M4 P w K mg base CX0 37 a d ["script"] (spD ⟨K,mg⟩ 1 cS6):=by
 unfold cS6
 exact U9 c dT8 rfl rfl λ_ _ _ _ _ _ _=>by obtain⟨_,_,_,_⟩:=zb;have:=dT8;unfold dC9;unfold LBo LTh LTo LA1 LA2 LA0;walk_at "db0"
end
set_option maxHeartbeats 4000000 in
theorem all_mk{l:PySem.W.OpenLaw}{w:zP}{K:zk}{h:Heap}{mg:Str->Option ze}{fa:Addr}(X:K.In h)(G:h.Ns ji mg)(hfa:mg "law" =some (.ref fa))
 (Y0:FH K "is_couple" bC5) (Y1:FH K "has_lists_form" aJ4) (Y2:FH K "rising" bX3) (Y3:FH K "names_of" bF5) (Y4:FH K "is_text" bN2) (Y5:FH K "is_name" bN3) (Y6:FH K "is_field" bG4) (Y7:FH K "has_records_form" aF8) (Y8:FH K "lies_clear" aW9) (Y9:FH K "is_empty" bF7) (Y10:FH K "is_whole" bF3) (Y11:FH K "is_end" bV8) (Y12:FH K "is_stretch" aV1) (Y13:FH K "is_numbers" aV4) (Y14:FH K "is_tagged" aY9) (Y15:FH K "text_order" aV0) (Y16:FH K "is_texts" bF9) (Y17:FH K "is_truths" aY7) (Y18:FH K "has_set_form" aP5) (Y19:FH K "inner_sets" aW4) (Y20:FH K "outer_form" aU8) (Y21:FH K "same_set" bG9) (Y22:FH K "is_due" bX0) (Y23:FH K "has_one_form" aP3) (Y24:FH K "is_set" cA1) (Y25:FH K "_law_hand" aZ6) (Y26:FH K "_law_draw" bB2) (Y27:FH K "_law_letters" aO5) (Y28:FH K "_law_names" aV3) (Y29:FH K "_law_number" aR7) (Y30:FH K "_law_stretches" aJ6) (Y31:FH K "_law_text" bC0) (Y32:FH K "_law_row" bH0) (Y33:FH K "_law_nothing" aO1) (Y34:FH K "_law_formed" aS5) (Y35:FH K "_law_part_sets" Z4) (Y36:FH K "_law_raw" aJ3) (Y37:FH K "_law_set" aI6) (Y38:FH K "_law_bad_part" aB1) (Y39:FH K "_law_spoilt" aB5) (Y40:FH K "_law_is_numbers" aI0) (Y41:FH K "_law_is_texts" aL9) (Y42:FH K "_law_is_truths" aI5) (Y43:FH K "_law_is_part" aC7) (Y44:FH K "_law_is" aN0) (Y45:FH K "_law_told" aZ4) (Y46:FH K "law" cA5)
 {t_ANY:Tok}
 (g_ANY:yU K ji "ANY" =some (some (.str "any" t_ANY)))
 {a_NOTHING:Addr} {n_NOTHING:Nat} {sl_NOTHING:Array (Option ze)} {a_NOTHING_0:Addr} {n_NOTHING_0:Nat} {sl_NOTHING_0:Array (Option ze)} {a_NOTHING_1:Addr} {n_NOTHING_1:Nat} {sl_NOTHING_1:Array (Option ze)} {t_NOTHING_1_0:Tok} {a_NOTHING_1_1:Addr} {n_NOTHING_1_1:Nat} {sl_NOTHING_1_1:Array (Option ze)} {a_NOTHING_2:Addr} {n_NOTHING_2:Nat} {sl_NOTHING_2:Array (Option ze)}
 (g_NOTHING:yU K ji "NOTHING" =some (some (.ref a_NOTHING))) (l_NOTHING:K.lookup a_NOTHING=some ⟨.type "tuple",none,.seq #[.ref a_NOTHING_0,.ref a_NOTHING_1,.ref a_NOTHING_2,.none,.none] n_NOTHING,sl_NOTHING⟩) (l_NOTHING_0:K.lookup a_NOTHING_0=some ⟨.type "tuple",none,.seq #[] n_NOTHING_0,sl_NOTHING_0⟩) (l_NOTHING_1:K.lookup a_NOTHING_1=some ⟨.type "tuple",none,.seq #[.str "of" t_NOTHING_1_0,.ref a_NOTHING_1_1] n_NOTHING_1,sl_NOTHING_1⟩) (l_NOTHING_1_1:K.lookup a_NOTHING_1_1=some ⟨.type "tuple",none,.seq #[] n_NOTHING_1_1,sl_NOTHING_1_1⟩) (l_NOTHING_2:K.lookup a_NOTHING_2=some ⟨.type "tuple",none,.seq #[] n_NOTHING_2,sl_NOTHING_2⟩)
 {a_ALL_PARTS:Addr} {n_ALL_PARTS:Nat} {sl_ALL_PARTS:Array (Option ze)} {a_ALL_PARTS_0:Addr} {n_ALL_PARTS_0:Nat} {sl_ALL_PARTS_0:Array (Option ze)} {a_ALL_PARTS_0_0:Addr} {n_ALL_PARTS_0_0:Nat} {sl_ALL_PARTS_0_0:Array (Option ze)} {a_ALL_PARTS_1:Addr} {n_ALL_PARTS_1:Nat} {sl_ALL_PARTS_1:Array (Option ze)} {t_ALL_PARTS_1_0:Tok} {a_ALL_PARTS_1_1:Addr} {n_ALL_PARTS_1_1:Nat} {sl_ALL_PARTS_1_1:Array (Option ze)} {a_ALL_PARTS_2:Addr} {n_ALL_PARTS_2:Nat} {sl_ALL_PARTS_2:Array (Option ze)} {a_ALL_PARTS_3:Addr} {n_ALL_PARTS_3:Nat} {sl_ALL_PARTS_3:Array (Option ze)} {a_ALL_PARTS_3_0:Addr} {n_ALL_PARTS_3_0:Nat} {sl_ALL_PARTS_3_0:Array (Option ze)} {t_ALL_PARTS_3_1:Tok} {a_ALL_PARTS_4:Addr} {n_ALL_PARTS_4:Nat} {sl_ALL_PARTS_4:Array (Option ze)} {a_ALL_PARTS_4_0:Addr} {n_ALL_PARTS_4_0:Nat} {sl_ALL_PARTS_4_0:Array (Option ze)} {t_ALL_PARTS_4_1:Tok}
 (g_ALL_PARTS:yU K ji "ALL_PARTS" =some (some (.ref a_ALL_PARTS))) (l_ALL_PARTS:K.lookup a_ALL_PARTS=some ⟨.type "tuple",none,.seq #[.ref a_ALL_PARTS_0,.ref a_ALL_PARTS_1,.ref a_ALL_PARTS_2,.ref a_ALL_PARTS_3,.ref a_ALL_PARTS_4] n_ALL_PARTS,sl_ALL_PARTS⟩) (l_ALL_PARTS_0:K.lookup a_ALL_PARTS_0=some ⟨.type "tuple",none,.seq #[.ref a_ALL_PARTS_0_0] n_ALL_PARTS_0,sl_ALL_PARTS_0⟩) (l_ALL_PARTS_0_0:K.lookup a_ALL_PARTS_0_0=some ⟨.type "tuple",none,.seq #[.none,.none] n_ALL_PARTS_0_0,sl_ALL_PARTS_0_0⟩) (l_ALL_PARTS_1:K.lookup a_ALL_PARTS_1=some ⟨.type "tuple",none,.seq #[.str "but" t_ALL_PARTS_1_0,.ref a_ALL_PARTS_1_1] n_ALL_PARTS_1,sl_ALL_PARTS_1⟩) (l_ALL_PARTS_1_1:K.lookup a_ALL_PARTS_1_1=some ⟨.type "tuple",none,.seq #[] n_ALL_PARTS_1_1,sl_ALL_PARTS_1_1⟩) (l_ALL_PARTS_2:K.lookup a_ALL_PARTS_2=some ⟨.type "tuple",none,.seq #[.bool false,.bool true] n_ALL_PARTS_2,sl_ALL_PARTS_2⟩) (l_ALL_PARTS_3:K.lookup a_ALL_PARTS_3=some ⟨.type "tuple",none,.seq #[.ref a_ALL_PARTS_3_0,.str "any" t_ALL_PARTS_3_1] n_ALL_PARTS_3,sl_ALL_PARTS_3⟩) (l_ALL_PARTS_3_0:K.lookup a_ALL_PARTS_3_0=some ⟨.type "tuple",none,.seq #[] n_ALL_PARTS_3_0,sl_ALL_PARTS_3_0⟩) (l_ALL_PARTS_4:K.lookup a_ALL_PARTS_4=some ⟨.type "tuple",none,.seq #[.ref a_ALL_PARTS_4_0,.str "any" t_ALL_PARTS_4_1] n_ALL_PARTS_4,sl_ALL_PARTS_4⟩) (l_ALL_PARTS_4_0:K.lookup a_ALL_PARTS_4_0=some ⟨.type "tuple",none,.seq #[] n_ALL_PARTS_4_0,sl_ALL_PARTS_4_0⟩)
 (z:∀b∈bltL,yU K ji b=some none)
 (pure:∀ns:List Int,ns.length<=63->∃G',cS6 [.ref 0] [.rol (ns.map D.int)]=some (.ok (.bl true),G')):
 ∃fd:jm,(∀(s:zm) (v:ze),BindsTo s fd ⟨[v], []⟩ [("script",v)])/\∀base:Heap,K.In base->base.Ns ji mg->M4 l.prog w K mg base CX0 37 fa fd ["script"] (dG9 K):=by
 obtain⟨_,_,an_law,_,_,kV_law,dc_law,pm_law,cd_law,ct_law,a46,l_law,e_law,k46⟩:=Y46
 have e:=hfa.symm.trans (xb X G a46)
 cases e
 obtain⟨_,_,C0⟩:=Y0.ff1 (p1:= "thing") X G λ_ _ _ _ _ _ _=>rfl
 obtain⟨_,_,C1⟩:=Y1.ff1 (p1:= "thing") X G λ_ _ _ _ _ _ _=>rfl
 obtain⟨_,_,C2⟩:=Y2.ff1 (p1:= "keys") X G λ_ _ _ _ _ _ _=>rfl
 obtain⟨_,_,C3⟩:=Y3.ff1 (p1:= "pairs") X G λ_ _ _ _ _ _ _=>rfl
 obtain⟨_,_,C4⟩:=Y4.ff1 (p1:= "thing") X G λ_ _ _ _ _ _ _=>rfl
 obtain⟨_,_,C5⟩:=Y5.ff1 (p1:= "thing") X G λ_ _ _ _ _ _ _=>rfl
 obtain⟨_,_,C6⟩:=Y6.ff1 (p1:= "thing") X G λ_ _ _ _ _ _ _=>rfl
 obtain⟨_,_,C7⟩:=Y7.ff1 (p1:= "thing") X G λ_ _ _ _ _ _ _=>rfl
 obtain⟨_,_,C8⟩:=Y8.ff2 (p1:= "lower") (p2:= "upper") X G λ_ _ _ _ _ _ _ _=>rfl
 obtain⟨_,_,C9⟩:=Y9.ff2 (p1:= "low") (p2:= "high") X G λ_ _ _ _ _ _ _ _=>rfl
 obtain⟨_,_,C10⟩:=Y10.ff1 (p1:= "thing") X G λ_ _ _ _ _ _ _=>rfl
 obtain⟨_,_,C11⟩:=Y11.ff1 (p1:= "thing") X G λ_ _ _ _ _ _ _=>rfl
 obtain⟨_,_,C12⟩:=Y12.ff1 (p1:= "thing") X G λ_ _ _ _ _ _ _=>rfl
 obtain⟨_,_,C13⟩:=Y13.ff1 (p1:= "thing") X G λ_ _ _ _ _ _ _=>rfl
 obtain⟨_,_,C14⟩:=Y14.ff2 (p1:= "thing") (p2:= "word") X G λ_ _ _ _ _ _ _ _=>rfl
 obtain⟨_,_,C15⟩:=Y15.ff1 (p1:= "text") X G λ_ _ _ _ _ _ _=>rfl
 obtain⟨_,_,C16⟩:=Y16.ff1 (p1:= "thing") X G λ_ _ _ _ _ _ _=>rfl
 obtain⟨_,_,C17⟩:=Y17.ff1 (p1:= "thing") X G λ_ _ _ _ _ _ _=>rfl
 obtain⟨_,_,C18⟩:=Y18.ff1 (p1:= "thing") X G λ_ _ _ _ _ _ _=>rfl
 obtain⟨_,_,C19⟩:=Y19.ff1 (p1:= "thing") X G λ_ _ _ _ _ _ _=>rfl
 obtain⟨_,_,C20⟩:=Y20.ff1 (p1:= "some") X G λ_ _ _ _ _ _ _=>rfl
 obtain⟨_,_,C21⟩:=Y21.ff2 (p1:= "one") (p2:= "other") X G λ_ _ _ _ _ _ _ _=>rfl
 obtain⟨_,_,C22⟩:=Y22.ff2 (p1:= "field") (p2:= "more") X G λ_ _ _ _ _ _ _ _=>rfl
 obtain⟨_,_,C23⟩:=Y23.ff1 (p1:= "some") X G λ_ _ _ _ _ _ _=>rfl
 obtain⟨_,_,C24⟩:=Y24.ff1 (p1:= "thing") X G λ_ _ _ _ _ _ _=>rfl
 obtain⟨_,_,C25⟩:=Y25.ff3 (p1:= "script") (p2:= "cell") (p3:= "k") X G λ_ _ _ _ _ _ _ _ _=>rfl
 obtain⟨_,_,C26⟩:=Y26.ff2 (p1:= "hand") (p2:= "limit") X G λ_ _ _ _ _ _ _ _=>rfl
 obtain⟨_,_,C27⟩:=Y27.ff3 (p1:= "hand") (p2:= "least") (p3:= "most") X G λ_ _ _ _ _ _ _ _ _=>rfl
 obtain⟨_,_,C28⟩:=Y28.ff1 (p1:= "hand") X G λ_ _ _ _ _ _ _=>rfl
 obtain⟨_,_,C29⟩:=Y29.ff1 (p1:= "hand") X G λ_ _ _ _ _ _ _=>rfl
 obtain⟨_,_,C30⟩:=Y30.ff2 (p1:= "hand") (p2:= "most") X G λ_ _ _ _ _ _ _ _=>rfl
 obtain⟨_,_,C31⟩:=Y31.ff1 (p1:= "hand") X G λ_ _ _ _ _ _ _=>rfl
 obtain⟨_,_,C32⟩:=Y32.ff2 (p1:= "hand") (p2:= "most") X G λ_ _ _ _ _ _ _ _=>rfl
 obtain⟨_,_,C33⟩:=Y33.ff0 X G λ_ _ _ _ _ _=>rfl
 obtain⟨_,_,C34⟩:=Y34.ff5 (p1:= "numbers") (p2:= "texts") (p3:= "truths") (p4:= "lists") (p5:= "records") X G λ_ _ _ _ _ _ _ _ _ _ _=>rfl
 obtain⟨_,_,C35⟩:=Y35.ff2 (p1:= "hand") (p2:= "deep") X G λ_ _ _ _ _ _ _ _=>rfl
 obtain⟨_,_,C36⟩:=Y36.ff2 (p1:= "hand") (p2:= "deep") X G λ_ _ _ _ _ _ _ _=>rfl
 obtain⟨_,_,C37⟩:=Y37.ff2 (p1:= "hand") (p2:= "deep") X G λ_ _ _ _ _ _ _ _=>rfl
 obtain⟨_,_,C38⟩:=Y38.ff3 (p1:= "hand") (p2:= "part") (p3:= "is_records") X G λ_ _ _ _ _ _ _ _ _=>rfl
 obtain⟨_,_,C39⟩:=Y39.ff2 (p1:= "hand") (p2:= "some") X G λ_ _ _ _ _ _ _ _=>rfl
 obtain⟨_,_,C40⟩:=Y40.ff1 (p1:= "thing") X G λ_ _ _ _ _ _ _=>rfl
 obtain⟨_,_,C41⟩:=Y41.ff1 (p1:= "thing") X G λ_ _ _ _ _ _ _=>rfl
 obtain⟨_,_,C42⟩:=Y42.ff1 (p1:= "thing") X G λ_ _ _ _ _ _ _=>rfl
 obtain⟨_,_,C43⟩:=Y43.ff2 (p1:= "thing") (p2:= "is_records") X G λ_ _ _ _ _ _ _ _=>rfl
 obtain⟨_,_,C44⟩:=Y44.ff1 (p1:= "thing") X G λ_ _ _ _ _ _ _=>rfl
 obtain⟨_,_,C45⟩:=Y45.ff1 (p1:= "thing") X G λ_ _ _ _ _ _ _=>rfl
 have C46:FF K mg "law" cA5 ["script"] _ _:=⟨cK7 l_law e_law k46,(cK7 l_law e_law k46).binds (ps:= ["script"]) (λ_ _ _ _ _ _ us hl=>match us,hl with|[_],_=>rfl),xb X G a46⟩
 have zb0:=BLs.of X G z
 have zb:BC K mg:=⟨zb0,⟨_,xb X G g_ANY,cB2⟩,⟨_,xb X G g_NOTHING,aF7 (us:= [.ref a_NOTHING_0,.ref a_NOTHING_1,.ref a_NOTHING_2,.none,.none]) l_NOTHING rfl (M7 (aF7 (us:= []) l_NOTHING_0 rfl (aA7)) (M7 (aF7 (us:= [.str "of" t_NOTHING_1_0,.ref a_NOTHING_1_1]) l_NOTHING_1 rfl (M7 (cB2) (M7 (aF7 (us:= []) l_NOTHING_1_1 rfl (aA7)) (aA7)))) (M7 (aF7 (us:= []) l_NOTHING_2 rfl (aA7)) (M7 (cO8) (M7 (cO8) (aA7))))))⟩,⟨_,xb X G g_ALL_PARTS,aF7 (us:= [.ref a_ALL_PARTS_0,.ref a_ALL_PARTS_1,.ref a_ALL_PARTS_2,.ref a_ALL_PARTS_3,.ref a_ALL_PARTS_4]) l_ALL_PARTS rfl (M7 (aF7 (us:= [.ref a_ALL_PARTS_0_0]) l_ALL_PARTS_0 rfl (M7 (aF7 (us:= [.none,.none]) l_ALL_PARTS_0_0 rfl (M7 (cO8) (M7 (cO8) (aA7)))) (aA7))) (M7 (aF7 (us:= [.str "but" t_ALL_PARTS_1_0,.ref a_ALL_PARTS_1_1]) l_ALL_PARTS_1 rfl (M7 (cB2) (M7 (aF7 (us:= []) l_ALL_PARTS_1_1 rfl (aA7)) (aA7)))) (M7 (aF7 (us:= [.bool false,.bool true]) l_ALL_PARTS_2 rfl (M7 (eT5) (M7 (eT5) (aA7)))) (M7 (aF7 (us:= [.ref a_ALL_PARTS_3_0,.str "any" t_ALL_PARTS_3_1]) l_ALL_PARTS_3 rfl (M7 (aF7 (us:= []) l_ALL_PARTS_3_0 rfl (aA7)) (M7 (cB2) (aA7)))) (M7 (aF7 (us:= [.ref a_ALL_PARTS_4_0,.str "any" t_ALL_PARTS_4_1]) l_ALL_PARTS_4 rfl (M7 (aF7 (us:= []) l_ALL_PARTS_4_0 rfl (aA7)) (M7 (cB2) (aA7)))) (aA7))))))⟩⟩
 refine⟨jD "law" "law" (aD8 cA5) (aA4 cA5) (m7 cA5) .none kV_law dc_law pm_law an_law cd_law ct_law,λs v=>.of_eq rfl,λbase _ _=>eW1 ?_ pure⟩
 have O0:=cK6 (P:=l.prog) (w:=w) (base:=base) zb C0
 have O1:=bJ8 (P:=l.prog) (w:=w) (base:=base) zb C1 (b8.of C0 O0)
 have O2:=dL3 (P:=l.prog) (w:=w) (base:=base) zb C2
 have O3:=cW8 (P:=l.prog) (w:=w) (base:=base) zb C3
 have O4:=cX7 (P:=l.prog) (w:=w) (base:=base) zb C4
 have O5:=cY3 (P:=l.prog) (w:=w) (base:=base) zb C5 (b8.of C4 O4)
 have O6:=cT9 (P:=l.prog) (w:=w) (base:=base) zb C6 (b8.of C5 O5)
 have O7:=bE0 (P:=l.prog) (w:=w) (base:=base) zb C7 (b8.of C2 O2) (b8.of C3 O3) (b8.of C0 O0) (b8.of C6 O6)
 have O8:=cC5 (P:=l.prog) (w:=w) (base:=base) zb C8
 have O9:=cV7 (P:=l.prog) (w:=w) (base:=base) zb C9
 have O10:=cV4 (P:=l.prog) (w:=w) (base:=base) zb C10
 have O11:=dM4 (P:=l.prog) (w:=w) (base:=base) zb C11 (b8.of C10 O10)
 have O12:=cB5 (P:=l.prog) (w:=w) (base:=base) zb C12 (b8.of C9 O9) (b8.of C11 O11)
 have O13:=cD4 (P:=l.prog) (w:=w) (base:=base) zb C13 (b8.of C8 O8) (b8.of C12 O12)
 have O14:=cN2 (P:=l.prog) (w:=w) (base:=base) zb C14
 have O15:=cC2 (P:=l.prog) (w:=w) (base:=base) zb C15
 have O16:=cQ5 (P:=l.prog) (w:=w) (base:=base) zb C16 (b8.of C2 O2) (b8.of C14 O14) (b8.of C15 O15) (b8.of C4 O4)
 have O17:=cK0 (P:=l.prog) (w:=w) (base:=base) zb C17 (b8.of C2 O2)
 have O18:=bT8 (P:=l.prog) (w:=w) (base:=base) zb C18 (b8.of C1 O1) (b8.of C7 O7) (b8.of C13 O13) (b8.of C16 O16) (b8.of C17 O17)
 have O19:=cC4 (P:=l.prog) (w:=w) (base:=base) zb C19
 have O20:=cD2 (P:=l.prog) (w:=w) (base:=base) zb C20
 have O21:=cQ4 (P:=l.prog) (w:=w) (base:=base) zb C21 (b8.of C20 O20) (b8.of C19 O19)
 have O22:=dM5 (P:=l.prog) (w:=w) (base:=base) zb C22 (b8.of C21 O21)
 have O23:=bT5 (P:=l.prog) (w:=w) (base:=base) zb C23 (b8.of C22 O22)
 have O24:=dN3 (P:=l.prog) (w:=w) (base:=base) zb C24 (b8.of C18 O18) (b8.of C19 O19) (b8.of C23 O23)
 have O25:=cJ7 (P:=l.prog) (w:=w) (base:=base) zb C25
 have O26:=cL5 (P:=l.prog) (w:=w) (base:=base) zb C26
 have O27:=bT3 (P:=l.prog) (w:=w) (base:=base) zb C27 (b8.of C26 O26)
 have O28:=cD0 (P:=l.prog) (w:=w) (base:=base) zb C28 (b8.of C26 O26) (b8.of C27 O27)
 have O29:=cB1 (P:=l.prog) (w:=w) (base:=base) zb C29 (b8.of C26 O26)
 have O30:=bI3 (P:=l.prog) (w:=w) (base:=base) zb C30 (b8.of C29 O29) (b8.of C26 O26)
 have O31:=cK8 (P:=l.prog) (w:=w) (base:=base) zb C31 (b8.of C26 O26) (b8.of C27 O27)
 have O32:=cW1 (P:=l.prog) (w:=w) (base:=base) zb C32 (b8.of C26 O26) (b8.of C31 O31)
 have O33:=bT2 (P:=l.prog) (w:=w) (base:=base) zb C33
 have O34:=bY5 (P:=l.prog) (w:=w) (base:=base) zb C34 (b8.of C33 O33)
 have O35:=bM0 (P:=l.prog) (w:=w) (base:=base) zb C35 C36 C37 (b8.of C26 O26) (b8.of C28 O28) (b8.of C30 O30) (b8.of C32 O32) (b8.of C34 O34) (b8.of C33 O33)
 have O36:=cR4 (P:=l.prog) (w:=w) (base:=base) zb C36 (b8.of C26 O26) (b8.of C30 O30) (b8.of C32 O32) (b8.of C35 O35)
 have O37:=cQ8 (P:=l.prog) (w:=w) (base:=base) zb C37 (b8.of C26 O26) (b8.of C34 O34) (b8.of C33 O33) (b8.of C35 O35) (b8.of C36 O36)
 have O38:=bQ1 (P:=l.prog) (w:=w) (base:=base) zb C38 C39 (b8.of C33 O33) (b8.of C26 O26)
 have O39:=cA6 (P:=l.prog) (w:=w) (base:=base) zb C39 (b8.of C33 O33) (b8.of C26 O26) (b8.of C38 O38)
 have O40:=bH7 (P:=l.prog) (w:=w) (base:=base) zb C40
 have O41:=bM9 (P:=l.prog) (w:=w) (base:=base) zb C41
 have O42:=bL8 (P:=l.prog) (w:=w) (base:=base) zb C42
 have O43:=bT4 (P:=l.prog) (w:=w) (base:=base) zb C43 C44 (b8.of C33 O33) (b8.of C34 O34) (b8.of C40 O40) (b8.of C41 O41) (b8.of C42 O42)
 have O44:=dA6 (P:=l.prog) (w:=w) (base:=base) zb C44 (b8.of C34 O34) (b8.of C40 O40) (b8.of C41 O41) (b8.of C42 O42) (b8.of C43 O43)
 have O45:=cP0 (P:=l.prog) (w:=w) (base:=base) zb C45 (b8.of C24 O24) (b8.of C44 O44)
 have O46:=eZ6 (P:=l.prog) (w:=w) (base:=base) zb C46 (b8.of C24 O24) (b8.of C25 O25) (b8.of C37 O37) (b8.of C39 O39) (b8.of C33 O33) (b8.of C45 O45) (b8.of C36 O36)
 exact O46
theorem walk{l:PySem.W.OpenLaw}{q:zE}{loose:List Str}{XP:(Str->Option ze)->Heap->Prop}{YP:zP->Heap->Prop}{d:DefRec}{K:Params->zk}(hn:l.most=some 63)(hdf:d.params.defaults= [])
 (hY:∀(w:zP) (h:Heap),YP w h->(K w.params).In h)
 (F:∀(w:zP) (mg:Str->Option ze) (fa:Addr) (h:Heap),(K w.params).In h->h.Ns ji mg->mg d.name=some (.ref fa)->
   ∃fd:jm,(∀(s:zm) (u:ze),BindsTo s fd ⟨[u], []⟩ [("script",u)])/\∀base:Heap,(K w.params).In base->base.Ns ji mg->M4 l.prog w (K w.params) mg base CX0 37 fa fd ["script"] (dG9 (K w.params))):
 XO q loose XP YP l.row.toRowW d [] (λf vs=>Xl f vs):=
 L2.walk_of (n:=63) (k:=37) (x:= "script") (CX:=λ_=>CX0) (sp:=λw=>dG9 (K w.params)) hn (by decide) hdf ⟨rfl,by decide,by decide,rfl⟩ hY F (λ_ _ a ns hl hO hS=>⟨a,ns,rfl,hS,hO,hl,λ_=>rfl⟩) λ_ _ _ _ _ z=>z
mutual
noncomputable def szD:D->Nat
 | .tup l=>1+szL l
 | .str _=>1
 | .ref _=>1
 | .fn _=>1
 | .ty _=>1
 | .non=>1
 | .bl _=>1
 | .int _=>1
noncomputable def szL:List D->Nat
 |[]=>0
 |d::r=>szD d+szL r
end
theorem bU2:∀d:D,1<=szD d:=λd=>by cases d<;>unfold szD<;>lia
theorem aC0:∀l:List D,l.length<=szL l
 |[]=>by simp[szL]
 |d::r=>by
   have:=aC0 r
   have:=bU2 d
   unfold szL
   simp only[zp]
   lia
theorem R8:∀a b:List D,szL (a++b)=szL a+szL b
 |[],b=>by simp[szL]
 |d::r,b=>by
   have:=R8 r b
   simp only[ZN,szL]
   lia
theorem dE1:∀ {l:List D} {d:D},d∈l->szD d<=szL l
 |[],_,h=>by cases h
 |a::r,d,h=>by
   unfold szL
   rcases zi.mp h with rfl|h
   ·lia
   · have:=dE1 h
     lia
noncomputable def aL5(w:Str):D->Bool
 | .tup [.str a,.tup _]=>a==w
 |_=>false
noncomputable def bK5:D->List D
 | .tup [_,.tup l]=>l
 |_=> []
theorem cD9{w:Str}{d:D}(h:aL5 w d=true):∃l,d= .tup [.str w,.tup l]:=by
 unfold aL5 at h
 split at h
 · rename_i a l
   rw[beq_iff_eq]at h
   subst h
   exact⟨l,rfl⟩
 ·exact aN7 h
noncomputable def Ap(G G':DH):Prop:=∃t,G'=G++t
theorem Ap.refl{G:DH}:Ap G G:=⟨[],by simp⟩
theorem Ap.trans{G G1 G2:DH}(h:Ap G G1)(k:Ap G1 G2):Ap G G2:=by
 obtain⟨t,rfl⟩:=h
 obtain⟨u,rfl⟩:=k
 exact⟨t++u,by simp⟩
theorem Ap.one{G:DH}{o:DO}:Ap G (G++[o]):=⟨_,rfl⟩
theorem Ap.at{G G':DH}{p:Nat}{o:DO}(h:Ap G G')(e:G[p]? =some o):G'[p]? =some o:=by
 obtain⟨t,rfl⟩:=h
 exact R4 e
theorem Ap.len{G G':DH}(h:Ap G G'):G.length<=G'.length:=by
 obtain⟨t,rfl⟩:=h
 simp
section
variable{g:Fg}{t:DSt->M Bool}{e:Fe}{ck:DH->Bool}
theorem bD2(J:DH->Prop)(S:DSt->Prop)(f:D->D)(hck:∀G,J G->ck G=true):∀(items:List D) (O:DSt) (G:DH),S O->J G->
 (∀d∈items,∀ O G,S O->J G->Wp (g d O) G λW1 G1=>G1=G/\S W1/\Wp (t W1) G λb G2=>b=true/\G2=G/\Wp (e W1) G λy G3=>J G3/\y=f d)->
 Wp (Q8 g t e ck items O) G λys G'=>J G'/\ys=items.map f
 |[],O,G,s,j,_=>by
   rw[bM6]
   exact⟨hck G j,j,rfl⟩
 |d::r,O,G,s,j,step=>by
   rw[bJ4]
   refine⟨hck G j,Wp.mono (step d (by simp) O G s j) λW1 G1 ⟨e1,s1,w1⟩=>?_⟩
   subst e1
   refine Wp.mono w1 λb G2 ⟨eb,e2,w2⟩=>?_
   subst eb e2
   rw[if_pos rfl]
   refine Wp.mono w2 λy G3 ⟨j3,py⟩=>?_
   refine Wp.mono (bD2 J S f hck r W1 G3 s1 j3 λd hd=>step d (by simp[hd])) λys G4 ⟨j4,l4⟩=>⟨j4,by simp[l4,py]⟩
end
theorem eL6{G:DH}{p q:Nat}{xs:List D}{Q:DPP}(e:G[p]? =some (.lst xs))(eq:G[q]? =some (.lst [])):Wp (eqD (.ref p) (.ref q)) G Q↔Q (.bl xs.isEmpty) G:=by
 have h:eqN 40 G (.ref p) (.ref q)=some xs.isEmpty:=by
  have h1:X5 G (.ref p)=some (false,xs):=by simp only[X5,e]
  have h2:X5 G (.ref q)=some (false, []):=by simp only[X5,eq]
  rw[aU1,h1,h2]
  cases xs<;>rfl
 rw[bF2,h];exact R9
theorem fA9{G:DH}{p:Nat}{l:List D}{lo hi:Option Int}{Q:DPP}(e:G[p]? =some (.lst l)):Wp (slD (.ref p) lo hi) G Q↔Q (.ref G.length) (G++[.lst (DL.cutD l lo hi)]):=by
 have h:slD (.ref p) lo hi= (do
  let l <-V6 p >>= DL.listOf
  S6 (.lst (DL.cutD l lo hi))):=rfl
 rw[h]
 simp only[m8,U7,e,R9,DL.listOf,m6,aF0]
theorem big:1000000<zh:=by decide
section
variable{t:DSt->M Bool}{b:Fs}{O:DSt}{G:DH}{P:Fl->DH->Prop}
theorem aS7{n:Nat}:Wp (X8 (n+1) t b O) G P↔Wp (t O) G λk G1=>if k=true then Wp (b O) G1 λfl G2=>match fl with
 | .nx X1=>Wp (X8 n t b X1) G2 P
 | .ct X1=>Wp (X8 n t b X1) G2 P
 | .bk X1=>P (.nx X1) G2
 | .rt d=>P (.rt d) G2
 else P (.nx O) G1:=by
 rw[X8]
 simp only[m8,aX1,m6]
 constructor
 · rintro⟨k,G1,e,q⟩
   refine⟨k,G1,e,?_⟩
   rcases k with _|_
   ·exact q
   ·
     simp only[if_true]at q ⊢
     obtain⟨fl,G2,e2,q⟩:=q
     refine⟨fl,G2,e2,?_⟩
     cases fl<;>first
      |exact q
      |exact m6.mp q
 · rintro⟨k,G1,e,q⟩
   refine⟨k,G1,e,?_⟩
   rcases k with _|_
   ·exact q
   ·
     simp only[if_true]at q ⊢
     obtain⟨fl,G2,e2,q⟩:=q
     refine⟨fl,G2,e2,?_⟩
     cases fl<;>first
      |exact q
      |exact m6.mpr q
theorem cA3{n:Nat}(h:Wp (X8 n t b O) G P):Wp (bC6 t b O) G P:=by
 obtain⟨a,G',e,q⟩:=h
 refine⟨a,G',?_,q⟩
 have hx:∃n,(X8 n t b O G).isSome=true:=⟨n,by rw[e];rfl⟩
 unfold bC6
 rw[dif_pos hx]
 have hs:=Classical.choose_spec hx
 obtain⟨r,hr⟩:=Yo.mp hs
 rw[hr]
 have e1:=cE5 (Yi n (Zr hx)) e
 have e2:=cE5 (ZV n (Zr hx)) hr
 rw[e1]at e2
 exact e2.symm
end
theorem cN3{r:Nat}{l:List D}{y:D}{G:DH}{Q:DPP}(h:G[r]? =some (.lst (l++[y]))):Wp (eO5 (.ref r) []) G Q↔Q y (G.set r (.lst l)):=by
 have e:eO5 (.ref r) []= (do
  let l <-lstM r
  match l.getLast? with
  |some y=>do
    let _ <-bU1 r (.lst l.dropLast)
    pure y
  |none=>M.stuck):=rfl
 rw[e]
 unfold lstM
 simp only[m8,U7,h,R9,m6,List.getLast?_append,List.getLast?_singleton,Option.some_or,List.dropLast_concat,bO0]
theorem aW1{r q:Nat}{l k:List D}{G:DH}{Q:DPP}(h:G[r]? =some (.lst l))(hq:G[q]? =some (.lst k))(hl:l.length+k.length<=zh):Wp (aQ4 (.ref r) [.ref q]) G Q↔Q .non (G.set r (.lst (l++k))):=by
 have e:aQ4 (.ref r) [.ref q]= (do
  let l <-lstM r
  let k <-lstM q
  if l.length+k.length<=zh then do
   let _ <-bU1 r (.lst (l++k))
   pure .non
  else M.stuck):=rfl
 rw[e]
 unfold lstM
 simp only[m8,U7,h,hq,R9,m6,if_pos hl,bO0]
theorem aT4{p:Nat}{xs:List D}{G:DH}{B:Bool->DH->Prop}(e:G[p]? =some (.lst xs)):Wp (aF4 (.ref p)) G B↔B (!xs.isEmpty) G:=by
 unfold aF4
 simp only[m8,U7,e,R9,m6]
theorem lt_of_get{G:DH}{p:Nat}{o:DO}(e:G[p]? =some o):p<G.length:=by
 by_cases hi:p<G.length
 ·exact hi
 ·rw[jn (by lia)]at e;exact J4 e
section
variable{bd n:Nat}
end
theorem dE2:∀l:List D,szL l.reverse=szL l
 |[]=>rfl
 |x::r=>by rw[xJ,R8,dE2 r];simp only[szL];lia
theorem cA0(l:List D)(n:Nat):DL.cutD l none (some (n:Int))=l.take n:=by
 unfold DL.cutD
 rw[HT.sIx_none,HT.sIx_nat,Jj,Nat.sub_zero]
 by_cases h:n<=l.length
 ·rw[Zb h]
 ·rw[ZU (by lia),yB (zd _),yB (by lia)]
theorem cV5(l:List D)(n:Nat):DL.cutD l (some (n:Int)) none=l.drop n:=by
 unfold DL.cutD
 rw[HT.sIx_none,HT.sIx_nat]
 by_cases h:n<=l.length
 ·rw[Zb h,yB (by rw[yf];lia)]
 · rw[ZU (by lia),xU (zd _),xU (by lia)]
   simp
section
variable{G:DH}{Q:DPP}
noncomputable def X7:D->Bool
 | .bl _=>true
 |_=>false
theorem cI9{d:D}(h:aH0 G d):Wp (o6 [d,.ty "bool"]) G Q↔Q (.bl (X7 d)) G:=by
 obtain⟨k,h⟩:=h
 rw[bD6 eO8]
 simp only[h,R9]
 rw[dH9 (X7) (λk=>k.is .bool) h (λ_=>⟨rfl,rfl⟩) rfl (λ_=>rfl) (λ_=>rfl) (λ_=>rfl) λ_=>rfl]
theorem dA4{k:Bool}:Wp (cQ1 [.bl k]) G Q↔Q (.int (if k then 1 else 0)) G:=m6
theorem eP3{ds:List D}{k:Int}(h0:0<=k)(h1:k<ds.length)(q:∀d∈ds,Q d (G++[.lst ds])):Wp (ixD (.ref G.length) (.int k)) (G++[.lst ds]) Q:=by
 rw[aL3 o5]
 obtain⟨d,hd,e⟩:=bW6 (l:=ds) h0 h1
 exact⟨d,e,q d hd⟩
end
section
variable{α β:Type}{R S:α->β->Prop}
end
mutual
noncomputable def AT(n:Nat):D->Prop
 | .str z=>z.length<=1000
 | .tup l=>ATL n l
 | .ref i=>i<n
 | .fn _=>False
 | .ty _=>False
 | .non=>True
 | .bl _=>True
 | .int _=>True
noncomputable def ATL(n:Nat):List D->Prop
 |[]=>True
 |d::r=>AT n d/\ATL n r
end
theorem dF4{n:Nat}:∀ {l:List D},ATL n l↔∀x∈l,AT n x
 |[]=>by simp[ATL]
 |d::r=>by
   unfold ATL
   rw[dF4 (l:=r)]
   simp
theorem bG6{n:Nat}{l:List D}:AT n (.tup l)↔∀x∈l,AT n x:=by
 have e:AT n (.tup l)=ATL n l:=by rw[AT]
 rw[e];exact dF4
mutual
theorem AT.le{n m:Nat}(h:n<=m):∀ {d:D},AT n d->AT m d
 | .str z,a=>by unfold AT at *;exact a
 | .tup l,a=>by unfold AT at *;exact ATL.le h a
 | .ref i,a=>by unfold AT at *;omega
 | .fn _,a=>by unfold AT at a;exact a.elim
 | .ty _,a=>by unfold AT at a;exact a.elim
 | .non,a=>by unfold AT;trivial
 | .bl _,a=>by unfold AT;trivial
 | .int _,a=>by unfold AT;trivial
theorem ATL.le{n m:Nat}(h:n<=m):∀ {l:List D},ATL n l->ATL m l
 |[],_=>by unfold ATL;trivial
 |d::r,a=>by unfold ATL at *;exact⟨AT.le h a.1,ATL.le h a.2⟩
end
theorem AT.there{G:DH}{d:D}(h:AT G.length d):aH0 G d:=by
 cases d with
 |ref i=>
   unfold AT at h
   have e:G[i]? =some G[i]:=zD h
   cases ho:G[i] with
   |lst l=>exact⟨.list,by simp only[aW0,e,ho]⟩
   |rol l=>exact⟨.list,by simp only[aW0,e,ho]⟩
   |dct l=>exact⟨.dict,by simp only[aW0,e,ho]⟩
   |rod l=>exact⟨.dict,by simp only[aW0,e,ho]⟩
 |fn _=>unfold AT at h;exact h.elim
 |ty _=>unfold AT at h;exact h.elim
 |_=>exact⟨_,rfl⟩
def dP5:D->Bool
 | .str s=>bG7 (s.cps.getD 0 0)
 |_=>false
def aE0:D->Bool
 | .str z=>Q9 z
 |_=>false
theorem cH4(z:Str):(aG9 z).all dP5=Q9 z:=by
 unfold aG9 Q9
 rw[yK]
 rfl
theorem cG4(z:Str):(aG9 z).length=z.length:=by
 unfold aG9
 rw[zo]
 rfl
theorem cF6{z:Str}{d:D}(h:d∈aG9 z):∃c,d= .str ⟨#[c]⟩:=by
 unfold aG9 at h
 obtain⟨c,_,rfl⟩:=zw.mp h
 exact⟨c,rfl⟩
theorem eN8{c:Nat}{G:DH}{Q:DPP}:Wp (leD (.str ("a" :Str)) (.str ⟨#[c]⟩)) G Q↔Q (.bl (decide (97<=c))) G:=by rw[cJ0,gD6]
theorem eG6{c:Nat}{G:DH}{Q:DPP}:Wp (leD (.str ⟨#[c]⟩) (.str ("z" :Str))) G Q↔Q (.bl (decide (c<=122))) G:=by rw[cJ0,gE4]
theorem dE7(c:Nat):dP5 (.str ⟨#[c]⟩)=bG7 c:=rfl
theorem aW7{n:Nat}{z:Str}(h:AT n (.str z)):z.length<=1000:=by unfold AT at h;exact h
theorem bW8{d:D}{G:DH}(h:AT G.length d):Wp (aD3 [d]) G λx G'=>x= .bl (aE0 d)/\Ap G G':=by
 have bg:=big
 unfold aD3 bN6
 have s0:([d].map some++jb (1 - [d].length) none:DSt)= [some d]:=rfl
 simp only[aK3,s0,aR5,bD8,aA6,aA8,o9,bB5,aE1,zN,exists_eq_left',zI,cY2 h.there,S9]
 cases d with
 |str z=>
   have hz:=aW7 h
   simp only[aF6,if_true]
   rw[eI0 (s:=⟨aG9 z,λ_=>true⟩) (f:=λx=>.bl (dP5 x)) (λO=>O.length=1) rfl (by show (aG9 z).length<=_;rw[cG4];omega) rfl rfl (λx hx O WM=>?_)]
   · rw[bP3 (l:=aG9 z) (f:=dP5) o5]
     exact⟨by rw[cH4];rfl,Ap.one⟩
   · obtain⟨c,rfl⟩:=cF6 hx
     match O,WM with
     |[u],_=>
       refine⟨[some (.str ⟨#[c]⟩)],rfl,rfl,rfl,aA3 ?_⟩
       simp only[eB1,bB5,aE1,zI,zN,exists_eq_left',eN8,eG6,dU3,dE7,bG7]
       by_cases h1:97<=c
       ·simp[h1]
       ·simp[h1]
 |_=>simp only[aF6,jf,if_false];exact⟨rfl,Ap.refl⟩
theorem cM5{d:D}{w:Str}{G:DH}{Q:DPP}(h:AT G.length d):Wp (aC9 [d,.str w]) G Q↔Q (.bl (aL5 w d)) G:=by
 unfold aC9 bC2
 have s0:([d,.str w].map some++jb (2 - [d,.str w].length) none:DSt)= [some d,some (.str w)]:=rfl
 simp only[aK3,s0,m9,bX4,aX0,bV0,cL2,aD0,aR5,bD8,bO2,aA6,aA8,o9,bB5,aE1,J1,zN,exists_eq_left',zI,yW,bA7 h.there,S9,dU3]
 cases d with
 |tup l=>
   rw[bG6]at h
   match l,h with
   |[],_=>simp[Q7,aQ5,V0,aL5]
   |[a],_=>simp[Q7,aQ5,V0,aL5]
   |[a,b],h=>
     have ha:=h a (by simp)
     have hb:=h b (by simp)
     simp only[Q7,if_true,aQ5,V0,dU3,S9,zp,jk,ix_tup,at0,at1,zN,exists_eq_left',cY2 ha.there]
     simp only[show decide (((0+1+1:Nat):Int)=2)=true from rfl,xl,jf,if_false]
     cases a with
     |str z=>
       simp only[aF6,if_true,eX5,S9,bA7 hb.there]
       by_cases hz:(z==w)=true
       · simp only[hz,if_true]
         cases b<;>simp[Q7,aL5,hz]
       · have hz':(z==w)=false:=by simpa using hz
         simp only[hz',jf,if_false]
         cases b<;>simp[aL5,hz']
     |_=>simp only[aF6,jf,if_false,aL5]
   |a::b::c::r,_=>
     have n2:¬((r.length:Int)+1+1+1=2):=by omega
     simp[Q7,aQ5,V0,aL5,n2]
 |_=>simp[Q7,aL5]
theorem cO9{G:DH}{O:DSt}{fs:DSt->M (List D)}{R:Src->DH->Prop}:Wp (bZ0 fs O) G R↔Wp (fs O) G λxs G1=>Wp (match xs with
 |[a,b]=>do
   let s1 <-aK6 a
   let s2 <-aK6 b
   pure ⟨(s1.items.zip s2.items).map λp=>.tup [p.1,p.2],λG=>s1.ck G&&s2.ck G⟩
 |_=>M.stuck:M Src) G1 R:=by
 unfold bZ0;simp only[m8]<;>rfl
theorem eO9{G:DH}{p q:Nat}{k l:List D}{R:Src->DH->Prop}(ep:G[p]? =some (.lst k))(eq:G[q]? =some (.lst l)):Wp (match [D.ref p,D.ref q] with
 |[a,b]=>do
   let s1 <-aK6 a
   let s2 <-aK6 b
   pure ⟨(s1.items.zip s2.items).map λp=>.tup [p.1,p.2],λG=>s1.ck G&&s2.ck G⟩
 |_=>M.stuck:M Src) G R↔R ⟨(k.zip l).map λp=>.tup [p.1,p.2],λG=>ckO p (.lst k) G&&ckO q (.lst l) G⟩ G:=by
 show Wp (do
  let s1 <-aK6 (.ref p)
  let s2 <-aK6 (.ref q)
  pure ⟨(s1.items.zip s2.items).map λp=>.tup [p.1,p.2],λG=>s1.ck G&&s2.ck G⟩:M Src) G R↔_
 simp only[m8]
 rw[bU6 (O:= []) ep,bU6 (O:= []) eq]
 exact m6
theorem cR9{G:DH}{k l:List D}{R:Src->DH->Prop}:Wp (match [D.tup k,D.tup l] with
 |[a,b]=>do
   let s1 <-aK6 a
   let s2 <-aK6 b
   pure ⟨(s1.items.zip s2.items).map λp=>.tup [p.1,p.2],λG=>s1.ck G&&s2.ck G⟩
 |_=>M.stuck:M Src) G R↔R ⟨(k.zip l).map λp=>.tup [p.1,p.2],λ_=>true&&true⟩ G:=by
 show Wp (do
  let s1 <-aK6 (.tup k)
  let s2 <-aK6 (.tup l)
  pure ⟨(s1.items.zip s2.items).map λp=>.tup [p.1,p.2],λG=>s1.ck G&&s2.ck G⟩:M Src) G R↔_
 simp only[m8]
 exact ZW (m6 (a:=(⟨k,λ_=>true⟩:Src))) (ZW (m6 (a:=(⟨l,λ_=>true⟩:Src))) m6)
theorem cM7{G:DH}{p:Nat}{l:List D}{lo hi:Option Int}{Q:DPP}(e:G[p]? =some (.lst l)):Wp (slT (.ref p) lo hi) G Q↔Q (.ref G.length) (G++[.lst (DL.cutD l lo hi)]):=fA9 e
noncomputable def prB(f:D->D->Bool):D->Bool
 | .tup [a,b]=>f a b
 |_=>false
noncomputable def aS3(xs:List D):List D:=(xs.zip (xs.drop 1)).map λp=>.tup [p.1,p.2]
def aB8(f:D->D->Bool)(xs:List D):Bool:=(aS3 xs).all (prB f)
theorem bO9(xs:List D):(aS3 xs).length<=xs.length:=by
 unfold aS3
 rw[zo,yQ,yf];omega
theorem cT4{G:DH}{ck:DH->Bool}{d:D}{xs:List D}{f:D->D->Bool}(hck:ck G=true)(hlt:∀a∈xs,∀b∈xs,ltN 40 G a b=some (f a b)):Q8 (cB8 2 (aD9 (q16 0) (aD9 (q16 1) cC6))) aA2 (d7 ltD (c7 0) (c7 1)) ck (aS3 xs) (Z6 [none,none] [some d]) G=some (.ok ((aS3 xs).map λx=>.bl (prB f x)),G):=by
 refine aM8 (I:=λO=>O.length=2) hck _ _ rfl λd hd O WM=>?_
 obtain⟨q,hq,rfl⟩:=zw.mp hd
 match O,WM with
 |[u,v],_=>
   refine⟨[some q.1,some q.2],rfl,rfl,rfl,aA3 ?_⟩
   simp only[bO2,aE1,zI,yW,zN,exists_eq_left',eQ6]
   have h1:=yD (a:=q.1) (b:=q.2) hq
   exact⟨_,hlt _ h1.1 _ (jY h1.2),rfl,trivial⟩
theorem cA2{G:DH}{p:Nat}{xs:List D}{f:D->D->Bool}(e:G[p]? =some (.lst xs))(hl:xs.length<=zh)(hlt:∀G,∀a∈xs,∀b∈xs,ltN 40 G a b=some (f a b)):Wp (Z5 [.ref p]) G λx G'=>x= .bl (aB8 f xs)/\Ap G G':=by
 unfold Z5 bI0
 have s0:([D.ref p].map some++jb (1 - [D.ref p].length) none:DSt)= [some (.ref p)]:=rfl
 simp only[aK3,s0,aR5,aA6,aA8,o9,wp_comp,cO9,aD5,bO4,cL0,bB5,aE1,zN,exists_eq_left',zI,fJ9,cM7 e]
 rw[eO9 (R4 e) o5,dR4]
 refine⟨zv (bO9 xs) hl,?_⟩
 refine(aK2 (cT4 (xs:=xs) (f:=f) ?_ (hlt _))).mpr ?_
 ·simp only[ckO,R4 e,o5];simp
 rw[bP3 (l:=aS3 xs) (f:=prB f) o5]
 exact⟨rfl,Ap.one.trans Ap.one⟩
theorem cZ8{G:DH}{xs:List D}{f:D->D->Bool}(hl:xs.length<=zh)(hlt:∀G,∀a∈xs,∀b∈xs,ltN 40 G a b=some (f a b)):Wp (Z5 [.tup xs]) G λx G'=>x= .bl (aB8 f xs)/\Ap G G':=by
 unfold Z5 bI0
 have s0:([D.tup xs].map some++jb (1 - [D.tup xs].length) none:DSt)= [some (.tup xs)]:=rfl
 simp only[aK3,s0,aR5,aA6,aA8,o9,wp_comp,cO9,aD5,bO4,cL0,bB5,aE1,zN,exists_eq_left',zI,fJ9,bJ7]
 rw[cR9,dR4]
 refine⟨zv (bO9 xs) hl,?_⟩
 refine(aK2 (cT4 (xs:=xs) (f:=f) rfl (hlt _))).mpr ?_
 rw[bP3 (l:=aS3 xs) (f:=prB f) o5]
 exact⟨rfl,Ap.one⟩
noncomputable def aV8:D->D
 | .str z=>.tup [.int z.length,.str z]
 |_=>.non
noncomputable def txB(a b:Str):Bool:=if a.length=b.length then decide (a.cps.toList<b.cps.toList)else decide (a.length<b.length)
def eJ0:D->D->Bool
 | .tup [_,.str a],.tup [_,.str b]=>txB a b
 |_,_=>false
def txD:D->D->Bool
 | .str a,.str b=>txB a b
 |_,_=>false
theorem aF1{d:D}(h:aE0 d=true):∃z,d= .str z:=by
 cases d with
 |str z=>exact⟨z,rfl⟩
 |_=>cases h
theorem fI2{G:DH}{a b:Str}:ltN 40 G (aV8 (.str a)) (aV8 (.str b))=some (txB a b):=by
 show ltL (eqN 39 G) (ltN 39 G) [.int a.length,.str a] [.int b.length,.str b]=_
 have e1:eqN 39 G (.int a.length) (.int b.length)=some (decide ((a.length:Int)=b.length)):=rfl
 have e2:eqN 39 G (.str a) (.str b)=some (a==b):=rfl
 unfold txB
 unfold ltL
 rw[e1]
 by_cases h:a.length=b.length
 · have h':((a.length:Int)=b.length):=by omega
   rw[if_pos h]
   simp only[h',decide_true]
   unfold ltL
   rw[e2]
   by_cases k:a=b
   · subst k
     simp[ltL,Yr]
   · have k':(a==b)=false:=by simpa using k
     rw[k']
     rfl
 · have h':¬((a.length:Int)=b.length):=by omega
   rw[if_neg h]
   simp only[h',decide_false]
   show some (decide ((a.length:Int)<b.length))=_
   congr 1
   by_cases k:a.length<b.length
   ·rw[decide_eq_true k,decide_eq_true (by omega)]
   ·rw[decide_eq_false k,decide_eq_false (by omega)]
theorem dD2:∀ {xs:List D},xs.all aE0=true->aB8 eJ0 (xs.map aV8)=aB8 txD xs
 |[],_=>rfl
 |[a],_=>by cases a<;>rfl
 |a::b::r,h=>by
   have h1:=h
   rw[zB,zg]at h1
   have h2:=h1.2
   rw[zB,zg]at h2
   have ih:=dD2 h1.2
   obtain⟨x,rfl⟩:=aF1 h1.1
   obtain⟨y,rfl⟩:=aF1 h2.1
   show (txB x y&&aB8 eJ0 ((.str y::r).map aV8))= (txB x y&&aB8 txD (.str y::r))
   rw[ih]
theorem cC3{z:Str}{G:DH}{Q:DPP}(h:z.length<=zh):Wp (W2 [.str z]) G Q↔Q (aV8 (.str z)) G:=by
 unfold W2 aU7
 have s0:([D.str z].map some++jb (1 - [D.str z].length) none:DSt)= [some (.str z)]:=rfl
 simp only[aK3,s0,aR5,aB7,aA6,aA8,o9,aE1,zN,exists_eq_left',zI,bH8 h]
 exact⟨λq=>q.2,λq=>⟨sz,q⟩⟩
abbrev wOf:Str:= "of"
noncomputable abbrev aR9:Str:= "but"
def U3(d:D):Bool:=(aL5 wOf d||aL5 aR9 d)&&((bK5 d).all aE0&&aB8 txD (bK5 d))
theorem eL7{xs:List D}(h:xs.all aE0=true):∀G:DH,∀a∈xs.map aV8,∀b∈xs.map aV8,ltN 40 G a b=some (eJ0 a b):=by
 intro G a ha b hb
 obtain⟨x,hx,rfl⟩:=zw.mp ha
 obtain⟨y,hy,rfl⟩:=zw.mp hb
 obtain⟨s,rfl⟩:=aF1 (zn.mp h x hx)
 obtain⟨t,rfl⟩:=aF1 (zn.mp h y hy)
 rw[fI2]
 rfl
theorem cM8{d:D}(h:(aL5 wOf d||aL5 aR9 d)=true):∃w l,d= .tup [.str w,.tup l]/\(w=wOf\/w=aR9):=by
 rw[yS]at h
 rcases h with h|h
 ·obtain⟨l,rfl⟩:=cD9 h;exact⟨_,l,rfl,.inl rfl⟩
 ·obtain⟨l,rfl⟩:=cD9 h;exact⟨_,l,rfl,.inr rfl⟩
theorem dU5{n:Nat}{w:Str}{l:List D}(h:AT n (.tup [.str w,.tup l])):∀x∈l,AT n x:=by
 rw[bG6]at h
 have h2:=h (.tup l) (by simp)
 rw[bG6]at h2
 exact h2
theorem cU6{d:D}{G:DH}(h:AT G.length d)(hz:szD d<=zh):Wp (aJ8 [d]) G λx G'=>x= .bl (U3 d)/\Ap G G':=by
 have bg:=big
 unfold aJ8 bH1
 have s0:([d].map some++jb (1 - [d].length) none:DSt)= [some d]:=rfl
 simp only[aK3,s0,m9,bX4,aX0,cY9,aD0,aR5,bO2,aA6,aA8,o9,bB5,aE1,aL2,J1,zN,exists_eq_left',zI,cM5 h,S9,wp_comp,wp_itW]
 have key:∀b:Bool,b= (aL5 wOf d||aL5 aR9 d)->if (!b)=true then (D.bl false= .bl (U3 d)/\Ap G G)else Wp (ixD d (.int 1)) G λx G1=>Wp (bP4 x) G1 λs G1=>s.items.length<=zh/\Wp (Q8 (q16 0) aA2 (q15 (fnX 1 aD3) (q13 (c7 0) q14)) s.ck s.items (Z6 [none] [some d])) G1 λys G2=>Wp (aY1 [.ref G2.length]) (G2++[.lst ys]) λx G1=>Wp (aF4 x) G1 λb G1=>if (!b)=true then (D.bl false= .bl (U3 d)/\Ap G G1)else Wp (ixD d (.int 1)) G1 λx G1=>Wp (bP4 x) G1 λs G1=>s.items.length<=zh/\Wp (Q8 (q16 0) aA2 (q15 (fnX 1 W2) (q13 (c7 0) q14)) s.ck s.items (Z6 [none] [some d])) G1 λys G2=> [D.ref G2.length].length=1/\Wp (Z5 [.ref G2.length]) (G2++[.lst ys]) λx G'=>x= .bl (U3 d)/\Ap G G':=by
  intro b hb
  cases b with
  |false=>
    simp only[xF,if_true]
    refine⟨?_,Ap.refl⟩
    unfold U3
    rw[<-hb];rfl
  |true=>
    simp only[xl,jf,if_false]
    have ht:U3 d= ((bK5 d).all aE0&&aB8 txD (bK5 d)):=by unfold U3;rw[<-hb];rfl
    rw[ht]
    obtain⟨w,l,rfl,_⟩:=cM8 hb.symm
    have hp:=dU5 h
    have hll:l.length<=zh:=by
     have:=aC0 l
     simp only[szD,szL]at hz
     omega
    simp only[ix_tup,at1,zN,exists_eq_left',srcW_tup,bK5]
    refine⟨hll,?_⟩
    refine Wp.mono (bD2 (Ap G) (λO=>O.length=1) (λx=>.bl (aE0 x)) (λ_ _=>rfl) l _ G rfl Ap.refl λx hx O G2 WM j=>?_) λys G2 ⟨j2,ey⟩=>?_
    · match O,WM with
      |[u],_=>
        simp only[Q5,XA,wp_trueT,aA6,aA8,o9,aE1,zI,zN,exists_eq_left',aL2]
        exact⟨trivial,rfl,trivial,trivial,rfl,Wp.mono (bW8 ((hp x hx).le j.len)) λy G3 ⟨e,a⟩=>⟨j.trans a,e⟩⟩
    · subst ey
      rw[bP3 (l:=l) (f:=aE0) o5,S9]
      by_cases ha:l.all aE0=true
      · simp only[ha,xl,jf,if_false,zT]
        refine⟨hll,?_⟩
        have j3:Ap G (G2++[DO.lst (l.map λx=>.bl (aE0 x))]):=j2.trans Ap.one
        generalize (G2++[DO.lst (l.map λx=>.bl (aE0 x))])=G3 at j3 ⊢
        have hc:Q8 (q16 0) aA2 (q15 (fnX 1 W2) (q13 (c7 0) q14)) (λ_=>true) l (Z6 [none] [some (.tup [.str w,.tup l])]) G3=some (.ok (l.map aV8),G3):=by
         refine aM8 (I:=λO=>O.length=1) rfl _ _ rfl λx hx O WM=>?_
         obtain⟨z,rfl⟩:=aF1 (zn.mp ha x hx)
         have hzl:=aW7 (hp _ hx)
         match O,WM with
         |[u],_=>
           refine⟨[some (.str z)],rfl,rfl,rfl,aA3 ?_⟩
           simp only[aA6,aA8,o9,aE1,zI,zN,exists_eq_left',aL2]
           refine⟨rfl,?_⟩
           rw[cC3 (by omega)]
           exact⟨rfl,rfl⟩
        refine(aK2 hc).mpr ⟨rfl,?_⟩
        refine Wp.mono (cA2 (f:=eJ0) o5 (by rw[zo];exact hll) (eL7 ha)) λx G4 ⟨e,a⟩=>⟨?_,j3.trans (Ap.one.trans a)⟩
        rw[e,dD2 ha]
      · have ha':l.all aE0=false:=by simpa using ha
        simp only[ha',xF,if_true,jP]
        exact⟨trivial,j2.trans Ap.one⟩
 refine⟨rfl,?_⟩
 by_cases h1:aL5 wOf d=true
 · have k:=key true (by rw[h1];rfl)
   simp only[h1,if_true]at k ⊢
   exact k
 · have h1':aL5 wOf d=false:=by simpa using h1
   have k:=key (aL5 aR9 d) (by rw[h1'];rfl)
   simp only[h1',jf,if_false]at k ⊢
   exact⟨rfl,k⟩
noncomputable def blD:D->D->Bool
 | .bl a,.bl b=>decide (b2i a<b2i b)
 |_,_=>false
def U4:D->Bool
 | .tup l=>l.all X7&&aB8 blD l
 |_=>false
theorem W3{d:D}(h:X7 d=true):∃b,d= .bl b:=by
 cases d with
 |bl b=>exact⟨b,rfl⟩
 |_=>cases h
theorem fI7{xs:List D}(h:xs.all X7=true):∀G:DH,∀a∈xs,∀b∈xs,ltN 40 G a b=some (blD a b):=by
 intro G a ha b hb
 obtain⟨s,rfl⟩:=W3 (zn.mp h a ha)
 obtain⟨t,rfl⟩:=W3 (zn.mp h b hb)
 rfl
theorem cO4{d:D}{G:DH}(h:AT G.length d)(hz:szD d<=zh):Wp (aG1 [d]) G λx G'=>x= .bl (U4 d)/\Ap G G':=by
 unfold aG1 aY2
 have s0:([d].map some++jb (1 - [d].length) none:DSt)= [some d]:=rfl
 simp only[aK3,s0,m9,bX4,aX0,aD0,aR5,bD8,aA6,aA8,o9,bB5,aE1,aL2,J1,zN,exists_eq_left',zI,bA7 h.there,S9,wp_comp,wp_itW]
 cases d with
 |tup l=>
   rw[bG6]at h
   have hll:l.length<=zh:=by
    have:=aC0 l
    simp only[szD]at hz
    omega
   simp only[Q7,xl,jf,if_false,srcW_tup]
   refine⟨hll,?_⟩
   have hc:Q8 (q16 0) aA2 (q15 o6 (q13 (c7 0) (q13 (cE (.ty "bool")) q14))) (λ_=>true) l (Z6 [none] [some (.tup l)]) G=some (.ok (l.map λx=>.bl (X7 x)),G):=by
    refine aM8 (I:=λO=>O.length=1) rfl _ _ rfl λx hx O WM=>?_
    match O,WM with
    |[u],_=>
      refine⟨[some x],rfl,rfl,rfl,aA3 ?_⟩
      simp only[aA6,aA8,o9,aE1,bB5,zI,zN,exists_eq_left',cI9 (h x hx).there]
      exact⟨trivial,trivial⟩
   refine(aK2 hc).mpr ?_
   rw[bP3 (l:=l) (f:=X7) o5,S9]
   by_cases ha:l.all X7=true
   · simp only[ha,if_true]
     refine⟨rfl,Wp.mono (cZ8 (f:=blD) hll (fI7 ha)) λx G4 ⟨e,a⟩=>⟨?_,Ap.one.trans a⟩⟩
     rw[e];simp only[U4,ha,zT]
   · have ha':l.all X7=false:=by simpa using ha
     simp only[ha',jf,if_false]
     exact⟨by simp only[U4,ha',jP],Ap.one⟩
 |_=>simp only[Q7,xF,if_true];exact⟨rfl,Ap.refl⟩
theorem eU4{g:Fg}{e:Fe}{ck:DH->Bool}(J:DH->Prop)(S:DSt->Prop)(rel:D->D->Prop)(hck:∀G,J G->ck G=true):∀(items:List D) (O:DSt) (G:DH),S O->J G->
 (∀d∈items,∀ O G,S O->J G->Wp (g d O) G λW1 G1=>G1=G/\S W1/\Wp (e W1) G λy G3=>J G3/\rel d y)->
 Wp (Q8 g aA2 e ck items O) G λys G'=>J G'/\∃zs:List (D×D),zs.map (·.1)=items/\ys=zs.map (·.2)/\∀z∈zs,rel z.1 z.2
 |[],O,G,s,j,_=>bM6.mpr ⟨hck G j,j, [],rfl,rfl,λ_ h=>nomatch h⟩
 |d::r,O,G,s,j,step=>by
   refine bJ4.mpr ⟨hck G j,(step d (zc ..) O G s j).mono λW1 G1 ⟨e1,s1,w1⟩=>?_⟩
   subst e1
   refine d9 (a:=true) rfl ?_
   rw[if_pos rfl]
   refine w1.mono λy G3 ⟨j3,py⟩=>?_
   refine(eU4 J S rel hck r W1 G3 s1 j3 λd hd=>step d (zf _ hd)).mono λys G4 ⟨j4,zs,h1,h2,h3⟩=>⟨j4,(d,y)::zs,by rw[zS,h1],by rw[zS,h2],λz hz=>?_⟩
   rcases zi.mp hz with rfl|hz
   ·exact py
   ·exact h3 z hz
section
variable{r:Nat}{G:DH}
end
theorem dM7{p:Nat}{l:List D}{G:DH}(e:G[p]? =some (.lst l)):ckO p (.lst l) G=true:=by simp only[ckO,e];simp
theorem dU6{f:D->D}:∀ {zs:List (D×D)},(∀z∈zs,z.2=f z.1)->zs.map (·.2)= (zs.map (·.1)).map f
 |[],_=>rfl
 |z::r,h=>by rw[zS,zS,zS,h z (zc ..),dU6 λy hy=>h y (zf _ hy)]
theorem eS0{G G':DH}{d:D}(h:aH0 G d)(j:Ap G G'):aH0 G' d:=by
 obtain⟨k,h⟩:=h
 refine⟨k,?_⟩
 cases d with
 |ref i=>
   simp only[aW0]at h ⊢
   rcases e:G[i]? with _|o
   ·rw[e]at h;cases h
   ·rw[e]at h;rw[j.at e];exact h
 |_=>exact h
def Ev(m:M D)(G:DH)(b:Bool):Prop:=∀Q:DPP,(∀G',Ap G G'->Q (.bl b) G')->Wp m G Q
def EvT(m:M Bool)(G:DH)(b:Bool):Prop:=∀Q:Bool->DH->Prop,(∀G',Ap G G'->Q b G')->Wp m G Q
section
variable{a b:Fe}{t u:DSt->M Bool}{O:DSt}{G:DH}{x y:Bool}
theorem Ev.of{m:M D}(e:m G=some (.ok (.bl x),G)):Ev m G x:=λQ q=>d9 e (q G Ap.refl)
theorem EvT.of{m:M Bool}(e:m G=some (.ok x,G)):EvT m G x:=λQ q=>d9 e (q G Ap.refl)
theorem R0(h:Ev (a O) G x):EvT (o7 a O) G x:=λQ q=>aD0.mpr<| h _ λG' j=>S9.mpr (q G' j)
theorem T6(h:Ev (a O) G x):EvT (o8 a O) G x:=λQ q=>R7<| h _ λG' j=>⟨x,rfl,q G' j⟩
theorem aB2(h:EvT (t O) G x):EvT (R1 t O) G (!x):=λQ q=>aX0.mpr<| h _ λG' j=>q G' j
theorem aM0(h:EvT (t O) G x)(k:x=true->∀G',Ap G G'->EvT (u O) G' y):EvT (aB3 t u O) G (x&&y):=λQ q=>cG3<| h _ λG' j=>by
 cases x
 ·exact⟨λh=>(nomatch h),λ_=>q G' j⟩
 ·exact⟨λ_=>k rfl G' j _ λG2 j2=>q G2 (j.trans j2),λh=>(nomatch h)⟩
theorem aS0(h:EvT (t O) G x)(k:x=false->∀G',Ap G G'->EvT (u O) G' y):EvT (orT t u O) G (x||y):=λQ q=>fL1<| h _ λG' j=>by
 cases x
 ·exact⟨λh=>(nomatch h),λ_=>k rfl G' j _ λG2 j2=>q G2 (j.trans j2)⟩
 ·exact⟨λ_=>q G' j,λh=>(nomatch h)⟩
theorem bN0(h:Ev (a O) G x)(k:x=true->∀G',Ap G G'->Ev (b O) G' y):Ev (aB4 a b O) G (x&&y):=λQ q=>bD8.mpr<| h _ λG' j=>S9.mpr<| by
 cases x
 ·rw[if_neg (by decide)];exact q G' j
 ·rw[if_pos rfl];exact k rfl G' j _ λG2 j2=>q G2 (j.trans j2)
theorem eT4(h:Ev (a O) G x)(k:x=false->∀G',Ap G G'->Ev (b O) G' y):Ev (dA0 a b O) G (x||y):=λQ q=>dR9.mpr<| h _ λG' j=>S9.mpr<| by
 cases x
 ·rw[if_neg (by decide)];exact k rfl G' j _ λG2 j2=>q G2 (j.trans j2)
 ·rw[if_pos rfl];exact q G' j
theorem dC1(h:Ev (a O) G x):Ev (cD1 a O) G (!x):=λQ q=>fK4.mpr<| h _ λG' j=>⟨x,rfl,q G' j⟩
def EvS(S:Fs)(O:DSt)(G:DH)(b:Bool):Prop:=∀Q:DPP,(∀G',Ap G G'->Q (.bl b) G')->Wp (S O) G (PB Q)
theorem aQ7(h:Ev (a O) G x):EvS (t8 a) O G x:=λQ q=>U5<| h _ λG' j=>R6 (q G' j)
theorem cE2{g:Fs}(h:EvT (t O) G x)(k:x=true->∀G',Ap G G'->EvS g O G' y):EvS (j0 (ifS (R1 t) (t8 (cE (.bl false))) u0) g) O G (x&&y):=λQ q=>m9.mpr<| aH1<| aX0.mpr<| h _ λG' j=>by
 cases x
 ·exact⟨λ_=>U5<| bB5.mpr<| R6 (q G' j),λh=>(nomatch h)⟩
 ·exact⟨λh=>(nomatch h),λ_=>J1.mpr<| k rfl G' j _ λG2 j2=>q G2 (j.trans j2)⟩
theorem bR5{g:Fs}{z:Bool}(h:EvT (t O) G x)(k:x=true->∀G',Ap G G'->Ev (a O) G' z)(l:x=false->∀G',Ap G G'->EvS g O G' z):EvS (j0 (ifS t (t8 a) u0) g) O G z:=λQ q=>m9.mpr<| aH1<| h _ λG' j=>by
 cases x
 ·exact⟨λh=>(nomatch h),λ_=>J1.mpr<| l rfl G' j _ λG2 j2=>q G2 (j.trans j2)⟩
 ·exact⟨λ_=>U5<| k rfl G' j _ λG2 j2=>R6 (q G2 (j.trans j2)),λh=>(nomatch h)⟩
end
theorem aC2{n:Nat}{F:List D->M D}{fs:DSt->M (List D)}{O:DSt}{as:List D}{G:DH}{x:Bool}(e:fs O G=some (.ok as,G))(hn:as.length=n)(h:Ev (F as) G x):Ev (q15 (fnX n F) fs O) G x:=λQ q=>v9 e hn<| h Q q
theorem bA3{m:Nat}{B:Fs}{as:List D}{G:DH}{x:Bool}(h:EvS B (as.map some++jb (m-as.length) none) G x):Ev (K4 m B as) G x:=λQ q=>T4<| h Q q
section
variable{d:D}{O:DSt}{G:DH}{fs:DSt->M (List D)}
theorem bB3(e:fs O G=some (.ok [d,.ty "tuple"],G))(h:aH0 G d):Ev (q15 o6 fs O) G (Q7 d):=λQ q=>aI3 e<| (bA7 h).mpr (q G Ap.refl)
theorem cD8(e:fs O G=some (.ok [d,.ty "str"],G))(h:aH0 G d):Ev (q15 o6 fs O) G (aF6 d):=λQ q=>aI3 e<| (cY2 h).mpr (q G Ap.refl)
theorem eU7(e:fs O G=some (.ok [d,.ty "int"],G))(h:aH0 G d):Ev (q15 o6 fs O) G (bX7 d):=λQ q=>aI3 e<| (fF4 h).mpr (q G Ap.refl)
theorem cI2(e:fs O G=some (.ok [d,.ty "bool"],G))(h:aH0 G d):Ev (q15 o6 fs O) G (X7 d):=λQ q=>aI3 e<| (cI9 h).mpr (q G Ap.refl)
end
theorem dJ2{it:DSt->M Src}{caps:List (Option Nat)}{g:Fg}{e:Fe}{O:DSt}{G:DH}{items:List D}{ck:DH->Bool}(S:DSt->Prop)(f:D->Bool)(hs:it O G=some (.ok ⟨items,ck⟩,G))(hck:∀G',Ap G G'->ck G'=true)(hl:items.length<=zh)(h0:S (Z6 caps O))
 (step:∀d∈items,∀ O G1,S O->Ap G G1->Wp (g d O) G1 λW1 G2=>G2=G1/\S W1/\Ev (e W1) G1 (f d)):Ev (q15 aY1 (q13 (Q0 it caps g aA2 e) q14) O) G (items.all f):=λQ q=>by
 refine aF5<| v8<| wp_comp.mpr<| d9 hs ⟨hl,(eU4 (Ap G) S (λd y=>y= .bl (f d)) hck items _ G h0 Ap.refl ?_).mono ?_⟩
 · intro d hd O G1 s j
   exact(step d hd O G1 s j).mono λW1 G2 ⟨e1,s1,w⟩=>⟨e1,s1,w _ λG3 j3=>⟨j.trans j3,rfl⟩⟩
 · rintro _ G1 ⟨j1,zs,ez,rfl,hz⟩
   rw[dU6 (f:=λd=>.bl (f d)) hz,ez]
   exact o9.mpr<| (bP3 (l:=items) (f:=f) o5).mpr (q _ (j1.trans Ap.one))
theorem aI7{d:D}(h:Q7 d=true):∃l,d= .tup l:=by
 cases d<;>first|exact⟨_,rfl⟩|cases h
theorem bH3{d:D}(h:aF6 d=true):∃z,d= .str z:=by
 cases d<;>first|exact⟨_,rfl⟩|cases h
theorem eC4{l:List D}{k:Nat}{n:Int}{O:DSt}{G:DH}{fs:DSt->M (List D)}(hn:n=k)(e:fs O G=some (.ok [.tup l],G)):Ev (d7 eqD (q15 W8 fs) (cE (.int n)) O) G (decide (l.length=k)):=by
 subst hn
 exact λQ q=>w6<| aI3 e<| aQ5.mpr<| d9 (a:=.int k) (G':=G) rfl<| V0.mpr (by
 have:decide ((l.length:Int)= (k:Int))=decide (l.length=k):=by
  by_cases h:l.length=k
  ·rw[decide_eq_true h,decide_eq_true (by lia)]
  ·rw[decide_eq_false h,decide_eq_false (by lia)]
 rw[this];exact q G Ap.refl)
def aE7(d:D):Bool:=U0 d||dB1 d
theorem eE5{d:D}{G:DH}(h:aH0 G d):Ev (aO0 [d]) G (dB1 d):=bA3<| aQ7<| by
 have:dB1 d= (bX7 d&&!X7 d):=by cases d<;>rfl
 rw[this]
 exact bN0 (eU7 rfl h) λ_ G' j=>dC1 (cI2 rfl (eS0 h j))
theorem dI7{d:D}{O:DSt}{G:DH}{a:Fe}(e:a O G=some (.ok d,G)):Ev (d7 cC7 a (cE .non) O) G (U0 d):=λQ q=>w6<| d9 e<| d9 (a:=.non) (G':=G) rfl<| eE8.mpr (q G Ap.refl)
theorem eU5{d:D}{G:DH}(h:aH0 G d):Ev (aT3 [d]) G (aE7 d):=bA3<| aQ7<| eT4 (dI7 rfl) λ_ G' j=>aC2 rfl rfl (eE5 (eS0 h j))
noncomputable def bK3:D->D->Bool
 | .int x,.int y=>decide (x>y)
 |_,_=>false
theorem aC4{d:D}(h:aE7 d=true):d= .non\/∃i,d= .int i:=by
 cases d<;>first|exact .inl rfl|exact .inr ⟨_,rfl⟩|cases h
theorem eO1{a b:D}{G:DH}(ha:aE7 a=true)(hb:aE7 b=true):Ev (aO9 [a,b]) G (bK3 a b):=by
 rcases aC4 ha with rfl|⟨i,rfl⟩<;>rcases aC4 hb with rfl|⟨j,rfl⟩<;>exact Ev.of rfl
def aO8:D->Bool
 | .tup [a,b]=>aE7 a&&(aE7 b&&!bK3 a b)
 |_=>false
theorem ix0{l:List D}{a:D}{i:Int}{O:DSt}{G:DH}{f:Fe}(e:f O G=some (.ok (.tup l),G))(h:atI l i=some a):(d7 ixD f (cE (.int i))) O G=some (.ok a,G):=aA3<| w6<| d9 e<| d9 (a:=.int i) (G':=G) rfl<| ix_tup.mpr ⟨a,h,rfl,rfl⟩
theorem aP9{f:Fe}{O:DSt}{G:DH}{a:D}(e:f O G=some (.ok a,G)):(q13 f q14) O G=some (.ok [a],G):=aA3<| v8<| d9 e<| o9.mpr ⟨rfl,rfl⟩
theorem aS2{f g:Fe}{O:DSt}{G:DH}{a b:D}(e:f O G=some (.ok a,G))(e':g O G=some (.ok b,G)):(q13 f (q13 g q14)) O G=some (.ok [a,b],G):=aA3<| v8<| d9 e<| v8<| d9 e'<| o9.mpr ⟨rfl,rfl⟩
theorem aS4{l:List D}(h:l.length=2):∃a b,l= [a,b]:=by
 rcases l with _|⟨a,_|⟨b,_|⟨c,r⟩⟩⟩
 ·cases h
 ·cases h
 ·exact⟨a,b,rfl⟩
 ·rw[zp,zp,zp]at h;lia
noncomputable def aA1(k:Nat):D->Bool
 | .tup l=>decide (l.length=k)
 |_=>false
theorem fY2{k:Nat}{n:Int}{d:D}{O:DSt}{G:DH}{f:Fe}(hn:n=k)(e:∀G,f O G=some (.ok d,G))(h:aH0 G d):EvT (aB3 (o7 (q15 o6 (q13 f (q13 (cE (.ty "tuple")) q14)))) (o8 (d7 eqD (q15 W8 (q13 f q14)) (cE (.int n)))) O) G (aA1 k d):=by
 have:aA1 k d= (Q7 d&&aA1 k d):=by cases d<;>rfl
 rw[this]
 refine aM0 (R0 (bB3 (aS2 (e G) rfl) h)) λht G' j=>T6 ?_
 obtain⟨l,rfl⟩:=aI7 ht
 exact eC4 hn (aP9 (e G'))
theorem aJ9{n:Nat}{l:List D}{x:D}(h:AT n (.tup l))(hx:x∈l):AT n x:=bG6.mp h x hx
theorem aH2{G G':DH}{d:D}(h:AT G.length d)(j:Ap G G'):aH0 G' d:=(h.le j.len).there
theorem dM2{d:D}{G:DH}(h:AT G.length d):Ev (aH9 [d]) G (aO8 d):=bA3<| by
 unfold aW8
 have:aO8 d= (aA1 2 d&&aO8 d):=by
  rcases d with _|_|_|_|l|_|_|_<;>try rfl
  by_cases hl:l.length=2
  ·obtain⟨a,b,rfl⟩:=aS4 hl;rfl
  · have e:aA1 2 (.tup l)=false:=decide_eq_false hl
    rw[e,jP]
    rcases l with _|⟨a,_|⟨b,_|⟨c,r⟩⟩⟩<;>first|rfl|exact absurd rfl hl
 rw[this]
 refine cE2 (fY2 (k:=2) rfl (λ_=>rfl) h.there) λhl G1 j1=>?_
 obtain⟨l,rfl⟩:∃l,d= .tup l:=by rcases d with _|_|_|_|l|_|_|_<;>first|exact⟨_,rfl⟩|cases hl
 obtain⟨a,b,rfl⟩:=aS4 (of_decide_eq_true hl)
 have ha:=aJ9 h (zc ..)
 have hb:=aJ9 h (zf _ (zc ..))
 show EvS _ _ _ (aE7 a&&(aE7 b&&!bK3 a b))
 rw[<-xG]
 refine cE2 (aM0 (R0 (aC2 (aP9 (ix0 rfl rfl)) rfl (eU5 (aH2 ha j1)))) λ_ G2 j2=>R0 (aC2 (aP9 (ix0 rfl rfl)) rfl (eU5 (aH2 hb (j1.trans j2))))) λhe G2 j2=>?_
 rw[zg]at he
 exact aQ7<| dC1<| aC2 (aS2 (ix0 rfl rfl) (ix0 rfl rfl)) rfl (eO1 he.1 he.2)
noncomputable def bO6:D->D->Bool
 | .tup [_,.int y],.tup [.int z,_]=>decide (y+1<z)
 |_,_=>false
theorem bC7{d:D}(h:aO8 d=true):∃a b,d= .tup [a,b]/\aE7 a=true/\aE7 b=true:=by
 rcases d with _|_|_|_|l|_|_|_<;>try (cases h;done)
 rcases l with _|⟨a,_|⟨b,_|⟨c,r⟩⟩⟩<;>try (cases h;done)
 have h:(aE7 a&&(aE7 b&&!bK3 a b))=true:=h
 rw[zg,zg]at h
 exact⟨a,b,rfl,h.1,h.2.1⟩
theorem eI9{p q:D}{G:DH}(hp:aO8 p=true)(hq:aO8 q=true):Ev (aG8 [p,q]) G (bO6 p q):=by
 obtain⟨a,b,rfl,ha,hb⟩:=bC7 hp
 obtain⟨c,d,rfl,hc,hd⟩:=bC7 hq
 rcases aC4 hb with rfl|⟨i,rfl⟩<;>rcases aC4 hc with rfl|⟨j,rfl⟩<;>exact Ev.of rfl
def bA4:D->Bool
 | .tup l=>l.all aO8&&aB8 bO6 l
 |_=>false
theorem fX3{l:List D}(hz:szD (.tup l)<=zh):l.length<=zh:=by
 have:=aC0 l
 simp only[szD]at hz
 lia
theorem eK6{l:List D}{G:DH}{u:List (Option D)}:bZ0 (q13 (c7 0) (q13 (P0 (c7 0) (T5 (cE (.int 1))) (Q6)) q14)) (some (.tup l)::u) G=some (.ok ⟨aS3 l,λ_=>true&&true⟩,G):=by
 refine aA3 ?_
 rw[cO9]
 refine J6 (x:=.tup l) (G1:=G) rfl<| v8<| aD5.mpr<| d9 (a:=.tup l) (G':=G) rfl<| d9 (a:=some 1) (G':=G) rfl<| d9 (a:=none) (G':=G) rfl<| bJ7.mpr<| o9.mpr<| cR9.mpr ?_
 rw[dR4]
 exact⟨rfl,rfl⟩
theorem eY0{l:List D}{d:D}(h:d∈aS3 l):∃a b,d= .tup [a,b]/\a∈l/\b∈l:=by
 obtain⟨q,hq,rfl⟩:=zw.mp h
 have h1:=yD (a:=q.1) (b:=q.2) hq
 exact⟨q.1,q.2,rfl,h1.1,jY h1.2⟩
theorem dN5{d:D}{G:DH}(h:AT G.length d)(hz:szD d<=zh):Ev (aH7 [d]) G (bA4 d):=bA3<| by
 unfold aV6
 have:bA4 d= ((Q7 d&&(match d with| .tup l=>l.all aO8|_=>false))&&bA4 d):=by
  rcases d with _|_|_|_|l|_|_|_<;>try rfl
  show (l.all aO8&&aB8 bO6 l)= ((true&&l.all aO8)&&(l.all aO8&&aB8 bO6 l))
  cases l.all aO8<;>rfl
 rw[this]
 refine cE2 (aM0 (R0 (bB3 rfl h.there)) λht G1 j1=>R0 ?_) λha G1 j1=>aQ7 ?_
 · obtain⟨l,rfl⟩:=aI7 ht
   exact dJ2 (λO=>∃u,O= [u]) aO8 rfl (λ_ _=>rfl) (fX3 hz) ⟨_,rfl⟩ λx hx O G2 s j=>by
    obtain⟨u,rfl⟩:=s
    exact Q5.mpr ⟨rfl,⟨_,rfl⟩,aC2 rfl rfl (dM2 ((aJ9 h hx).le (j1.trans j).len))⟩
 · rw[zg]at ha
   obtain⟨l,rfl⟩:=aI7 ha.1
   have ha:=ha.2
   show Ev _ _ (l.all aO8&&aB8 bO6 l)
   rw[show l.all aO8=true from ha,zT]
   have hl:=fX3 hz
   have hp:=bO9 l
   exact dJ2 (λO=>∃u v,O= [u,v]) (prB bO6) eK6 (λ_ _=>rfl) (by lia) ⟨_,_,rfl⟩ λx hx O G2 s j=>by
    obtain⟨u,v,rfl⟩:=s
    obtain⟨a,b,rfl,m1,m2⟩:=eY0 hx
    exact d9 (a:= [some a,some b]) (G':=G2) rfl ⟨rfl,⟨_,_,rfl⟩,aC2 rfl rfl (eI9 (zn.mp ha a m1) (zn.mp ha b m2))⟩
noncomputable abbrev V8:Str:= "any"
theorem Ev.mk{m:M D}{G:DH}{b:Bool}(h:Wp m G λx G'=>x= .bl b/\Ap G G'):Ev m G b:=λQ q=>h.mono λx G' ⟨e,a⟩=>e▸q G' a
noncomputable def aK9:D->Bool
 | .tup [.tup _,_]=>true
 |_=>false
theorem aF3{d:D}(h:aK9 d=true):∃l m,d= .tup [.tup l,m]:=by
 rcases d with _|_|_|_|l|_|_|_<;>try (cases h;done)
 rcases l with _|⟨a,_|⟨b,_|⟨c,r⟩⟩⟩<;>try (cases h;done)
 ·rcases a with _|_|_|_|l|_|_|_<;>try (cases h;done)
 · rcases a with _|_|_|_|l|_|_|_<;>try (cases h;done)
   exact⟨l,b,rfl⟩
 ·rcases a with _|_|_|_|l|_|_|_<;>try (cases h;done)
theorem aB9{k:Nat}{d:D}(h:aA1 k d=true):∃l,d= .tup l/\l.length=k:=by
 rcases d with _|_|_|_|l|_|_|_<;>try (cases h;done)
 exact⟨l,rfl,of_decide_eq_true h⟩
theorem eR1{k:Nat}{n:Int}{d:D}{O:DSt}{G:DH}{f W9:Fe}{y:Bool}(hn:n=k)(e:∀G,f O G=some (.ok d,G))(h:aH0 G d)(r:aA1 k d=true->∀G',Ap G G'->Ev (W9 O) G' y):Ev (aB4 (q15 o6 (q13 f (q13 (cE (.ty "tuple")) q14))) (aB4 (d7 eqD (q15 W8 (q13 f q14)) (cE (.int n))) W9) O) G (aA1 k d&&y):=by
 have:(aA1 k d&&y)= (Q7 d&&(aA1 k d&&y)):=by cases d<;>rfl
 rw[this]
 refine bN0 (bB3 (aS2 (e G) rfl) h) λht G' j=>?_
 obtain⟨l,rfl⟩:=aI7 ht
 exact bN0 (eC4 hn (aP9 (e G'))) λhl G2 j2=>r hl G2 (j.trans j2)
theorem cW2{d:D}{G:DH}(h:AT G.length d):Ev (aD2 [d]) G (aK9 d):=bA3<| by
 unfold bA1
 have:aK9 d= (aA1 2 d&&aK9 d):=by
  by_cases c:aK9 d=true
  ·obtain⟨l,m,rfl⟩:=aF3 c;rfl
  ·rw[jr.mpr c,yw]
 rw[this]
 refine aQ7<| eR1 (k:=2) rfl (λ_=>rfl) h.there λhl G1 j1=>?_
 obtain⟨l,rfl,hk⟩:=aB9 hl
 obtain⟨a,b,rfl⟩:=aS4 hk
 have e:aK9 (.tup [a,b])=Q7 a:=by cases a<;>rfl
 rw[e]
 exact bB3 (aS2 (ix0 rfl rfl) rfl) (aH2 (aJ9 h (zc ..)) j1)
def bX5:D->Bool
 | .str z=>Q9 z&&decide (0<z.length)
 |_=>false
theorem fF9{d:D}{G:DH}(h:AT G.length d):Ev (aU0 [d]) G (bX5 d):=bA3<| by
 have:bX5 d= (aE0 d&&bX5 d):=by
  rcases d with _|_|_|z|_|_|_|_<;>try rfl
  show (Q9 z&&decide (0<z.length))= (Q9 z&&(Q9 z&&decide (0<z.length)))
  cases Q9 z<;>rfl
 rw[this]
 refine aQ7<| bN0 (aC2 rfl rfl (Ev.mk (bW8 h))) λht G1 j1=>?_
 obtain⟨z,rfl⟩:=aF1 ht
 have e:bX5 (.str z)=decide ((z.length:Int)>0):=by
  show (Q9 z&&decide (0<z.length))=_
  rw[show Q9 z=true from ht,zT]
  by_cases c:0<z.length
  ·rw[decide_eq_true c,decide_eq_true (by lia)]
  ·rw[decide_eq_false c,decide_eq_false (by lia)]
 rw[e]
 have bg:=big
 have hz:=aW7 h
 exact λQ q=>w6<| aI3 (as:= [.str z]) rfl<| (bH8 (by lia)).mpr<| d9 (a:=.int 0) (G':=G1) rfl<| dE6.mpr (q G1 Ap.refl)
def bA8:D->Bool
 | .tup [a,b,_]=>bX5 a&&X7 b
 |_=>false
theorem bI5{l:List D}(h:l.length=3):∃a b c,l= [a,b,c]:=by
 rcases l with _|⟨a,_|⟨b,_|⟨c,_|⟨e,r⟩⟩⟩⟩
 ·cases h
 ·cases h
 ·cases h
 ·exact⟨a,b,c,rfl⟩
 ·simp only[zp]at h;lia
theorem aZ2{d:D}(h:bA8 d=true):∃z k s,d= .tup [.str z,.bl k,s]/\bX5 (.str z)=true:=by
 rcases d with _|_|_|_|l|_|_|_<;>try (cases h;done)
 rcases l with _|⟨a,_|⟨b,_|⟨c,_|⟨e,r⟩⟩⟩⟩<;>try (cases h;done)
 have h:(bX5 a&&X7 b)=true:=h
 rw[zg]at h
 rcases a with _|_|_|z|_|_|_|_<;>try (cases h.1;done)
 obtain⟨k,rfl⟩:=W3 h.2
 exact⟨z,k,c,rfl,h.1⟩
theorem eN7{d:D}{G:DH}(h:AT G.length d):Ev (aO4 [d]) G (bA8 d):=bA3<| by
 unfold bG1
 have:bA8 d= (aA1 3 d&&bA8 d):=by
  by_cases c:bA8 d=true
  ·obtain⟨z,k,s,rfl,_⟩:=aZ2 c;rfl
  ·rw[jr.mpr c,yw]
 rw[this]
 refine aQ7<| eR1 (k:=3) rfl (λ_=>rfl) h.there λhl G1 j1=>?_
 obtain⟨l,rfl,hk⟩:=aB9 hl
 obtain⟨a,b,c,rfl⟩:=bI5 hk
 have ha:=(aJ9 h (zc ..)).le j1.len
 have hb:=aJ9 h (zf _ (zc ..))
 exact bN0 (aC2 (aP9 (ix0 rfl rfl)) rfl (fF9 ha)) λ_ G2 j2=>cI2 (aS2 (ix0 rfl rfl) rfl) (aH2 hb (j1.trans j2))
def liB(d:D):Bool:=U0 d||aK9 d
theorem eQ2{d:D}{G:DH}(h:AT G.length d):Ev (Z8 [d]) G (liB d):=bA3<| aQ7<| eT4 (dI7 rfl) λ_ G1 j1=>aC2 rfl rfl (cW2 (h.le j1.len))
noncomputable def hdD:D->D
 | .tup (x::_)=>x
 |_=>.non
noncomputable def cG7:D->List D
 | .tup [.tup l,_]=>l
 |_=> []
noncomputable def cI3:D->D
 | .tup [_,m]=>m
 |_=>.non
noncomputable def nmL:D->D->Bool
 | .str a,.str b=>decide (a.cps.toList<b.cps.toList)
 |_,_=>false
def reB(d:D):Bool:=U0 d||(aK9 d&&((cG7 d).all bA8&&aB8 nmL ((cG7 d).map hdD)))
theorem fM2{rows:List D}(h:rows.all bA8=true)(G:DH):∀a∈rows.map hdD,∀b∈rows.map hdD,ltN 40 G a b=some (nmL a b):=by
 intro a ha b hb
 obtain⟨x,hx,rfl⟩:=zw.mp ha
 obtain⟨y,hy,rfl⟩:=zw.mp hb
 obtain⟨z,k,s,rfl,_⟩:=aZ2 (zn.mp h x hx)
 obtain⟨z',k',s',rfl,_⟩:=aZ2 (zn.mp h y hy)
 rfl
theorem eK4{l:List D}{G:DH}{Q:DPP}(h:l.all bA8=true)(hl:l.length<=zh)(q:Q (.ref G.length) (G++[.lst (l.map hdD)])):Wp (aO6 [.tup l]) G Q:=by
 refine T4 (show Wp (aU6 [some (.tup l)]) G _ from ?_)
 unfold aU6
 refine U5<| wp_comp.mpr<| wp_itW.mpr<| d9 (a:=.tup l) (G':=G) rfl<| srcW_tup.mpr ⟨hl,?_⟩
 refine d9 (a:=l.map hdD) (G':=G) (aM8 (I:=λO=>∃u,O= [u]) rfl _ _ ⟨_,rfl⟩ λx hx O WM=>?_) (R6 q)
 obtain⟨u,rfl⟩:=WM
 obtain⟨z,k,s,rfl,_⟩:=aZ2 (zn.mp h x hx)
 exact⟨[some (.tup [.str z,.bl k,s])],rfl,⟨_,rfl⟩,rfl,rfl⟩
theorem dJ8{d:D}{G:DH}(h:AT G.length d)(hz:szD d<=zh):Ev (V1 [d]) G (reB d):=bA3<| by
 unfold aF9
 refine bR5 (T6 (dI7 rfl)) (λhn G1 _=>?_) λhn G1 j1=>?_
 ·unfold reB;rw[hn];exact Ev.of rfl
 have:reB d= ((aK9 d&&(cG7 d).all bA8)&&aB8 nmL ((cG7 d).map hdD)):=by unfold reB;rw[hn,xK,xG]
 rw[this]
 refine cE2 (aM0 (R0 (aC2 rfl rfl (cW2 (h.le j1.len)))) λhc G2 j2=>R0 ?_) λha G2 j2=>aQ7 ?_
 · obtain⟨l,m,rfl⟩:=aF3 hc
   have hl:AT G.length (.tup l):=aJ9 h (zc ..)
   have hlz:l.length<=zh:=by
    have:=aC0 l
    simp only[szD,szL]at hz
    lia
   refine dJ2 (items:=l) (ck:=λ_=>true) (λO=>∃u,O= [u]) bA8 (aA3<| wp_itW.mpr<| d9 (ix0 (l:= [.tup l,m]) rfl rfl)<| srcW_tup.mpr ⟨rfl,rfl⟩) (λ_ _=>rfl) hlz ⟨_,rfl⟩ λx hx O G3 s j=>?_
   obtain⟨u,rfl⟩:=s
   exact Q5.mpr ⟨rfl,⟨_,rfl⟩,aC2 rfl rfl (eN7 ((aJ9 hl hx).le (j1.trans (j2.trans j)).len))⟩
 · rw[zg]at ha
   obtain⟨l,m,rfl⟩:=aF3 ha.1
   have hlz:l.length<=zh:=by
    have:=aC0 l
    simp only[szD,szL]at hz
    lia
   have ha:=ha.2
   exact λQ q=>aF5<| v8<| v9 (as:= [.tup l]) (aP9 (ix0 (l:= [.tup l,m]) rfl rfl)) rfl<| eK4 ha hlz<| o9.mpr<| aL2.mpr ⟨rfl,(cA2 (f:=nmL) o5 (by rw[zo];exact hlz) (fM2 ha)).mono λx G' ⟨e,a⟩=>e▸q G' (Ap.one.trans a)⟩
def aH5:D->Bool
 | .str z=>z==V8
 | .tup [a,b,c,l,r]=>(bA4 a&&(U3 b&&U4 c))&&(liB l&&reB r)
 |_=>false
theorem aQ2{l:List D}(h:l.length=5):∃a b c d e,l= [a,b,c,d,e]:=by
 rcases l with _|⟨a,_|⟨b,_|⟨c,_|⟨d,_|⟨e,_|⟨f,r⟩⟩⟩⟩⟩⟩
 ·cases h
 ·cases h
 ·cases h
 ·cases h
 ·cases h
 ·exact⟨a,b,c,d,e,rfl⟩
 ·simp only[zp]at h;lia
theorem dQ4{l:List D}{x:D}(h:x∈l):szD x<=szD (.tup l):=by
 have:=dE1 h
 simp only[szD];lia
theorem fL6{d:D}{G:DH}(h:AT G.length d)(hz:szD d<=zh):Ev (aD1 [d]) G (aH5 d):=bA3<| by
 unfold aN1
 refine bR5 (R0 (cD8 rfl h.there)) (λhs G1 _=>?_) λhs G1 j1=>?_
 · obtain⟨z,rfl⟩:=bH3 hs
   exact Ev.of rfl
 have:aH5 d= (aA1 5 d&&aH5 d):=by
  rcases d with _|_|_|z|l|_|_|_<;>try rfl
  ·cases hs
  · by_cases c:l.length=5
    ·rw[show aA1 5 (.tup l)=true from decide_eq_true c,zT]
    · rw[show aA1 5 (.tup l)=false from decide_eq_false c,jP]
      rcases l with _|⟨a,_|⟨b,_|⟨c',_|⟨d,_|⟨e,_|⟨f,r⟩⟩⟩⟩⟩⟩<;>first|rfl|exact absurd rfl c
 rw[this]
 refine cE2 (fY2 (k:=5) rfl (λ_=>rfl) (aH2 h j1)) λhl G2 j2=>?_
 obtain⟨l,rfl,hk⟩:=aB9 hl
 obtain⟨a,b,c,li,re,rfl⟩:=aQ2 hk
 have ma:a∈ [a,b,c,li,re]:=zc ..
 have mb:b∈ [a,b,c,li,re]:=zf _ (zc ..)
 have mc:c∈ [a,b,c,li,re]:=zf _ (zf _ (zc ..))
 have ml:li∈ [a,b,c,li,re]:=zf _ (zf _ (zf _ (zc ..)))
 have mr:re∈ [a,b,c,li,re]:=zf _ (zf _ (zf _ (zf _ (zc ..))))
 have g:∀ {x:D} {G':DH},x∈ [a,b,c,li,re]->Ap G2 G'->AT G'.length x:=λm j=>(aJ9 h m).le (j1.trans (j2.trans j)).len
 have z:∀ {x:D},x∈ [a,b,c,li,re]->szD x<=zh:=λm=>zv (dQ4 m) hz
 refine cE2 (aM0 (R0 (aC2 (aP9 (ix0 rfl rfl)) rfl (dN5 (g ma Ap.refl) (z ma)))) λ_ G3 j3=>aM0 (R0 (aC2 (aP9 (ix0 rfl rfl)) rfl (Ev.mk (cU6 (g mb j3) (z mb))))) λ_ G4 j4=>R0 (aC2 (aP9 (ix0 rfl rfl)) rfl (Ev.mk (cO4 (g mc (j3.trans j4)) (z mc))))) λ_ G3 j3=>?_
 exact aQ7<| bN0 (aC2 (aP9 (ix0 rfl rfl)) rfl (eQ2 (g ml j3))) λ_ G4 j4=>aC2 (aP9 (ix0 rfl rfl)) rfl (dJ8 (g mr (j3.trans j4)) (z mr))
noncomputable def stD(p:D×D):D:=.tup [p.1,p.2]
noncomputable def fdD(f:Str×Bool×D):D:=.tup [.str f.1,.bl f.2.1,f.2.2]
def mkS(ns:List (D×D))(w:Str)(ts:List Str)(tr:List Bool)(li re:D):D:=.tup [.tup (ns.map stD),.tup [.str w,.tup (ts.map D.str)],.tup (tr.map D.bl),li,re]
noncomputable def cN8:D->Prop
 | .non=>True
 | .int _=>True
 |_=>False
section
variable{n:Nat}{ns:List (D×D)}{w:Str}{ts:List Str}{tr:List Bool}{li re:D}
end
def cA7(p:D×D):Prop:=cN8 p.1/\cN8 p.2/\True
noncomputable def LiG(S:D->Prop)(li:D):Prop:=li= .non\/∃fs m,li= .tup [.tup fs,m]/\fs.length<=1000/\(∀x∈fs,S x)/\S m
def ReG(S:D->Prop)(re:D):Prop:=re= .non\/∃(fs:List (Str×Bool×D)) (m:D),re= .tup [.tup (fs.map fdD),m]/\fs.length<=1000/\(fs.map (·.1)).Nodup/\(∀f∈fs,f.1.length<=1000/\S f.2.2)/\S m
abbrev LiP:=LiG
abbrev ReP:=ReG
def SB:Nat->D->Prop
 |0,_=>False
 |n+1,d=>d= .str V8\/∃ns w ts tr li re,d=mkS ns w ts tr li re/\(∀p∈ns,cA7 p)/\ns.length<=10000000/\(∀z∈ts,z.length<=1000)/\ts.length<=10000000/\tr.length<=10000000/\LiP (SB n) li/\ReP (SB n) re
structure PtP(S:D->Prop)(ns:List (D×D))(w:Str)(ts:List Str)(tr:List Bool)(li re:D):Prop where
 st:∀p∈ns,cA7 p
 nl:ns.length<=10000000
 tx:∀z∈ts,z.length<=1000
 tl:ts.length<=10000000
 tr:tr.length<=10000000
 li:LiG S li
 re:ReG S re
def GS:Nat->D->Prop
 |0,_=>False
 |n+1,d=>d= .str V8\/∃ns w ts tr li re,d=mkS ns w ts tr li re/\PtP (GS n) ns w ts tr li re/\True
noncomputable def trd:D->D
 | .tup [_,_,x]=>x
 |_=>.non
section
variable{n:Nat}{ns:List (D×D)}{w:Str}{ts:List Str}{tr:List Bool}{li re:D}
end
theorem bU9{a:D}(h:cN8 a):a= .non\/∃i,a= .int i:=match a,h with
 | .non,_=>.inl rfl
 | .int i,_=>.inr ⟨i,rfl⟩
section
variable{ps:List (Str×D)}{fs:List (Str×Bool×D)}{m:D}{G:DH}
end
section
variable{ps:List (Str×D)}{fs:List (Str×Bool×D)}{m s v:D}{G:DH}
end
def noS:D:=mkS [] wOf [] [] .non .non
theorem aV5{G:DH}{Q:DPP}:Wp (o4 []) G Q↔Q noS G:=by
 unfold o4 aP0
 have s0:(([]:List D).map some++jb (0-([]:List D).length) none:DSt)= []:=rfl
 simp only[aK3,s0,aR5,aB7,aA8,o9,bB5]
 constructor
 ·intro h;exact h.2.2.2.2.2
 ·intro h;exact⟨sz,sz,sz,sz,sz,h⟩
noncomputable def W6:Nat->D->Bool
 |_,.non=>true
 |_,.bl _=>true
 |_,.int _=>true
 |_,.str _=>true
 |n+1,.tup l=>l.all (W6 n)
 |_,_=>false
theorem cJ2{f:D->D->Option Bool}:∀(a b:List D),(∀x∈a,∀y∈b,∃k,f x y=some k)->∃k,eqL f a b=some k
 |[], [],_=>⟨_,rfl⟩
 |[],_::_,_=>⟨_,rfl⟩
 |_::_, [],_=>⟨_,rfl⟩
 |x::xs,y::ys,h=>by
   obtain⟨k,e⟩:=h x (by simp) y (by simp)
   obtain⟨k',e'⟩:=cJ2 xs ys λa ha b hb=>h a (by simp[ha]) b (by simp[hb])
   exact⟨k&&k',by simp only[eqL,e,e']⟩
theorem eO4{x y:D}(hx:aR1 x=true)(hy:aR1 y=true):∃k,eqS x y=some k:=by
 rcases x with _|_|_|_|_|_|_|_<;>rcases y with _|_|_|_|_|_|_|_<;>first|cases hx;done|cases hy;done|exact⟨_,rfl⟩
theorem bD4{G:DH}:∀(n m:Nat) (x y:D),n<m->W6 n x=true->W6 n y=true->∃k,eqN m G x y=some k
 |n,0,x,y,h,_,_=>by lia
 |n,m+1,x,y,h,hx,hy=>by
   have sc:∀ {d:D},W6 n d=true->(∃l,d= .tup l/\∃k,n=k+1/\∀z∈l,W6 k z=true)\/(aR1 d=true/\X5 G d=none):=λ{d} hd=>by
    rcases d with _|_|_|_|l|i|i|i<;>try (exact .inr ⟨rfl,rfl⟩;done)
    ·
      cases n with
      |zero=>exact aN7 hd
      |succ k=>exact .inl ⟨l,rfl,k,rfl,λz hz=>zn.mp (show l.all (W6 k)=true from hd) z hz⟩
    ·cases n<;>exact aN7 hd
    ·cases n<;>exact aN7 hd
    ·cases n<;>exact aN7 hd
   rcases sc hx with⟨l,rfl,k,rfl,hl⟩|⟨s1,q1⟩
   · rcases sc hy with⟨l',rfl,k',e',hl'⟩|⟨s2,q2⟩
     · have ek:k=k':=by lia
       subst ek
       obtain⟨b,e⟩:=cJ2 (f:=eqN m G) l l' λa ha b hb=>bD4 k m a b (by lia) (hl a ha) (hl' b hb)
       refine⟨b,?_⟩
       show (if true=true then (if true=false/\l.length≠l'.length then some false else eqL (eqN m G) l l')else some false)=some b
       simp[e]
     ·exact⟨false,by rw[aU1];rw[q2];simp only[X5,s2,if_true]⟩
   · rcases sc hy with⟨l',rfl,k',e',hl'⟩|⟨s2,q2⟩
     ·exact⟨false,by rw[aU1];rw[q1];simp only[X5,s1,if_true]⟩
     · obtain⟨b,e⟩:=eO4 s1 s2
       exact⟨b,by rw[aU1];rw[q1,q2];exact e⟩
theorem cG1(n:Nat)(ss:List Str):W6 (n+1) (.tup (ss.map D.str))=true:=by
 show (ss.map D.str).all (W6 n)=true
 rw[yK,zn]
 intro x _
 cases n<;>rfl
theorem cA9(n:Nat)(bs:List Bool):W6 (n+1) (.tup (bs.map D.bl))=true:=by
 show (bs.map D.bl).all (W6 n)=true
 rw[yK,zn]
 intro x _
 cases n<;>rfl
theorem cO5(n:Nat){ns:List (D×D)}(h:∀p∈ns,cA7 p):W6 (n+2) (.tup (ns.map stD))=true:=by
 show (ns.map stD).all (W6 (n+1))=true
 rw[yK,zn]
 intro p hp
 have h1:=(h p hp).1
 have h2:=(h p hp).2.1
 have e:∀d,cN8 d->W6 n d=true:=λd hd=>by
  cases d<;>first|exact hd.elim|(cases n<;>rfl)
 show [p.1,p.2].all (W6 n)=true
 simp[e _ h1,e _ h2]
theorem N8{f:D->D->Option Bool}{x y:D}{xs ys:List D}(h:eqL f (x::xs) (y::ys)=some true):f x y=some true/\eqL f xs ys=some true:=by
 unfold eqL at h
 rcases e:f x y with _|a
 ·rw[e]at h;exact J4 h
 ·
   rcases e':eqL f xs ys with _|b
   ·rw[e,e']at h;exact J4 h
   ·
     rw[e,e']at h
     rcases a with _|_<;>rcases b with _|_<;>first|(cases h;done)|exact⟨rfl,rfl⟩
theorem eqL_same{f:D->D->Option Bool}:∀ {a b:List D},eqL f a b=some true->(∀x∈a,∀y∈b,f x y=some true->x=y)->a=b
 |[], [],_,_=>rfl
 |[],_::_,h,_=>by cases h
 |_::_, [],h,_=>by cases h
 |x::xs,y::ys,h,k=>by
   have h':=N8 h
   rw[k x (by simp) y (by simp) h'.1,eqL_same h'.2 λa ha b hb=>k a (by simp[ha]) b (by simp[hb])]
theorem bU5{n:Nat}{G:DH}{a b:List D}:eqN (n+1) G (.tup a) (.tup b)=eqL (eqN n G) a b:=by
 show (if true=true then (if true=false/\a.length≠b.length then some false else eqL (eqN n G) a b)else some false)=_
 simp
theorem eqT{n:Nat}{G:DH}{a b:List D}(h:eqN n G (.tup a) (.tup b)=some true):∃m,n=m+1/\eqL (eqN m G) a b=some true:=by
 cases n with
 |zero=>exact J4 h
 |succ m=>exact⟨m,rfl,by rw[<-bU5];exact h⟩
theorem aZ0{n:Nat}{G:DH}{a b:Str}(h:eqN n G (.str a) (.str b)=some true):a=b:=by
 cases n with
 |zero=>exact J4 h
 |succ m=>exact Zf (jd (show some (a==b)=some true from h))
theorem cL1{n:Nat}{G:DH}{a b:Bool}(h:eqN n G (.bl a) (.bl b)=some true):a=b:=by
 cases n with
 |zero=>exact J4 h
 |succ m=>exact Zf (jd (show some (a==b)=some true from h))
theorem cV8{n:Nat}{G:DH}{a b:D}(ha:cN8 a)(hb:cN8 b)(h:eqN n G a b=some true):a=b:=by
 cases n with
 |zero=>exact J4 h
 |succ m=>
   rcases bU9 ha with rfl|⟨i,rfl⟩<;>rcases bU9 hb with rfl|⟨j,rfl⟩<;>first
    |rfl
    |(cases h;done)
    |skip
   rw[Zf (jd (show some (i==j)=some true from h))]
theorem eU9{n:Nat}{G:DH}{ns ms:List (D×D)}(h1:∀p∈ns,cA7 p)(h2:∀p∈ms,cA7 p)(h:eqN n G (.tup (ns.map stD)) (.tup (ms.map stD))=some true):ns.map stD=ms.map stD:=by
 obtain⟨m,rfl,h⟩:=eqT h
 refine eqL_same h λx hx y hy e=>?_
 obtain⟨p,hp,rfl⟩:=zw.mp hx
 obtain⟨q,hq,rfl⟩:=zw.mp hy
 obtain⟨k,rfl,e⟩:=eqT (a:= [p.1,p.2]) (b:= [q.1,q.2]) e
 have e1:=N8 e
 have e2:=N8 e1.2
 unfold stD
 rw[cV8 (h1 p hp).1 (h2 q hq).1 e1.1,cV8 (h1 p hp).2.1 (h2 q hq).2.1 e2.1]
theorem dF6{n:Nat}{G:DH}{a b:List Str}(h:eqN n G (.tup (a.map D.str)) (.tup (b.map D.str))=some true):a.map D.str=b.map D.str:=by
 obtain⟨m,rfl,h⟩:=eqT h
 refine eqL_same h λx hx y hy e=>?_
 obtain⟨p,hp,rfl⟩:=zw.mp hx
 obtain⟨q,hq,rfl⟩:=zw.mp hy
 rw[aZ0 e]
theorem dY4{n:Nat}{G:DH}{a b:List Bool}(h:eqN n G (.tup (a.map D.bl)) (.tup (b.map D.bl))=some true):a.map D.bl=b.map D.bl:=by
 obtain⟨m,rfl,h⟩:=eqT h
 refine eqL_same h λx hx y hy e=>?_
 obtain⟨p,hp,rfl⟩:=zw.mp hx
 obtain⟨q,hq,rfl⟩:=zw.mp hy
 rw[cL1 e]
theorem eQ9{n:Nat}{G:DH}{l:List D}:eqN n G .non (.tup l)≠some true:=by
 cases n with
 |zero=>exact λh=>by exact J4 h
 |succ m=>exact λh=>by cases h
theorem eU0{n:Nat}{G:DH}{l:List D}:eqN n G (.tup l) .non≠some true:=by
 cases n with
 |zero=>exact λh=>by exact J4 h
 |succ m=>exact λh=>by cases h
theorem fP7{n:Nat}{G:DH}{z:Str}{l:List D}:eqN n G (.str z) (.tup l)≠some true:=by
 cases n with
 |zero=>exact λh=>by exact J4 h
 |succ m=>exact λh=>by cases h
theorem fP5{n:Nat}{G:DH}{z:Str}{l:List D}:eqN n G (.tup l) (.str z)≠some true:=by
 cases n with
 |zero=>exact λh=>by exact J4 h
 |succ m=>exact λh=>by cases h
def EqS(S:D->Prop)(G:DH):Prop:=∀n x y,S x->S y->eqN n G x y=some true->x=y
theorem fW4{S:D->Prop}{n:Nat}{G:DH}{a b:D}(ih:EqS S G)(ha:LiP S a)(hb:LiP S b)(h:eqN n G a b=some true):a=b:=by
 rcases ha with rfl|⟨fs,c,rfl,_,a2,a3⟩
 · rcases hb with rfl|⟨_,_,rfl,_⟩
   ·rfl
   ·exact(eQ9 h).elim
 · rcases hb with rfl|⟨gs,d,rfl,_,b2,b3⟩
   ·exact(eU0 h).elim
   · obtain⟨_,_,z⟩:=eqT h
     have z1:=N8 z
     obtain⟨_,_,z3⟩:=eqT z1.1
     rw[eqL_same z3 λx hx y hy e=>ih _ _ _ (a2 x hx) (b2 y hy) e,ih _ _ _ a3 b3 (N8 z1.2).1]
theorem fX0{S:D->Prop}{n:Nat}{G:DH}{f g:Str×Bool×D}(ih:EqS S G)(hf:S f.2.2)(hg:S g.2.2)(h:eqN n G (fdD f) (fdD g)=some true):fdD f=fdD g:=by
 obtain⟨_,_,e⟩:=eqT (a:= [D.str f.1,.bl f.2.1,f.2.2]) (b:= [D.str g.1,.bl g.2.1,g.2.2]) h
 have y1:=N8 e
 have y2:=N8 y1.2
 unfold fdD
 rw[aZ0 y1.1,cL1 y2.1,ih _ _ _ hf hg (N8 y2.2).1]
theorem fS1{S:D->Prop}{n:Nat}{G:DH}{a b:D}(ih:EqS S G)(ha:ReP S a)(hb:ReP S b)(h:eqN n G a b=some true):a=b:=by
 rcases ha with rfl|⟨fs,c,rfl,_,_,a2,a3⟩
 · rcases hb with rfl|⟨_,_,rfl,_⟩
   ·rfl
   ·exact(eQ9 h).elim
 · rcases hb with rfl|⟨gs,d,rfl,_,_,b2,b3⟩
   ·exact(eU0 h).elim
   · obtain⟨_,_,z⟩:=eqT h
     have z1:=N8 z
     obtain⟨_,_,z3⟩:=eqT z1.1
     rw[eqL_same z3 ?_,ih _ _ _ a3 b3 (N8 z1.2).1]
     intro x hx y hy e
     obtain⟨f,hf,rfl⟩:=zw.mp hx
     obtain⟨g,hg,rfl⟩:=zw.mp hy
     exact fX0 ih (a2 f hf).2 (b2 g hg).2 e
theorem fT9{S:D->Prop}{n:Nat}{G:DH}{ns ns':List (D×D)}{w w':Str}{ts ts':List Str}{tr tr':List Bool}{li re li' re':D}(ih:EqS S G)(h1:∀p∈ns,cA7 p)(g1:∀p∈ns',cA7 p)(h6:LiP S li)(g6:LiP S li')(h7:ReP S re)(g7:ReP S re')(h:eqN n G (mkS ns w ts tr li re) (mkS ns' w' ts' tr' li' re')=some true):mkS ns w ts tr li re=mkS ns' w' ts' tr' li' re':=by
 obtain⟨_,_,h⟩:=eqT h
 have e1:=N8 h
 have e2:=N8 e1.2
 have e3:=N8 e2.2
 have e4:=N8 e3.2
 obtain⟨_,_,t⟩:=eqT e2.1
 have t1:=N8 t
 unfold mkS
 rw[eU9 h1 g1 e1.1,aZ0 t1.1,dF6 (N8 t1.2).1,dY4 e3.1,fW4 ih h6 g6 e4.1,fS1 ih h7 g7 (N8 e4.2).1]
theorem SB.eqs{G:DH}:∀ {k:Nat},EqS (SB k) G
 |0=>λ_ _ _ h _ _=>h.elim
 |k+1=>λn x y hx hy h=>by
   rcases hx with rfl|⟨ns,w,ts,tr,li,re,rfl,h1,_,_,_,_,h6,h7⟩
   · rcases hy with rfl|⟨_,_,_,_,_,_,rfl,_⟩
     ·rfl
     ·exact(fP7 h).elim
   · rcases hy with rfl|⟨ns',w',ts',tr',li',re',rfl,g1,_,_,_,_,g6,g7⟩
     ·exact(fP5 h).elim
     ·exact fT9 SB.eqs h1 g1 h6 g6 h7 g7 h
theorem bY1{x:D}(h:aR1 x=true):eqS x x=some true:=by
 cases x<;>first|(cases h;done)|rfl|(simp[eqS])
theorem bX8{f:D->D->Option Bool}:∀ {l:List D},(∀x∈l,f x x=some true)->eqL f l l=some true
 |[],_=>rfl
 |x::r,h=>by unfold eqL;rw[h x (by simp),bX8 λy hy=>h y (by simp[hy])];rfl
theorem aO7{G:DH}:∀ {n m:Nat} {x:D},n<m->W6 n x=true->eqN m G x x=some true
 |n,0,x,h,_=>by lia
 |n,m+1,x,h,hx=>by
   rcases x with _|b|b|b|l|i|i|i
   ·rfl
   ·exact bY1 (x:=.bl b) rfl
   ·exact bY1 (x:=.int b) rfl
   ·exact bY1 (x:=.str b) rfl
   ·
     cases n with
     |zero=>simp[W6]at hx
     |succ k=>
       rw[bU5]
       exact bX8 λx hx'=>aO7 (n:=k) (by lia) (zn.mp (by simpa [W6]using hx) x hx')
   ·cases n<;>simp[W6]at hx
   ·cases n<;>simp[W6]at hx
   ·cases n<;>simp[W6]at hx
noncomputable def One(O:DSt):Prop:=∃u,O= [u]
noncomputable def liK:D->List D
 | .tup [.tup fs,m]=>fs++[m]
 |_=> []
def reK:D->List D
 | .tup [.tup fs,m]=>fs.map trd++[m]
 |_=> []
def K1:D->List D
 | .tup [_,_,_,li,re]=>liK li++reK re
 |_=> []
theorem eO6:aA9=j0 (K3 (M6 q14) (q16 1)) (j0 (ifS (o8 (d7 eqD (c7 0) (cE (.str ("any" :Str))))) (t8 (c7 1)) u0) (j0 IL (j0 IR (t8 (c7 1))))):=rfl
theorem Ap.set{G0 G:DH}{p:Nat}{o:DO}(h:Ap G0 G)(hp:G0.length<=p):Ap G0 (G.set p o):=by
 obtain⟨t,rfl⟩:=h
 exact⟨t.set (p-G0.length) o,YY _ _ hp⟩
section
variable{S:D->Prop}{G G0:DH}{Q:DPP}{p:Nat}{ns:List (D×D)}{w:Str}{ts:List Str}{tr:List Bool}{li re:D}{l0:List D}
theorem eS6{d:D}{a b:Fe}{fs:List D}{m:D}{G1:DH}{P:Fl->DH->Prop}(hA:Ap G0 G)(hp:G0.length<=p)(e:G[p]? =some (.lst l0))(hl:l0.length<=2000)(hf:fs.length<=2000)(ha:Wp (a [some d,some (.ref p)]) G λx G1=>x= .ref G.length/\G1=G++[.lst fs])(hb:∀G,b [some d,some (.ref p)] G=some (.ok m,G))(q:∀G',Ap G0 G'->G'[p]? =some (.lst (l0++(fs++[m])))->P (.nx [some d,some (.ref p)]) G'):
 Wp (aU4 (mtE X4 aQ4 (c7 1) (q13 (d7 Q3 a (M6 (q13 b q14))) q14)) [some d,some (.ref p)]) G P:=by
 have bg:=big
 refine aM6.mpr<| aT5.mpr<| d9 (a:=.ref p) rfl<| (T3 e).mpr<| v8<| w6<| ha.mono ?_
 rintro _ _ ⟨rfl,rfl⟩
 refine aI8.mpr<| J6 (hb _)<| o9.mpr ⟨sz,?_⟩
 refine(bI8 (R4 o5) o5 (by show fs.length+1<=_;lia)).mpr<| o9.mpr ?_
 have e3:(G++[DO.lst fs]++[DO.lst [m]]++[DO.lst (fs++[m])])[p]? =some (.lst l0):=R4 (R4 (R4 e))
 refine(aW1 e3 o5 (by rw[zx];show l0.length+(fs.length+1)<=_;lia)).mpr ?_
 exact q _ (Ap.set (((hA.trans Ap.one).trans Ap.one).trans Ap.one) hp) (zF (lt_of_get e3))
theorem fY5{P:Fl->DH->Prop}(hA:Ap G0 G)(hp:G0.length<=p)(e:G[p]? =some (.lst l0))(hl:l0.length<=2000)(h:LiG S li)(q:∀G',Ap G0 G'->G'[p]? =some (.lst (l0++liK li))->P (.nx [some (mkS ns w ts tr li re),some (.ref p)]) G'):
 Wp (IL [some (mkS ns w ts tr li re),some (.ref p)]) G P:=by
 rcases h with rfl|⟨fs,m,rfl,hf,_⟩
 · refine eZ3 (G1:=G) rfl<| J1.mpr (q G hA ?_)
   rw[show liK .non= []from rfl,yn];exact e
 · refine eE3 (G1:=G) rfl ?_
   exact eS6 (G1:=G) hA hp e hl (by lia) (d9 (a:=.ref G.length) (G':=G++[.lst fs]) rfl ⟨rfl,rfl⟩) (λ_=>rfl) q
theorem fN3{P:Fl->DH->Prop}(hA:Ap G0 G)(hp:G0.length<=p)(e:G[p]? =some (.lst l0))(hl:l0.length<=2000)(h:ReG S re)(q:∀G',Ap G0 G'->G'[p]? =some (.lst (l0++reK re))->P (.nx [some (mkS ns w ts tr li re),some (.ref p)]) G'):
 Wp (IR [some (mkS ns w ts tr li re),some (.ref p)]) G P:=by
 rcases h with rfl|⟨fs,m,rfl,hf,_⟩
 · refine eZ3 (G1:=G) rfl<| J1.mpr (q G hA ?_)
   rw[show reK .non= []from rfl,yn];exact e
 · refine eE3 (G1:=G) rfl ?_
   refine eS6 (G1:=G) (fs:=(fs.map fdD).map trd) hA hp e hl (by rw[zo,zo];lia) ?_ (λ_=>rfl) q
   refine cV3 (l:=fs.map fdD) (G1:=G) rfl (by rw[zo];lia)<| (bD2 (λG2=>G2=G) One trd (λ_ _=>rfl) _ _ G ⟨_,rfl⟩ rfl ?_).mono ?_
   · rintro d hd _ _ ⟨u,rfl⟩ rfl
     obtain⟨f,hf,rfl⟩:=zw.mp hd
     exact cN1 ⟨_,rfl⟩ (d9 (a:=f.2.2) rfl ⟨rfl,rfl⟩)
   · rintro _ _ ⟨rfl,rfl⟩
     exact⟨rfl,rfl⟩
theorem dD1(h:LiG S li):(liK li).length<=1001:=by
 rcases h with rfl|⟨fs,m,rfl,hf,_⟩
 ·exact je _
 · show (fs++[m]).length<=1001
   rw[zx];show fs.length+1<=1001;lia
theorem bU4{n:Nat}{d:D}(h:GS n d)(q:∀p G',Ap G G'->G.length<=p->G'[p]? =some (.lst (K1 d))->Q (.ref p) G'):Wp (T9 [d]) G Q:=by
 cases n with
 |zero=>exact h.elim
 |succ n=>
   rcases h with rfl|⟨ns,w,ts,tr,li,re,rfl,h,_⟩
   · refine T4 (show Wp (aA9 [some (.str V8),none]) G _ from ?_)
     rw[eO6]
     exact K9 (X1:= [some (.str V8),some (.ref G.length)]) (G':=G++[.lst []]) rfl<| dV4 (d:=.ref G.length) (G':=G++[.lst []]) rfl (R6 (q _ _ Ap.one (zd _) o5))
   · refine T4 (show Wp (aA9 [some (mkS ns w ts tr li re),none]) G _ from ?_)
     rw[eO6]
     refine K9 (X1:= [some (mkS ns w ts tr li re),some (.ref G.length)]) (G':=G++[.lst []]) rfl<| K9 (X1:= [some (mkS ns w ts tr li re),some (.ref G.length)]) (G':=G++[.lst []]) rfl ?_
     refine m9.mpr<| fY5 (Ap.one (G:=G)) (zd _) o5 (je _) h.li λG1 a1 e1=>m9.mpr<| fN3 a1 (zd _) e1 (by have:=dD1 h.li;simpa using zv this (by decide)) h.re λG2 a2 e2=>?_
     exact d9 rfl (R6 (q _ _ a2 (zd _) e2))
end
noncomputable def frD:D->D
 | .tup [.tup fs,_]=>.int fs.length
 |_=>.non
noncomputable def nmO:D->D
 | .tup [a,b,_]=>.tup [a,b]
 |_=>.non
noncomputable def nmB(f:Str×Bool×D):D:=.tup [.str f.1,.bl f.2.1]
def RfP(G:DH)(re r:D):Prop:=(re= .non/\r= .non)\/∃(fs:List (Str×Bool×D)) (m:D) (p:Nat),re= .tup [.tup (fs.map fdD),m]/\r= .ref p/\G[p]? =some (.lst (fs.map nmB))
def cV1(S:D->Prop)(G:DH)(d o:D):Prop:=(d= .str V8/\o= .tup [.str V8])\/∃ns w ts tr li re r,d=mkS ns w ts tr li re/\o= .tup [.tup (ns.map stD),.tup [.str w,.tup (ts.map D.str)],.tup (tr.map D.bl),frD li,r]/\RfP G re r/\PtP S ns w ts tr li re
theorem cV1.up{S:D->Prop}{G G':DH}{d o:D}(h:cV1 S G d o)(a:Ap G G'):cV1 S G' d o:=by
 rcases h with h|⟨ns,w,ts,tr,li,re,r,e1,e2,h,p⟩
 ·exact .inl h
 · refine .inr ⟨ns,w,ts,tr,li,re,r,e1,e2,?_,p⟩
   rcases h with h|⟨fs,m,p,a1,a2,a3⟩
   ·exact .inl h
   ·exact .inr ⟨fs,m,p,a1,a2,a.at a3⟩
theorem bU3{G:DH}{Q:DPP}{n:Nat}{d:D}(h:GS (n+1) d)(q:∀o G',Ap G G'->cV1 (GS n) G' d o->Q o G'):Wp (aD6 [d]) G Q:=by
 rcases h with rfl|⟨ns,w,ts,tr,li,re,rfl,h,_⟩
 ·exact eO2 (d:=.tup [.str V8]) rfl (q _ G Ap.refl (.inl ⟨rfl,rfl⟩))
 · refine T4<| K9 (X1:= [some (mkS ns w ts tr li re),none,none]) rfl<| K9 (X1:= [some (mkS ns w ts tr li re),some (frD li),none]) (G':=G) ?_ ?_
   ·rcases h.li with rfl|⟨fs,m,rfl,_⟩<;>rfl
   · have fin:∀r G',Ap G G'->RfP G' re r->Wp (t8 (v7 (q13 (d7 ixD (c7 0) (cE (.int 0))) (q13 (d7 ixD (c7 0) (cE (.int 1))) (q13 (d7 ixD (c7 0) (cE (.int 2))) (q13 (c7 1) (q13 (c7 2) q14)))))) [some (mkS ns w ts tr li re),some (frD li),some r]) G' (PB Q):=λr G' a hr=>
      U5<| d9 (a:=.tup [.tup (ns.map stD),.tup [.str w,.tup (ts.map D.str)],.tup (tr.map D.bl),frD li,r]) (G':=G') rfl<| R6<| q _ G' a (.inr ⟨ns,w,ts,tr,li,re,r,rfl,rfl,hr,h⟩)
     rcases h.re with e|⟨fs,m,e,hf,_⟩
     · refine K9 (X1:= [some (mkS ns w ts tr li re),some (frD li),some .non]) (G':=G) ?_ (fin .non G Ap.refl (.inl ⟨e,rfl⟩))
       rw[e];rfl
     · refine m9.mpr<| S7<| eU8 (G1:=G) (by rw[e];rfl)<| cV3 (l:=fs.map fdD) (G1:=G) (by rw[e];rfl) (by rw[zo];lia)<| (bD2 (λG2=>G2=G) One nmO (λ_ _=>rfl) _ _ G ⟨_,rfl⟩ rfl ?_).mono ?_
       · rintro d hd _ _ ⟨u,rfl⟩ rfl
         obtain⟨f,hf,rfl⟩:=zw.mp hd
         exact cN1 ⟨_,rfl⟩ (d9 (a:=nmB f) rfl ⟨rfl,rfl⟩)
       · rintro _ _ ⟨rfl,rfl⟩
         exact fin (.ref _) _ Ap.one (.inr ⟨fs,m,_,e,rfl,by rw[o5,Zz];rfl⟩)
theorem bL1{G:DH}{p:Nat}{l:List D}(e:G[p]? =some (.lst l)):X5 G (.ref p)=some (false,l):=by
 show (match G[p]? with
  |some (.lst l)=>some (false,l)
  |some (.rol l)=>some (false,l)
  |_=>none)=_
 rw[e]
theorem fO0{f:D->D->Option Bool}{x1 x2 x3 x4 x5 y1 y2 y3 y4 y5:D}{b1 b2 b3 b4 b5:Bool}(h1:f x1 y1=some b1)(h2:f x2 y2=some b2)(h3:f x3 y3=some b3)(h4:f x4 y4=some b4)(h5:f x5 y5=some b5):eqL f [x1,x2,x3,x4,x5] [y1,y2,y3,y4,y5]=some (b1&&(b2&&(b3&&(b4&&(b5&&true))))):=by
 rw[bS6,h1,bS6,h2,bS6,h3,bS6,h4,bS6,h5];rfl
theorem fT5{S:D->Prop}{n:Nat}{G:DH}{li li':D}(h:LiG S li)(h':LiG S li'):∃b,eqN (n+1) G (frD li) (frD li')=some b/\(b=true->(liK li).length= (liK li').length/\(liK li=liK li'->li=li')):=by
 rcases h with rfl|⟨fs,m,rfl,_⟩<;>rcases h' with rfl|⟨fs',m',rfl,_⟩
 ·exact⟨true,rfl,λ_=>⟨rfl,λ_=>rfl⟩⟩
 ·exact⟨false,rfl,λz=>by exact aN7 z⟩
 ·exact⟨false,rfl,λz=>by exact aN7 z⟩
 · refine⟨((fs.length:Int)==(fs'.length:Int)),rfl,λz=>⟨?_,λe=>?_⟩⟩
   · have z:=Zf z
     show (fs++[m]).length= (fs'++[m']).length
     simp only[zx,yj];lia
   · have e:=XX (show fs++[m]=fs'++[m']from e) rfl
     rw[e.1,(Zd e.2).1]
theorem eH4{f g:Str×Bool×D}(h:nmB f=nmB g)(k:f.2.2=g.2.2):f=g:=by
 obtain⟨a,b,c⟩:=f
 obtain⟨a',b',c'⟩:=g
 cases h;cases k;rfl
theorem eR7:∀ {fs gs:List (Str×Bool×D)},fs.map nmB=gs.map nmB->(fs.map fdD).map trd= (gs.map fdD).map trd->fs=gs
 |[], [],_,_=>rfl
 |[],_::_,h,_=>by exact bQ8 h
 |_::_, [],h,_=>by exact cH8 h
 |f::fs,g::gs,h,k=>by
   have h:=Zd h
   have k:=Zd (show trd (fdD f)::(fs.map fdD).map trd=trd (fdD g)::(gs.map fdD).map trd from k)
   rw[eH4 h.1 k.1,eR7 h.2 k.2]
theorem cJ9{n:Nat}(f:Str×Bool×D):W6 (n+2) (nmB f)=true:=by
 show [D.str f.1,.bl f.2.1].all (W6 (n+1))=true
 rfl
theorem fY6{n:Nat}{G:DH}{re re' r r':D}(hn:4<=n)(h:RfP G re r)(h':RfP G re' r'):∃b,eqN (n+1) G r r'=some b/\(b=true->(reK re).length= (reK re').length/\(reK re=reK re'->re=re')):=by
 rcases h with⟨rfl,rfl⟩|⟨fs,m,p,rfl,rfl,e⟩<;>rcases h' with⟨rfl,rfl⟩|⟨gs,m',p',rfl,rfl,e'⟩
 ·exact⟨true,rfl,λ_=>⟨rfl,λ_=>rfl⟩⟩
 · refine⟨false,?_,λz=>by exact aN7 z⟩
   rw[aU1,bL1 e'];rfl
 · refine⟨false,?_,λz=>by exact aN7 z⟩
   rw[aU1,bL1 e];rfl
 · have hd:∀x∈fs.map nmB,∀y∈gs.map nmB,∃k,eqN n G x y=some k:=λx hx y hy=>by
    obtain⟨f,_,rfl⟩:=zw.mp hx
    obtain⟨g,_,rfl⟩:=zw.mp hy
    exact bD4 2 n _ _ (by lia) (cJ9 f) (cJ9 g)
   obtain⟨k,hk⟩:=cJ2 _ _ hd
   have h0:eqN (n+1) G (.ref p) (.ref p')=if (fs.map nmB).length≠(gs.map nmB).length then some false else eqL (eqN n G) (fs.map nmB) (gs.map nmB):=by
    rw[aU1,bL1 e,bL1 e']
    simp
   rw[h0]
   by_cases hl:(fs.map nmB).length≠(gs.map nmB).length
   ·exact⟨false,if_pos hl,λz=>by exact aN7 z⟩
   · refine⟨k,by rw[if_neg hl];exact hk,λz=>?_⟩
     subst z
     have e0:fs.map nmB=gs.map nmB:=eqL_same hk λx hx y hy e=>by
      obtain⟨f,_,rfl⟩:=zw.mp hx
      obtain⟨g,_,rfl⟩:=zw.mp hy
      obtain⟨j,rfl,e⟩:=eqT (a:= [.str f.1,.bl f.2.1]) (b:= [.str g.1,.bl g.2.1]) e
      have e1:=N8 e
      have e2:=N8 e1.2
      show D.tup [.str f.1,.bl f.2.1]=D.tup [.str g.1,.bl g.2.1]
      rw[aZ0 e1.1,cL1 e2.1]
     refine⟨?_,λe=>?_⟩
     · show ((fs.map fdD).map trd++[m]).length= ((gs.map fdD).map trd++[m']).length
       have:=congrArg Zg e0
       simp only[zx,zo,yj]at this ⊢
       lia
     · have e:=XX (show (fs.map fdD).map trd++[m]= (gs.map fdD).map trd++[m']from e) rfl
       rw[eR7 e0 e.1,(Zd e.2).1]
def Oeq(d e:D):Prop:=(K1 d).length= (K1 e).length/\(K1 d=K1 e->d=e)
theorem eY3{S:D->Prop}{G:DH}{d d' o o':D}(h:cV1 S G d o)(h':cV1 S G d' o'):∃b,eqN 40 G o o'=some b/\(b=true->Oeq d d'):=by
 rcases h with⟨rfl,rfl⟩|⟨ns,w,ts,tr,li,re,r,rfl,rfl,hr,hp⟩<;>rcases h' with⟨rfl,rfl⟩|⟨ns',w',ts',tr',li',re',r',rfl,rfl,hr',hp'⟩
 ·exact⟨true,rfl,λ_=>⟨rfl,λ_=>rfl⟩⟩
 ·exact⟨false,rfl,λz=>by exact aN7 z⟩
 ·exact⟨false,rfl,λz=>by exact aN7 z⟩
 · have dt:∀(w:Str) (ts:List Str),W6 3 (.tup [.str w,.tup (ts.map D.str)])=true:=λw ts=>by
    have:=cG1 1 ts
    show ([D.str w,.tup (ts.map D.str)].all (W6 2))=true
    simp only[zB,jW,this,jF]
    rfl
   obtain⟨b1,h1⟩:=bD4 (G:=G) 2 39 _ _ (by decide) (cO5 0 hp.st) (cO5 0 hp'.st)
   obtain⟨b2,h2⟩:=bD4 (G:=G) 3 39 _ _ (by decide) (dt w ts) (dt w' ts')
   obtain⟨b3,h3⟩:=bD4 (G:=G) 2 39 _ _ (by decide) (cA9 1 tr) (cA9 1 tr')
   obtain⟨b4,h4,k4⟩:=fT5 (n:=38) (G:=G) hp.li hp'.li
   obtain⟨b5,h5,k5⟩:=fY6 (n:=38) (by decide) hr hr'
   refine⟨_,(bU5 (n:=39)).trans (fO0 h1 h2 h3 h4 h5),λz=>?_⟩
   rw[jF]at z
   simp only[zg]at z
   obtain⟨rfl,rfl,rfl,rfl,rfl⟩:=z
   have k4:=k4 rfl
   have k5:=k5 rfl
   refine⟨?_,λe=>?_⟩
   · show (liK li++reK re).length= (liK li'++reK re').length
     rw[zx,zx,k4.1,k5.1]
   · have e:=List.append_inj (show liK li++reK re=liK li'++reK re' from e) k4.1
     obtain⟨j,ej,h2⟩:=eqT h2
     have e1:=N8 h2
     have e2:=N8 e1.2
     unfold mkS
     rw[eU9 hp.st hp'.st h1,aZ0 e1.1,dF6 e2.1,dY4 h3,k4.2 e.1,k5.2 e.2]
theorem LiG.mono{S T:D->Prop}(k:∀d,S d->T d){li:D}(h:LiG S li):LiG T li:=by
 rcases h with rfl|⟨fs,m,rfl,a,b,c⟩
 ·exact .inl rfl
 ·exact .inr ⟨fs,m,rfl,a,λx hx=>k _ (b x hx),k _ c⟩
theorem ReG.mono{S T:D->Prop}(k:∀d,S d->T d){re:D}(h:ReG S re):ReG T re:=by
 rcases h with rfl|⟨fs,m,rfl,a,n,b,c⟩
 ·exact .inl rfl
 ·exact .inr ⟨fs,m,rfl,a,n,λx hx=>⟨(b x hx).1,k _ (b x hx).2⟩,k _ c⟩
theorem PtP.mono{S T:D->Prop}(k:∀d,S d->T d){ns:List (D×D)}{w:Str}{ts:List Str}{tr:List Bool}{li re:D}(h:PtP S ns w ts tr li re):PtP T ns w ts tr li re:=⟨h.st,h.nl,h.tx,h.tl,h.tr,h.li.mono k,h.re.mono k⟩
theorem GS.le:∀ {n m:Nat} {d:D},n<=m->GS n d->GS m d
 |0,_,_,_,h=>h.elim
 |n+1,0,_,hm,_=>absurd hm (by lia)
 |n+1,m+1,d,hm,h=>by
   rcases h with rfl|⟨ns,w,ts,tr,li,re,e,h,r⟩
   ·exact .inl rfl
   ·exact .inr ⟨ns,w,ts,tr,li,re,e,h.mono λd hd=>GS.le (by lia) hd,r⟩
theorem GS.kids{n:Nat}{d:D}(h:GS (n+1) d):∀x∈K1 d,GS n x:=by
 rcases h with rfl|⟨ns,w,ts,tr,li,re,rfl,h,_⟩
 ·intro x hx;cases hx
 · intro x hx
   rcases zG.mp (show x∈liK li++reK re from hx)with hx|hx
   · rcases h.li with e|⟨fs,m,e,a,b,c⟩<;>rw[e]at hx
     ·cases hx
     · rcases zG.mp (show x∈fs++[m]from hx)with hx|hx
       ·exact b x hx
       ·rw[zq.mp hx];exact c
   · rcases h.re with e|⟨fs,m,e,a,n,b,c⟩<;>rw[e]at hx
     ·cases hx
     · rcases zG.mp (show x∈(fs.map fdD).map trd++[m]from hx)with hx|hx
       · obtain⟨y,hy,rfl⟩:=zw.mp hx
         obtain⟨f,hf,rfl⟩:=zw.mp hy
         exact(b f hf).2
       ·rw[zq.mp hx];exact c
theorem M5{l:List D}:szD (.tup l)=1+szL l:=by rw[szD]
theorem m5{d:D}{l:List D}:szL (d::l)=szD d+szL l:=by rw[szL]
theorem J9:szL []=0:=by rw[szL]
theorem eA4:∀(fs:List (Str×Bool×D)),szL ((fs.map fdD).map trd)+3*fs.length=szL (fs.map fdD)
 |[]=>rfl
 |f::fs=>by
   have ih:=eA4 fs
   show szL (f.2.2::(fs.map fdD).map trd)+3*(fs.length+1)=szL (.tup [.str f.1,.bl f.2.1,f.2.2]::fs.map fdD)
   rw[m5,m5,M5,m5,m5,m5,J9,show szD (.str f.1)=1 from by rw[szD],show szD (.bl f.2.1)=1 from by rw[szD]]
   lia
theorem GS.ksz{n:Nat}{d:D}(h:GS n d):szL (K1 d)<szD d:=by
 cases n with
 |zero=>exact h.elim
 |succ n=>
   rcases h with rfl|⟨ns,w,ts,tr,li,re,rfl,h,_⟩
   · show szL []<_
     rw[J9];exact bU2 _
   · have h1:szL (liK li)<=szD li:=by
      rcases h.li with e|⟨fs,m,e,_⟩<;>rw[e]
      · show szL []<=_
        rw[J9];exact je _
      · show szL (fs++[m])<=_
        rw[R8,M5,m5,m5,J9,M5,m5,J9];lia
     have h2:szL (reK re)<=szD re:=by
      rcases h.re with e|⟨fs,m,e,_⟩<;>rw[e]
      · show szL []<=_
        rw[J9];exact je _
      · show szL ((fs.map fdD).map trd++[m])<=_
        have:=eA4 fs
        rw[R8,M5,m5,m5,J9,M5,m5,J9];lia
     show szL (liK li++reK re)<szD (.tup [.tup (ns.map stD),.tup [.str w,.tup (ts.map D.str)],.tup (tr.map D.bl),li,re])
     rw[R8,M5,m5,m5,m5,m5,m5,J9]
     lia
theorem GS.sb:∀ {n:Nat} {d:D},GS n d->SB n d
 |0,_,h=>h.elim
 |n+1,d,h=>by
   rcases h with rfl|⟨ns,w,ts,tr,li,re,rfl,h,_⟩
   ·exact .inl rfl
   ·exact .inr ⟨ns,w,ts,tr,li,re,rfl,h.st,h.nl,h.tx,h.tl,h.tr,h.li.mono λd hd=>GS.sb hd,h.re.mono λd hd=>GS.sb hd⟩
section
variable{k:Nat}{G:DH}
end
theorem eK7{ns ns':List (D×D)}{w w':Str}{ts ts':List Str}{tr tr':List Bool}{li re li' re':D}(h:mkS ns w ts tr li re=mkS ns' w' ts' tr' li' re'):ns.map stD=ns'.map stD/\w=w'/\ts.map D.str=ts'.map D.str/\tr.map D.bl=tr'.map D.bl/\li=li'/\re=re':=by
 unfold mkS at h
 simp only[D.tup.injEq,Zx,D.str.injEq,and_true]at h
 exact⟨h.1,h.2.1.1,h.2.1.2,h.2.2.1,h.2.2.2.1,h.2.2.2.2⟩
theorem fG4{f g:Str×Bool×D}(h:fdD f=fdD g):f=g:=by
 obtain⟨a,b,c⟩:=f
 obtain⟨a',b',c'⟩:=g
 unfold fdD at h
 simp only[D.tup.injEq,Zx,D.str.injEq,D.bl.injEq,and_true]at h
 rw[h.1,h.2.1,h.2.2]
theorem dH3{α β:Type}{f:α->β}(hf:∀a b,f a=f b->a=b):∀ {l k:List α},l.map f=k.map f->l=k
 |[], [],_=>rfl
 |[],_::_,h=>by exact bQ8 h
 |_::_, [],h=>by exact cH8 h
 |a::l,b::k,h=>by
   rw[zS,zS,Zx]at h
   rw[hf a b h.1,dH3 hf h.2]
section
variable{a b c:Option D}{n:Nat}{li re:D}{G:DH}
end
theorem eP8{fs gs:List (Str×Bool×D)}(h:fs.map fdD=gs.map fdD):fs=gs:=dH3 (λ_ _=>fG4) h
theorem eJ1{n:Nat}{G:DH}{p q:Nat}{a b:List D}(ea:G[p]? =some (.lst a))(eb:G[q]? =some (.lst b))(hl:a.length=b.length):eqN (n+1) G (.ref p) (.ref q)=eqL (eqN n G) a b:=by
 have h1:X5 G (.ref p)=some (false,a):=by simp only[X5,ea]
 have h2:X5 G (.ref q)=some (false,b):=by simp only[X5,eb]
 rw[aU1,h1,h2]
 show (if false=false then (if false=false/\a.length≠b.length then some false else eqL (eqN n G) a b)else some false)=_
 rw[if_pos rfl,if_neg (λh=>h.2 hl)]
theorem cP3{G:DH}{p q:Nat}{l m:List D}{Q:DPP}(e:G[p]? =some (.lst l))(e':G[q]? =some (.lst m))(h:Q (.ref G.length) (G++[.lst ((l.zip m).map stD)])):Wp (bR3 [.ref p,.ref q]) G Q:=by
 have ee:bR3 [.ref p,.ref q]= (do
  let l <-V6 p >>= listOf
  let m <-V6 q >>= listOf
  S6 (.lst ((l.zip m).map λp=>.tup [p.1,p.2]))):=rfl
 have l1:Wp (V6 p >>= listOf) G λx G'=>x=l/\G'=G:=m8.mpr (U7.mpr (by rw[e];exact R9.mpr (m6.mpr ⟨rfl,rfl⟩)))
 have l2:Wp (V6 q >>= listOf) G λx G'=>x=m/\G'=G:=m8.mpr (U7.mpr (by rw[e'];exact R9.mpr (m6.mpr ⟨rfl,rfl⟩)))
 rw[ee]
 refine m8.mpr (l1.mono ?_)
 rintro _ _ ⟨rfl,rfl⟩
 refine m8.mpr (l2.mono ?_)
 rintro _ _ ⟨rfl,rfl⟩
 exact d9 rfl h
theorem eD2:∀ {a b:List D},a.length=b.length->a≠b->∃p∈a.zip b,p.1≠p.2
 |[], [],_,h=>(h rfl).elim
 |[],_::_,h,_=>by cases h
 |_::_, [],h,_=>by cases h
 |x::a,y::b,h,k=>by
   by_cases e:x=y
   · subst e
     obtain⟨p,hp,q⟩:=eD2 (a:=a) (b:=b) (Yp h) λe=>k (by rw[e])
     exact⟨p,by rw[jv];exact zf _ hp,q⟩
   ·exact⟨(x,y),by rw[jv];exact zc,e⟩
def ZT:DSt->M Bool:=o7 (c7 2)
theorem gB9:aU9=j0 (K3 (M6 (q13 (v7 (q13 (c7 0) (q13 (c7 1) q14))) q14)) (q16 2)) (j0 (bC6 ZT (j0 Z1 (j0 Z2 Z3))) (t8 (cE (.bl true)))):=rfl
def Ws(n:Nat)(ws:List (D×D)):Prop:=∀q∈ws,GS (n+1) q.1/\GS (n+1) q.2
theorem dJ1{ws:List (D×D)}(h:ws≠ []):∃(t:List (D×D)) (q:D×D),ws=t++[q]:=⟨ws.dropLast,ws.getLast h,(xq h).symm⟩
theorem dS8{n p:Nat}{x y:Option D}{G0:DH}(hp:G0.length<=p):∀(fuel:Nat) (ws:List (D×D)) (u:Option D) (G:DH),Ap G0 G->G[p]? =some (.lst (ws.map stD))->szL (ws.map (·.1))<fuel->szL (ws.map (·.1))<=1000000->Ws n ws->(∃q∈ws,q.1≠q.2)->
 Wp (X8 fuel ZT (j0 Z1 (j0 Z2 Z3)) [x,y,some (.ref p),u]) G λfl G'=>fl= .rt (.bl false)/\Ap G0 G'
 |0,ws,u,G,_,_,hf,_,_,_=>absurd hf (yE _)
 |fuel+1,ws,u,G,hA,e,hf,hb,hw,hx=>by
   have bg:=big
   have hne:ws≠ []:=by rintro rfl;obtain⟨q,hq,_⟩:=hx;cases hq
   obtain⟨t,q,rfl⟩:=dJ1 hne
   rw[jo]at e
   refine aS7.mpr<| aD0.mpr<| d9 (a:=.ref p) rfl<| (aT4 e).mpr ?_
   rw[if_pos (by simp)]
   refine m9.mpr<| S7<| aT5.mpr<| d9 (a:=.ref p) rfl<| (T3 e).mpr<| o9.mpr<| (cN3 e).mpr ?_
   have e1:(G.set p (.lst (t.map stD)))[p]? =some (.lst (t.map stD)):=zF (lt_of_get e)
   have a1:Ap G0 (G.set p (.lst (t.map stD))):=hA.set hp
   have hq:=hw q (by simp)
   have hs:szL ((t++[q]).map (·.1))=szL (t.map (·.1))+szD q.1:=by
    rw[jo,R8]
    show _+szL [q.1]=_
    rw[m5,J9];rfl
   rw[hs]at hf hb
   refine m9.mpr<| aH1<| R7<| w6<| v9 (as:= [q.1]) rfl rfl<| bU3 hq.1 λo1 G2 a2 h1=>v9 (as:= [q.2]) rfl rfl<| bU3 hq.2 λo2 G3 a3 h2=>?_
   obtain⟨b,hb',kb⟩:=eY3 (h1.up a3) h2
   have a13:=(a1.trans a2).trans a3
   refine(aK2 (show neD o1 o2 G3=some (.ok (.bl (!b)),G3)from by unfold neD;rw[hb'])).mpr ⟨!b,rfl,λz=>?_,λz=>J1.mpr ?_⟩
   ·exact d9 (a:=Fl.rt (.bl false)) (G':=G3) rfl (show Fl.rt (.bl false)= .rt (.bl false)/\Ap G0 G3 from⟨rfl,a13⟩)
   · have ho:=kb (by cases b<;>first|rfl|cases z)
     have e3:=a3.at (a2.at e1)
     refine aM6.mpr<| aT5.mpr<| d9 (a:=.ref p) rfl<| (T3 e3).mpr<| v8<| aF5<| v8<| v9 (as:= [q.1]) rfl rfl<| bU4 hq.1 λp1 G4 a4 l4 e4=>v8<| v9 (as:= [q.2]) rfl rfl<| bU4 hq.2 λp2 G5 a5 l5 e5=>o9.mpr<| cP3 (a5.at e4) e5<| o9.mpr ?_
     have e6:(G5++[DO.lst (((K1 q.1).zip (K1 q.2)).map stD)])[p]? =some (.lst (t.map stD)):=R4 (a5.at (a4.at e3))
     have hk:=hq.1.ksz
     have hz:((K1 q.1).zip (K1 q.2)).map (·.1)=K1 q.1:=XU (yO ho.1)
     have hn:szL ((t++(K1 q.1).zip (K1 q.2)).map (·.1))=szL (t.map (·.1))+szL (K1 q.1):=by rw[jo,R8,hz]
     have hlen:=aC0 ((t++(K1 q.1).zip (K1 q.2)).map (·.1))
     rw[hn,zo,zx]at hlen
     refine(aW1 e6 o5 (by rw[zo,zo];lia)).mpr ?_
     refine dS8 (n:=n) hp fuel (t++(K1 q.1).zip (K1 q.2)) _ _ (((a13.trans a4).trans a5).trans Ap.one |>.set hp) ?_ (by rw[hn];lia) (by rw[hn];lia) (λr hr=>?_) ?_
     ·rw[jo];exact zF (lt_of_get e6)
     · rcases zG.mp hr with hr|hr
       ·exact hw r (by simp[hr])
       · have hr':=yD (a:=r.1) (b:=r.2) hr
         exact⟨(hq.1.kids _ hr'.1).le (jh _),(hq.2.kids _ hr'.2).le (jh _)⟩
     · obtain⟨r,hr,nr⟩:=hx
       rcases zG.mp hr with hr|hr
       ·exact⟨r,by simp[hr],nr⟩
       · rw[zq]at hr
         subst hr
         obtain⟨s,hs,ns⟩:=eD2 ho.1 λz=>nr (ho.2 z)
         exact⟨s,by simp[hs],ns⟩
theorem eZ7{S:D->Prop}{G:DH}{d o o':D}(h:cV1 S G d o)(h':cV1 S G d o'):eqN 40 G o o'=some true:=by
 rcases h with⟨rfl,rfl⟩|⟨ns,w,ts,tr,li,re,r,rfl,rfl,hr,hp⟩<;>rcases h' with⟨e,rfl⟩|⟨ns',w',ts',tr',li',re',r',e,rfl,hr',hp'⟩
 ·rfl
 ·cases e
 ·cases e
 · obtain⟨e1,rfl,e3,e4,rfl,rfl⟩:=eK7 e
   rw[<-e1,<-e3,<-e4]
   have dt:W6 3 (.tup [.str w,.tup (ts.map D.str)])=true:=by
    have:=cG1 1 ts
    show ([D.str w,.tup (ts.map D.str)].all (W6 2))=true
    simp only[zB,jW,this,jF]
    rfl
   have h5:eqN 39 G r r'=some true:=by
    rcases hr with⟨rfl,rfl⟩|⟨fs,m,p,rfl,rfl,e5⟩
    · rcases hr' with⟨_,rfl⟩|⟨_,_,_,e,_⟩
      ·rfl
      ·cases e
    · rcases hr' with⟨e,_⟩|⟨fs',m',p',e,rfl,e6⟩
      ·cases e
      · injection e with e;injection e with e7 _;injection e7 with e7
        rw[<-eP8 e7]at e6
        exact(eJ1 e5 e6 rfl).trans (bX8 λx hx=>by
         obtain⟨f,_,rfl⟩:=zw.mp hx
         exact aO7 (n:=2) (by decide) (cJ9 f))
   have h4:eqN 39 G (frD li) (frD li)=some true:=aO7 (n:=1) (by decide) (by
    rcases hp.li with rfl|⟨fs,m,rfl,_⟩<;>rfl)
   exact(bU5 (n:=39)).trans (fO0 (aO7 (n:=2) (by decide) (cO5 0 hp.st)) (aO7 (n:=3) (by decide) dt) (aO7 (n:=2) (by decide) (cA9 1 tr)) h4 h5)
theorem dX5{l:List D}{r:D×D}(h:r∈l.zip l):r.1=r.2:=by
 induction l with
 |nil=>cases h
 |cons x l ih=>
   rw[jv]at h
   rcases zi.mp h with rfl|h
   ·rfl
   ·exact ih h
theorem eA1{n p:Nat}{x y:Option D}{G0:DH}(hp:G0.length<=p):∀(fuel:Nat) (ws:List (D×D)) (u:Option D) (G:DH),Ap G0 G->G[p]? =some (.lst (ws.map stD))->szL (ws.map (·.1))<fuel->szL (ws.map (·.1))<=1000000->Ws n ws->(∀q∈ws,q.1=q.2)->
 Wp (X8 fuel ZT (j0 Z1 (j0 Z2 Z3)) [x,y,some (.ref p),u]) G λfl G'=>(∃u',fl= .nx [x,y,some (.ref p),u'])/\Ap G0 G'
 |0,ws,u,G,_,_,hf,_,_,_=>absurd hf (yE _)
 |fuel+1,ws,u,G,hA,e,hf,hb,hw,hx=>by
   have bg:=big
   by_cases hne:ws= []
   · subst hne
     refine aS7.mpr<| aD0.mpr<| d9 (a:=.ref p) rfl<| (aT4 e).mpr ?_
     rw[if_neg (by simp)]
     exact⟨⟨u,rfl⟩,hA⟩
   obtain⟨t,q,rfl⟩:=dJ1 hne
   rw[jo]at e
   refine aS7.mpr<| aD0.mpr<| d9 (a:=.ref p) rfl<| (aT4 e).mpr ?_
   rw[if_pos (by simp)]
   refine m9.mpr<| S7<| aT5.mpr<| d9 (a:=.ref p) rfl<| (T3 e).mpr<| o9.mpr<| (cN3 e).mpr ?_
   have e1:(G.set p (.lst (t.map stD)))[p]? =some (.lst (t.map stD)):=zF (lt_of_get e)
   have a1:Ap G0 (G.set p (.lst (t.map stD))):=hA.set hp
   have hq:=hw q (by simp)
   have hs:szL ((t++[q]).map (·.1))=szL (t.map (·.1))+szD q.1:=by
    rw[jo,R8]
    show _+szL [q.1]=_
    rw[m5,J9];rfl
   rw[hs]at hf hb
   refine m9.mpr<| aH1<| R7<| w6<| v9 (as:= [q.1]) rfl rfl<| bU3 hq.1 λo1 G2 a2 h1=>v9 (as:= [q.2]) rfl rfl<| bU3 hq.2 λo2 G3 a3 h2=>?_
   have eqq:q.1=q.2:=hx q (by simp)
   have hb':eqN 40 G3 o1 o2=some true:=eZ7 (h1.up a3) (eqq▸h2)
   have ho:(K1 q.1).length= (K1 q.2).length:=by rw[eqq]
   have a13:=(a1.trans a2).trans a3
   refine bV2.mpr ⟨true,hb',false,rfl,λz=>(nomatch z),λ_=>J1.mpr ?_⟩
   · have e3:=a3.at (a2.at e1)
     refine aM6.mpr<| aT5.mpr<| d9 (a:=.ref p) rfl<| (T3 e3).mpr<| v8<| aF5<| v8<| v9 (as:= [q.1]) rfl rfl<| bU4 hq.1 λp1 G4 a4 l4 e4=>v8<| v9 (as:= [q.2]) rfl rfl<| bU4 hq.2 λp2 G5 a5 l5 e5=>o9.mpr<| cP3 (a5.at e4) e5<| o9.mpr ?_
     have e6:(G5++[DO.lst (((K1 q.1).zip (K1 q.2)).map stD)])[p]? =some (.lst (t.map stD)):=R4 (a5.at (a4.at e3))
     have hk:=hq.1.ksz
     have hz:((K1 q.1).zip (K1 q.2)).map (·.1)=K1 q.1:=XU (yO ho)
     have hn:szL ((t++(K1 q.1).zip (K1 q.2)).map (·.1))=szL (t.map (·.1))+szL (K1 q.1):=by rw[jo,R8,hz]
     have hlen:=aC0 ((t++(K1 q.1).zip (K1 q.2)).map (·.1))
     rw[hn,zo,zx]at hlen
     refine(aW1 e6 o5 (by rw[zo,zo];lia)).mpr ?_
     refine eA1 (n:=n) hp fuel (t++(K1 q.1).zip (K1 q.2)) _ _ (((a13.trans a4).trans a5).trans Ap.one |>.set hp) ?_ (by rw[hn];lia) (by rw[hn];lia) (λr hr=>?_) (λr hr=>?_)
     ·rw[jo];exact zF (lt_of_get e6)
     · rcases zG.mp hr with hr|hr
       ·exact hw r (by simp[hr])
       · have hr':=yD (a:=r.1) (b:=r.2) hr
         exact⟨(hq.1.kids _ hr'.1).le (jh _),(hq.2.kids _ hr'.2).le (jh _)⟩
     · rcases zG.mp hr with hr|hr
       ·exact hx r (by simp[hr])
       · rw[<-eqq]at hr
         exact dX5 hr
noncomputable def N5(x y:D):Bool:= @decide (x=y) (Ya _)
theorem aZ1{x y:D}:N5 x y=true↔x=y:= @decide_eq_true_iff _ (Ya _)
theorem fH0{n:Nat}{x y:D}{G:DH}(hx:GS (n+1) x)(hy:GS (n+1) y)(hb:szD x<=1000000):Ev (aP6 [x,y]) G (N5 x y):=λQ q=>by
 refine T4 (show Wp (aU9 [some x,some y,none,none]) G _ from ?_)
 rw[gB9]
 have hs:szL ([(x,y)].map (·.1))=szD x:=by show szL [x]=_;rw[m5,J9];rfl
 by_cases e:x=y
 · refine K9 (X1:= [some x,some y,some (.ref G.length),none]) (G':=G++[.lst [stD (x,y)]]) rfl<| m9.mpr<| cA3 (n:=szD x+1)<| (eA1 (n:=n) (G0:=G) (zd _) (szD x+1) [(x,y)] none _ Ap.one o5 (by rw[hs];lia) (by rw[hs];lia) (λq hq=>by rw[zq.mp hq];exact⟨hx,hy⟩) (λq hq=>by rw[zq.mp hq];exact e)).mono ?_
   rintro _ G' ⟨⟨u',rfl⟩,a⟩
   rw[aZ1.mpr e]at q
   exact U5<| bB5.mpr<| R6 (q G' a)
 · refine K9 (X1:= [some x,some y,some (.ref G.length),none]) (G':=G++[.lst [stD (x,y)]]) rfl<| m9.mpr<| cA3 (n:=szD x+1)<| (dS8 (n:=n) (G0:=G) (zd _) (szD x+1) [(x,y)] none _ Ap.one o5 (by rw[hs];lia) (by rw[hs];lia) (λq hq=>by rw[zq.mp hq];exact⟨hx,hy⟩) ⟨(x,y),by simp,e⟩).mono ?_
   rintro _ G' ⟨rfl,a⟩
   rw[show N5 x y=false from jr.mpr λz=>e (aZ1.mp z)]at q
   exact R6 (q G' a)
mutual
noncomputable def dpD:D->Nat
 | .tup l=>dpL l+1
 | .non=>0
 | .bl _=>0
 | .int _=>0
 | .str _=>0
 | .ref _=>0
 | .fn _=>0
 | .ty _=>0
noncomputable def dpL:List D->Nat
 |[]=>0
 |d::r=>max (dpD d) (dpL r)
end
mutual
noncomputable def lwD:D->Bool
 | .tup l=>decide (l.length<=1000)&&lwL l
 | .non=>true
 | .bl _=>true
 | .int _=>true
 | .str _=>true
 | .ref _=>true
 | .fn _=>true
 | .ty _=>true
noncomputable def lwL:List D->Bool
 |[]=>true
 |d::r=>lwD d&&lwL r
end
theorem aC6{l:List D}:dpD (.tup l)=dpL l+1:=by rw[dpD]
theorem S5{d:D}{l:List D}:dpL (d::l)=max (dpD d) (dpL l):=by rw[dpL]
theorem aS6:∀ {l:List D} {x:D},x∈l->dpD x<=dpL l
 |d::r,x,h=>by
   rw[S5]
   rcases zi.mp h with rfl|h
   ·exact Yi ..
   ·exact zv (aS6 h) (ZV ..)
theorem cI7:∀ {l:List D} {n:Nat},(∀x∈l,dpD x<=n)->dpL l<=n
 |[],n,_=>by rw[dpL];exact je _
 |d::r,n,h=>by rw[S5];exact Nat.max_le.mpr ⟨h d (zc ..),cI7 λx hx=>h x (zf _ hx)⟩
theorem dD9:∀ {l:List D},lwL l=true↔∀x∈l,lwD x=true
 |[]=>by simp[lwL]
 |d::r=>by
   rw[lwL,zg,dD9 (l:=r)]
   simp
theorem dB2{l:List D}:lwD (.tup l)=true↔l.length<=1000/\∀x∈l,lwD x=true:=by
 rw[lwD,zg,decide_eq_true_eq,dD9]
structure Tg(n k:Nat)(d:D):Prop where
 at':AT n d
 lw:lwD d=true
 dp:dpD d<=k
 sz:szD d<=1000000
theorem Tg.mem{n k:Nat}{l:List D}{x:D}(h:Tg n (k+1) (.tup l))(hx:x∈l):Tg n k x:=⟨aJ9 h.at' hx,(dB2.mp h.lw).2 x hx,by have:=aS6 hx;have:=h.dp;rw[aC6]at this;lia,zv (dQ4 hx) h.sz⟩
theorem Tg.up{n m k j:Nat}{d:D}(h:Tg n k d)(hn:n<=m)(hk:k<=j):Tg m j d:=⟨h.at'.le hn,h.lw,zv h.dp hk,h.sz⟩
theorem Tg.zl{n k:Nat}{d:D}(h:Tg n k d):szD d<=zh:=zv h.sz (by decide)
theorem Tg.pos{n k:Nat}{l:List D}(h:Tg n k (.tup l)):∃j,k=j+1:=by
 have:=h.dp
 rw[aC6]at this
 exact⟨k-1,by lia⟩
theorem Tg.len{n k:Nat}{l:List D}(h:Tg n k (.tup l)):l.length<=1000:=(dB2.mp h.lw).1
def chk(f:D->Bool):Nat->D->Bool
 |0,_=>false
 |n+1,d=>f d&&(K1 d).all (chk f n)
theorem eH5{li x:D}(h:x∈liK li):∃fs m,li= .tup [.tup fs,m]/\(x∈fs\/x=m):=by
 by_cases c:aK9 li=true
 · obtain⟨fs,m,rfl⟩:=aF3 c
   refine⟨fs,m,rfl,?_⟩
   rcases zG.mp (show x∈fs++[m]from h)with h|h
   ·exact .inl h
   ·exact .inr (zq.mp h)
 · have e:liK li= []:=by
    rcases li with _|_|_|_|l|_|_|_<;>try rfl
    rcases l with _|⟨a,_|⟨b,_|⟨c',r⟩⟩⟩<;>try rfl
    ·rcases a with _|_|_|_|l|_|_|_<;>rfl
    ·rcases a with _|_|_|_|l|_|_|_<;>first|rfl|exact absurd rfl c
    ·rcases a with _|_|_|_|l|_|_|_<;>rfl
   rw[e]at h;cases h
theorem eQ3{re x:D}(h:x∈reK re):∃rows m,re= .tup [.tup rows,m]/\((∃r∈rows,x=trd r)\/x=m):=by
 by_cases c:aK9 re=true
 · obtain⟨fs,m,rfl⟩:=aF3 c
   refine⟨fs,m,rfl,?_⟩
   rcases zG.mp (show x∈fs.map trd++[m]from h)with h|h
   · obtain⟨r,hr,e⟩:=zw.mp h
     exact .inl ⟨r,hr,e.symm⟩
   ·exact .inr (zq.mp h)
 · have e:reK re= []:=by
    rcases re with _|_|_|_|l|_|_|_<;>try rfl
    rcases l with _|⟨a,_|⟨b,_|⟨c',r⟩⟩⟩<;>try rfl
    ·rcases a with _|_|_|_|l|_|_|_<;>rfl
    ·rcases a with _|_|_|_|l|_|_|_<;>first|rfl|exact absurd rfl c
    ·rcases a with _|_|_|_|l|_|_|_<;>rfl
   rw[e]at h;cases h
theorem eK0{d x:D}(h:x∈K1 d):∃a b c li re,d= .tup [a,b,c,li,re]/\((∃fs m,li= .tup [.tup fs,m]/\(x∈fs\/x=m))\/∃rows m,re= .tup [.tup rows,m]/\((∃r∈rows,x=trd r)\/x=m)):=by
 by_cases c:aA1 5 d=true
 · obtain⟨l,rfl,hl⟩:=aB9 c
   obtain⟨a,b,cc,li,re,rfl⟩:=aQ2 hl
   refine⟨a,b,cc,li,re,rfl,?_⟩
   rcases zG.mp (show x∈liK li++reK re from h)with h|h
   ·exact .inl (eH5 h)
   ·exact .inr (eQ3 h)
 · have e:K1 d= []:=by
    rcases d with _|_|_|_|l|_|_|_<;>try rfl
    rcases l with _|⟨a,_|⟨b,_|⟨c',_|⟨d,_|⟨e,_|⟨f,r⟩⟩⟩⟩⟩⟩<;>first|rfl|exact absurd rfl c
   rw[e]at h;cases h
theorem Tg.non{n k:Nat}:Tg n k .non:=⟨by unfold AT;trivial,by rw[lwD],by rw[dpD];exact je _,by rw[szD];decide⟩
theorem fA8{n k:Nat}{r:D}(h:Tg n (k+1) r):Tg n k (trd r):=by
 unfold trd
 split
 ·exact h.mem (zf _ (zf _ (zc ..)))
 ·exact Tg.non
theorem bN4{a b c li re:D}:li∈ [a,b,c,li,re]:=zf _ (zf _ (zf _ (zc ..)))
theorem bO5{a b c li re:D}:re∈ [a,b,c,li,re]:=zf _ (zf _ (zf _ (zf _ (zc ..))))
theorem Tg.kid{n k:Nat}{d x:D}(h:Tg n k d)(hx:x∈K1 d):∃j,k=j+2/\Tg n j x:=by
 obtain⟨a,b,c,li,re,rfl,⟨fs,m,rfl,hy⟩|⟨rows,m,rfl,hy⟩⟩:=eK0 hx
 · obtain⟨k,rfl⟩:=h.pos
   have h1:=h.mem bN4
   obtain⟨k,rfl⟩:=h1.pos
   refine⟨k,rfl,?_⟩
   rcases hy with hy|rfl
   · have h2:=h1.mem (zc ..)
     obtain⟨k,rfl⟩:=h2.pos
     exact(h2.mem hy).up (zd _) (by lia)
   ·exact h1.mem (zf _ (zc ..))
 · obtain⟨k,rfl⟩:=h.pos
   have h1:=h.mem bO5
   obtain⟨k,rfl⟩:=h1.pos
   refine⟨k,rfl,?_⟩
   rcases hy with⟨r,hr,rfl⟩|rfl
   · have h2:=h1.mem (zc ..)
     obtain⟨k,rfl⟩:=h2.pos
     have h3:=h2.mem hr
     exact(fA8 (h3.up (zd _) (jh k))).up (zd _) (by lia)
   ·exact h1.mem (zf _ (zc ..))
theorem dB6{f:D->Bool}{n:Nat}:∀ {i j k:Nat} {d:D},Tg n k d->k<i->k<j->chk f i d=chk f j d
 |0,_,_,_,_,h,_=>absurd h (yE _)
 |_+1,0,_,_,_,_,h=>absurd h (yE _)
 |i+1,j+1,k,d,h,h1,h2=>by
   show (f d&&(K1 d).all (chk f i))= (f d&&(K1 d).all (chk f j))
   congr 1
   rw[yT,zn,zn]
   refine forall_congr' λx=>forall_congr' λhx=>?_
   obtain⟨k',rfl,hk⟩:=h.kid hx
   rw[dB6 (k:=k') (i:=i) (j:=j) hk (by lia) (by lia)]
theorem dI5{f g:D->Bool}:∀ {n:Nat} {d:D},chk (λd=>f d&&g d) n d= (chk f n d&&chk g n d)
 |0,_=>rfl
 |n+1,d=>by
   show ((f d&&g d)&&(K1 d).all (chk (λd=>f d&&g d) n))= ((f d&&(K1 d).all (chk f n))&&(g d&&(K1 d).all (chk g n)))
   have e:(K1 d).all (chk (λd=>f d&&g d) n)= ((K1 d).all (chk f n)&&(K1 d).all (chk g n)):=by
    rw[show chk (λd=>f d&&g d) n=λd=>chk f n d&&chk g n d from funext λd=>dI5]
    induction K1 d with
    |nil=>rfl
    |cons x l ih=>
      rw[zB,zB,zB,ih]
      cases chk f n x<;>cases chk g n x<;>cases l.all (chk f n)<;>rfl
   rw[e]
   cases f d<;>cases g d<;>cases (K1 d).all (chk f n)<;>rfl
def aI2(f:D->Bool)(d:D):Bool:=chk f 60 d
theorem cO7{f:D->Bool}{n k:Nat}{d:D}(h:Tg n k d)(hk:k<=50):aI2 f d= (f d&&(K1 d).all (aI2 f)):=by
 show (f d&&(K1 d).all (chk f 59))= (f d&&(K1 d).all (chk f 60))
 congr 1
 rw[yT,zn,zn]
 refine forall_congr' λx=>forall_congr' λhx=>?_
 obtain⟨k',rfl,hk'⟩:=h.kid hx
 rw[dB6 (k:=k') (i:=59) (j:=60) hk' (by lia) (by lia)]
theorem aM9{α:Type}{f:α->D}{p:D->Bool}(h:∀d,p d=true->∃a,d=f a):∀ {l:List D},l.all p=true->∃as:List α,l=as.map f
 |[],_=>⟨[],rfl⟩
 |d::r,q=>by
   rw[zB,zg]at q
   obtain⟨a,rfl⟩:=h d q.1
   obtain⟨as,rfl⟩:=aM9 h q.2
   exact⟨a::as,rfl⟩
theorem eT9{d:D}(h:aE7 d=true):cN8 d:=by rcases aC4 h with rfl|⟨i,rfl⟩<;>trivial
theorem fH7{d:D}(h:bA4 d=true):∃ns:List (D×D),d= .tup (ns.map stD)/\∀p∈ns,cA7 p:=by
 rcases d with _|_|_|_|l|_|_|_<;>try (cases h;done)
 have h:(l.all aO8&&aB8 bO6 l)=true:=h
 rw[zg]at h
 obtain⟨ns,rfl⟩:=aM9 (f:=stD) (p:=aO8) (λd hd=>by
  obtain⟨a,b,rfl,_⟩:=bC7 hd
  exact⟨(a,b),rfl⟩) h.1
 refine⟨ns,rfl,λp hp=>?_⟩
 obtain⟨a,b,e,ha,hb⟩:=bC7 (zn.mp h.1 _ (zw.mpr ⟨p,hp,rfl⟩))
 unfold stD at e
 injection e with e;injection e with e1 e;injection e with e2 _
 rw[<-e1]at ha;rw[<-e2]at hb
 exact⟨eT9 ha,eT9 hb,trivial⟩
theorem fG6{d:D}(h:U3 d=true):∃(w:Str) (ts:List Str),d= .tup [.str w,.tup (ts.map D.str)]:=by
 unfold U3 at h
 rw[zg,zg]at h
 obtain⟨w,l,rfl,_⟩:=cM8 h.1
 obtain⟨ts,e⟩:=aM9 (f:=D.str) (p:=aE0) (λd hd=>aF1 hd) (l:=l) h.2.1
 exact⟨w,ts,by rw[e]⟩
theorem eY7{d:D}(h:U4 d=true):∃tr:List Bool,d= .tup (tr.map D.bl):=by
 rcases d with _|_|_|_|l|_|_|_<;>try (cases h;done)
 have h:(l.all X7&&aB8 blD l)=true:=h
 rw[zg]at h
 obtain⟨tr,rfl⟩:=aM9 (f:=D.bl) (p:=X7) (λd hd=>W3 hd) h.1
 exact⟨tr,rfl⟩
theorem fF6{fs:List (Str×Bool×D)}(h:aB8 nmL ((fs.map fdD).map hdD)=true):(fs.map (·.1)).Nodup:=by
 have lt:∀ {l:List Str},aB8 nmL (l.map D.str)=true->l.Pairwise λa b=>a.cps.toList<b.cps.toList:=by
  intro l
  induction l with
  |nil=>intro _;exact .nil
  |cons x l ih=>
    intro h
    rcases l with _|⟨y,l⟩
    ·exact yV ..
    · have h:(decide (x.cps.toList<y.cps.toList)&&aB8 nmL ((y::l).map D.str))=true:=h
      rw[zg]at h
      have hp:=ih h.2
      have hxy:=of_decide_eq_true h.1
      refine yg.mpr ⟨λz hz=>?_,hp⟩
      rcases zi.mp hz with rfl|hz
      ·exact hxy
      ·exact List.lt_trans hxy ((yg.mp hp).1 z hz)
 have e:(fs.map fdD).map hdD= (fs.map (·.1)).map D.str:=by rw[Zz,Zz];rfl
 rw[e]at h
 exact(lt h).imp λ{a b} q e=>by subst e;exact Yr _ q
theorem eC3{d:D}(h:U0 d=true):d= .non:=by cases d<;>first|rfl|cases h
theorem eR2{d:D}(h:liB d=true):d= .non\/∃fs m,d= .tup [.tup fs,m]:=by
 unfold liB at h
 rw[yS]at h
 rcases h with h|h
 ·exact .inl (eC3 h)
 ·exact .inr (aF3 h)
theorem eS3{d:D}(h:reB d=true):d= .non\/∃(fs:List (Str×Bool×D)) (m:D),d= .tup [.tup (fs.map fdD),m]/\(fs.map (·.1)).Nodup:=by
 unfold reB at h
 rw[yS]at h
 rcases h with h|h
 ·exact .inl (eC3 h)
 · rw[zg,zg]at h
   obtain⟨l,m,rfl⟩:=aF3 h.1
   obtain⟨fs,e⟩:=aM9 (f:=fdD) (p:=bA8) (λd hd=>by
    obtain⟨z,k,s,rfl,_⟩:=aZ2 hd
    exact⟨(z,k,s),rfl⟩) (l:=l) h.2.1
   have h2:aB8 nmL (l.map hdD)=true:=h.2.2
   subst e
   exact .inr ⟨fs,m,rfl,fF6 h2⟩
theorem cZ0{d:D}(h:aH5 d=true):d= .str V8\/∃ns w ts tr li re,d=mkS ns w ts tr li re/\(∀p∈ns,cA7 p)/\liB li=true/\reB re=true:=by
 rcases d with _|_|_|z|l|_|_|_<;>try (cases h;done)
 · have h:(z==V8)=true:=h
   rw[Zf h];exact .inl rfl
 · by_cases hl:l.length=5
   · obtain⟨a,b,c,li,re,rfl⟩:=aQ2 hl
     have h:((bA4 a&&(U3 b&&U4 c))&&(liB li&&reB re))=true:=h
     simp only[zg]at h
     obtain⟨ns,rfl,hn⟩:=fH7 h.1.1
     obtain⟨w,ts,rfl⟩:=fG6 h.1.2.1
     obtain⟨tr,rfl⟩:=eY7 h.1.2.2
     exact .inr ⟨ns,w,ts,tr,li,re,rfl,hn,h.2.1,h.2.2⟩
   ·rcases l with _|⟨a,_|⟨b,_|⟨c',_|⟨d,_|⟨e,_|⟨f,r⟩⟩⟩⟩⟩⟩<;>first|(cases h;done)|exact absurd rfl hl
theorem cJ1{m:Nat}:∀ {n k:Nat} {d:D},Tg m k d->chk aH5 n d=true->GS n d
 |0,_,_,_,h=>by cases h
 |n+1,k,d,ht,h=>by
   have h:(aH5 d&&(K1 d).all (chk aH5 n))=true:=h
   rw[zg,zn]at h
   have kid:∀x∈K1 d,GS n x:=λx hx=>by
    obtain⟨j,_,hj⟩:=ht.kid hx
    exact cJ1 hj (h.2 x hx)
   rcases cZ0 h.1 with rfl|⟨ns,w,ts,tr,li,re,rfl,hn,hl,hr⟩
   ·exact .inl rfl
   · obtain⟨k,rfl⟩:=ht.pos
     have b1:szD (.tup (ns.map stD))<=1000000:=(ht.mem (zc ..)).sz
     have t2:=ht.mem (show D.tup [.str w,.tup (ts.map D.str)]∈_ from zf _ (zc ..))
     have t3:=ht.mem (show D.tup (tr.map D.bl)∈_ from zf _ (zf _ (zc ..)))
     have t1:=ht.mem (show D.tup (ns.map stD)∈_ from zc ..)
     obtain⟨k,rfl⟩:=t2.pos
     have t4:=t2.mem (show D.tup (ts.map D.str)∈_ from zf _ (zc ..))
     have l1:=t1.len
     have l3:=t3.len
     have l4:=t4.len
     rw[zo]at l1 l3 l4
     refine .inr ⟨ns,w,ts,tr,li,re,rfl,⟨hn,by lia,λz hz=>aW7 (aJ9 t4.at' (zw.mpr ⟨z,hz,rfl⟩)),by lia,by lia,?_,?_⟩,trivial⟩
     · rcases eR2 hl with rfl|⟨fs,m,rfl⟩
       ·exact .inl rfl
       · have t5:=ht.mem (show D.tup [.tup fs,m]∈_ from bN4)
         refine .inr ⟨fs,m,rfl,(t5.mem (zc ..)).len,λx hx=>kid x ?_,kid m ?_⟩
         ·exact jZ _ (jZ _ hx)
         ·exact jZ _ (zV _ (zc ..))
     · rcases eS3 hr with rfl|⟨fs,m,rfl,nd⟩
       ·exact .inl rfl
       · have t5:=ht.mem (show D.tup [.tup (fs.map fdD),m]∈_ from bO5)
         have t6:=t5.mem (show D.tup (fs.map fdD)∈_ from zc ..)
         have l6:=t6.len
         rw[zo]at l6
         obtain⟨k,rfl⟩:=t6.pos
         refine .inr ⟨fs,m,rfl,l6,nd,λf hf=>⟨?_,kid _ ?_⟩,kid m ?_⟩
         · have t7:=t6.mem (zw.mpr ⟨f,hf,rfl⟩)
           exact aW7 (aJ9 (l:= [.str f.1,.bl f.2.1,f.2.2]) t7.at' (zc ..))
         ·exact zV _ (jZ _ (zw.mpr ⟨fdD f,zw.mpr ⟨f,hf,rfl⟩,rfl⟩))
         ·exact zV _ (zV _ (zc ..))
theorem cQ9:∀ {l:List D},cJ5 l=true↔∀x∈l,aG5 x=true
 |[]=>by simp[cJ5]
 |d::r=>by
   rw[cJ5,zg,cQ9 (l:=r)]
   simp
theorem aH4{l:List D}:aG5 (.tup l)=true↔∀x∈l,aG5 x=true:=by rw[aG5,cQ9]
mutual
theorem dG1:∀(d:D) {m:Nat},aG5 d=true->dpD d<=m->W6 m d=true
 | .non,m,_,_=>by cases m<;>rfl
 | .bl _,m,_,_=>by cases m<;>rfl
 | .int _,m,_,_=>by cases m<;>rfl
 | .str _,m,_,_=>by cases m<;>rfl
 | .tup l,0,_,h=>by rw[aC6]at h;lia
 | .tup l,m+1,h,k=>by
   rw[aG5]at h
   rw[aC6]at k
   exact eA6 l h (by lia)
 | .ref _,_,h,_=>by rw[aG5]at h;cases h
 | .fn _,_,h,_=>by rw[aG5]at h;cases h
 | .ty _,_,h,_=>by rw[aG5]at h;cases h
theorem eA6:∀(l:List D) {m:Nat},cJ5 l=true->dpL l<=m->l.all (W6 m)=true
 |[],_,_,_=>rfl
 |d::r,m,h,k=>by
   rw[cJ5,zg]at h
   rw[S5]at k
   rw[zB,dG1 d h.1 (zv (Yi ..) k),eA6 r h.2 (zv (ZV ..) k)];rfl
end
theorem dD8{d:D}(h:cN8 d):aG5 d=true:=by
 rcases bU9 h with rfl|⟨i,rfl⟩<;>rw[aG5]
theorem bH6:∀ {n:Nat} {d:D},GS n d->aG5 d=true
 |0,_,h=>h.elim
 |n+1,d,h=>by
   rcases h with rfl|⟨ns,w,ts,tr,li,re,rfl,h,_⟩
   ·rw[aG5]
   · have s:∀z:Str,aG5 (.str z)=true:=λz=>by rw[aG5]
     have b:∀k:Bool,aG5 (.bl k)=true:=λz=>by rw[aG5]
     have q1:aG5 (.tup (ns.map stD))=true:=aH4.mpr λx hx=>by
      obtain⟨p,hp,rfl⟩:=zw.mp hx
      refine aH4.mpr λy hy=>?_
      rcases zi.mp hy with rfl|hy
      ·exact dD8 (h.st p hp).1
      ·rw[zq.mp hy];exact dD8 (h.st p hp).2.1
     have q2:aG5 (.tup (ts.map D.str))=true:=aH4.mpr λx hx=>by
      obtain⟨p,hp,rfl⟩:=zw.mp hx
      exact s p
     have q3:aG5 (.tup (tr.map D.bl))=true:=aH4.mpr λx hx=>by
      obtain⟨p,hp,rfl⟩:=zw.mp hx
      exact b p
     have q4:aG5 li=true:=by
      rcases h.li with rfl|⟨fs,m,rfl,_,hf,hm⟩
      ·rw[aG5]
      · refine aH4.mpr λy hy=>?_
        rcases zi.mp hy with rfl|hy
        ·exact aH4.mpr λx hx=>bH6 (hf x hx)
        ·rw[zq.mp hy];exact bH6 hm
     have q5:aG5 re=true:=by
      rcases h.re with rfl|⟨fs,m,rfl,_,_,hf,hm⟩
      ·rw[aG5]
      · refine aH4.mpr λy hy=>?_
        rcases zi.mp hy with rfl|hy
        · refine aH4.mpr λx hx=>?_
          obtain⟨f,hfm,rfl⟩:=zw.mp hx
          refine aH4.mpr λy hy=>?_
          simp only[zi,zu,or_false]at hy
          rcases hy with rfl|rfl|rfl
          ·exact s _
          ·exact b _
          ·exact bH6 (hf f hfm).2
        ·rw[zq.mp hy];exact bH6 hm
     refine aH4.mpr λy hy=>?_
     simp only[zi,zu,or_false]at hy
     rcases hy with rfl|rfl|rfl|rfl|rfl
     ·exact q1
     · refine aH4.mpr λy hy=>?_
       rcases zi.mp hy with rfl|hy
       ·exact s _
       ·rw[zq.mp hy];exact q2
     ·exact q3
     ·exact q4
     ·exact q5
theorem bV3{n:Nat}{x y:D}{G:DH}(hx:GS n x)(hy:GS n y)(dx:dpD x<=38)(dy:dpD y<=38):eqN 40 G x y=some (N5 x y):=by
 obtain⟨b,e⟩:=bD4 (G:=G) 38 40 x y (by decide) (dG1 x (bH6 hx) dx) (dG1 y (bH6 hy) dy)
 rw[e]
 congr 1
 rw[yT,aZ1]
 refine⟨λh=>?_,?_⟩
 ·subst h;exact SB.eqs _ _ _ hx.sb hy.sb e
 · rintro rfl
   rw[aO7 (G:=G) (n:=38) (m:=40) (by decide) (dG1 x (bH6 hx) dx)]at e
   exact(jd e).symm
theorem dY3{n:Nat}{x y:D}{a b:Fe}{O:DSt}{G:DH}(ea:a O G=some (.ok x,G))(eb:b O G=some (.ok y,G))(hx:GS n x)(hy:GS n y)(dx:dpD x<=38)(dy:dpD y<=38):Ev (d7 neD a b O) G (!N5 x y):=λQ q=>Z0 ea eb<| bV2.mpr ⟨_,bV3 hx hy dx dy,q G Ap.refl⟩
theorem bR1{n:Nat}:GS (n+1) noS:=.inr ⟨[],wOf, [], [],.non,.non,rfl,⟨(λ_ h=>nomatch h),by decide,(λ_ h=>nomatch h),by decide,by decide,.inl rfl,.inl rfl⟩,trivial⟩
def evS:D:=mkS [(.non,.non)] ("but" :Str) [] [false,true] (.tup [.tup [],.str V8]) (.tup [.tup [],.str V8])
theorem eR3{n:Nat}:GS (n+2) evS:=.inr ⟨_,_,_,_,_,_,rfl,⟨(λp hp=>by rw[zq.mp hp];exact⟨trivial,trivial,trivial⟩),by decide,(λ_ h=>nomatch h),by decide,by decide,.inr ⟨[],_,rfl,by decide,(λ_ h=>nomatch h),.inl rfl⟩,.inr ⟨[],_,rfl,by decide,Yq,(λ_ h=>nomatch h),.inl rfl⟩⟩,trivial⟩
theorem bR2:dpD noS<=38:=by simp[noS,mkS,dpD,dpL]
theorem eR0:dpD evS<=38:=by simp[evS,mkS,stD,dpD,dpL]
def cF1:D->Bool
 | .tup [.tup fs,_]=>fs.all λx=> !N5 x noS
 |_=>true
def aV7(m:D):D->Bool
 | .tup [_,.bl k,s]=>if k then !N5 s noS else !N5 s m
 |_=>false
def bY0:D->Bool
 | .tup [.tup rows,m]=>rows.all (aV7 m)
 |_=>true
def aP8(d:D):Bool:=match d with
 | .tup [_,_,_,li,re]=>cF1 li&&(bY0 re&&!N5 d evS)
 |_=>true
theorem fX7{n:Nat}{f:Str×Bool×D}{m:D}{G:DH}(hs:GS (n+1) f.2.2)(hm:GS (n+1) m)(ds:dpD f.2.2<=38)(sz:szD f.2.2<=1000000):Ev (aZ5 [fdD f,m]) G (aV7 m (fdD f)):=bA3<| by
 obtain⟨z,k,s⟩:=f
 unfold bW0
 refine aQ7 λQ q=>?_
 rcases k with _|_
 ·exact eU8 (G1:=G) rfl<| dC1 (aC2 (as:= [s,m]) rfl rfl (fH0 hs hm sz)) _ q
 ·exact fY9 (G1:=G) rfl<| dY3 (x:=s) (y:=noS) rfl rfl hs bR1 ds bR2 _ q
theorem cJ3{t u:DSt->M Bool}{g:Fs}{O:DSt}{G:DH}{x y:Bool}(h:EvT (aB3 t (R1 u) O) G x)(k:x=false->∀G',Ap G G'->EvS g O G' y):EvS (j0 (ifS (aB3 t (R1 u)) (t8 (cE (.bl false))) u0) g) O G (!x&&y):=λQ q=>m9.mpr<| aH1<| h _ λG' j=>by
 cases x
 ·exact⟨λh=>(nomatch h),λ_=>J1.mpr<| k rfl G' j _ λG2 j2=>q G2 (j.trans j2)⟩
 ·exact⟨λ_=>U5<| bB5.mpr<| R6 (q G' j),λh=>(nomatch h)⟩
theorem ix2{l l':List D}{a:D}{i j:Int}{O:DSt}{G:DH}{f:Fe}(e:f O G=some (.ok (.tup l),G))(h:atI l i=some (.tup l'))(h':atI l' j=some a):(d7 ixD (d7 ixD f (cE (.int i))) (cE (.int j))) O G=some (.ok a,G):=ix0 (ix0 e h) h'
theorem bL5{b:Fe}{l:List D}{O:DSt}{G:DH}(e:b O G=some (.ok (.tup l),G)):itW b O G=some (.ok ⟨l,λ_=>true⟩,G):=aA3<| wp_itW.mpr<| d9 e<| srcW_tup.mpr ⟨rfl,rfl⟩
theorem fM4:aN5=j0 OF1 (j0 OF2 (j0 OF3 OF4)):=rfl
theorem fV6{n m k:Nat}{d:D}{G:DH}(h:GS (n+2) d)(ht:Tg m k d)(hk:k<=38):Ev (X6 [d]) G (aP8 d):=bA3<| by
 rw[fM4]
 rcases h with rfl|⟨ns,w,ts,tr,li,re,rfl,h,_⟩
 ·exact bR5 (x:=true) (T6 (Ev.of rfl)) (λ_ _ _=>Ev.of rfl) λh=>(nomatch h)
 have hd:GS (n+2) (mkS ns w ts tr li re):=.inr ⟨ns,w,ts,tr,li,re,rfl,h,trivial⟩
 refine bR5 (x:=false) (T6 (Ev.of rfl)) (λh=>(nomatch h)) λ_ G1 j1=>?_
 obtain⟨k,rfl⟩:=ht.pos
 have bg:1000<=zh:=by decide
 show EvS _ _ _ (cF1 li&&(bY0 re&&!N5 (mkS ns w ts tr li re) evS))
 have last:∀G2,EvS OF4 ([mkS ns w ts tr li re].map some++jb (1 - [mkS ns w ts tr li re].length) none) G2 (!N5 (mkS ns w ts tr li re) evS):=λG2=>aQ7<| dY3 (x:=mkS ns w ts tr li re) (y:=evS) rfl rfl hd eR3 (by have:=ht.dp;lia) eR0
 have part2:∀G2,EvS (j0 OF3 OF4) ([mkS ns w ts tr li re].map some++jb (1 - [mkS ns w ts tr li re].length) none) G2 (bY0 re&&!N5 (mkS ns w ts tr li re) evS):=λG2=>by
  rcases h.re with e|⟨fs,mo,e,hl,_,hf,hm⟩
  · subst e
    exact cJ3 (x:=false) (EvT.of rfl) λ_ G3 _=>last G3
  · subst e
    have t1:=ht.mem (show D.tup [.tup (fs.map fdD),mo]∈_ from bO5)
    obtain⟨k,rfl⟩:=t1.pos
    have t2:=t1.mem (show D.tup (fs.map fdD)∈_ from zc ..)
    obtain⟨k,rfl⟩:=t2.pos
    have e:bY0 (.tup [.tup (fs.map fdD),mo])= !(true&&!(fs.map fdD).all (aV7 mo)):=by rw[zT,xz];rfl
    rw[e]
    refine cJ3 (aM0 (x:=true) (EvT.of rfl) λ_ G3 j3=>aB2<| R0 ?_) λ_ G3 _=>last G3
    refine dJ2 (items:=fs.map fdD) (ck:=λ_=>true) (λO=>∃u,O= [u,some (mkS ns w ts tr li (.tup [.tup (fs.map fdD),mo]))]) (aV7 mo) (bL5 (ix2 rfl rfl rfl)) (λ_ _=>rfl) (by rw[zo];lia) ⟨_,rfl⟩ λx hx O G4 s j=>?_
    obtain⟨u,rfl⟩:=s
    obtain⟨f,hfm,rfl⟩:=zw.mp hx
    have t3:=t2.mem hx
    obtain⟨k,rfl⟩:=Tg.pos (l:= [.str f.1,.bl f.2.1,f.2.2]) t3
    have t4:=Tg.mem (l:= [.str f.1,.bl f.2.1,f.2.2]) t3 (zf _ (zf _ (zc ..)))
    exact Q5.mpr ⟨rfl,⟨_,rfl⟩,aC2 (aS2 rfl (ix2 rfl rfl rfl)) rfl (fX7 (hf f hfm).2 hm (by have:=t4.dp;lia) t4.sz)⟩
 rcases h.li with e|⟨fs,mo,e,hl,hf,hm⟩
 · subst e
   exact cJ3 (x:=false) (EvT.of rfl) λ_ G3 _=>part2 G3
 · subst e
   have t1:=ht.mem (show D.tup [.tup fs,mo]∈_ from bN4)
   obtain⟨k,rfl⟩:=t1.pos
   have t2:=t1.mem (show D.tup fs∈_ from zc ..)
   obtain⟨k,rfl⟩:=t2.pos
   have e:cF1 (.tup [.tup fs,mo])= !(true&&!fs.all λx=> !N5 x noS):=by rw[zT,xz];rfl
   rw[e]
   refine cJ3 (aM0 (x:=true) (EvT.of rfl) λ_ G3 j3=>aB2<| R0 ?_) λ_ G3 _=>part2 G3
   refine dJ2 (items:=fs) (ck:=λ_=>true) (λO=>∃u,O= [u]) (λx=> !N5 x noS) (bL5 (ix2 rfl rfl rfl)) (λ_ _=>rfl) (by lia) ⟨_,rfl⟩ λx hx O G4 s j=>?_
   obtain⟨u,rfl⟩:=s
   exact Q5.mpr ⟨rfl,⟨_,rfl⟩,dY3 (x:=x) (y:=noS) rfl rfl (hf x hx) bR1 (by have:=(t2.mem hx).dp;lia) bR2⟩
noncomputable abbrev TT:D->Prop:=λ_=>True
theorem eV6{m k:Nat}{d:D}(h:aH5 d=true)(ht:Tg m k d):d= .str V8\/∃ns w ts tr li re,d=mkS ns w ts tr li re/\LiG TT li/\ReG TT re:=by
 rcases cZ0 h with rfl|⟨ns,w,ts,tr,li,re,rfl,hn,hl,hr⟩
 ·exact .inl rfl
 · obtain⟨k,rfl⟩:=ht.pos
   refine .inr ⟨ns,w,ts,tr,li,re,rfl,?_,?_⟩
   · rcases eR2 hl with rfl|⟨fs,m,rfl⟩
     ·exact .inl rfl
     · have t5:=ht.mem (show D.tup [.tup fs,m]∈_ from bN4)
       obtain⟨k,rfl⟩:=t5.pos
       exact .inr ⟨fs,m,rfl,(t5.mem (zc ..)).len,λ_ _=>trivial,trivial⟩
   · rcases eS3 hr with rfl|⟨fs,m,rfl,nd⟩
     ·exact .inl rfl
     · have t5:=ht.mem (show D.tup [.tup (fs.map fdD),m]∈_ from bO5)
       obtain⟨k,rfl⟩:=t5.pos
       have t6:=t5.mem (show D.tup (fs.map fdD)∈_ from zc ..)
       have l6:=t6.len
       rw[zo]at l6
       obtain⟨k,rfl⟩:=t6.pos
       refine .inr ⟨fs,m,rfl,l6,nd,λf hf=>⟨?_,trivial⟩,trivial⟩
       have t7:=t6.mem (zw.mpr ⟨f,hf,rfl⟩)
       exact aW7 (aJ9 (l:= [.str f.1,.bl f.2.1,f.2.2]) t7.at' (zc ..))
theorem eF5{d:D}{G:DH}{Q:DPP}(h:d= .str V8\/∃ns w ts tr li re,d=mkS ns w ts tr li re/\LiG TT li/\ReG TT re)(q:∀p G',Ap G G'->G.length<=p->G'[p]? =some (.lst (K1 d))->Q (.ref p) G'):Wp (T9 [d]) G Q:=by
 rcases h with rfl|⟨ns,w,ts,tr,li,re,rfl,hl,hr⟩
 · refine T4 (show Wp (aA9 [some (.str V8),none]) G _ from ?_)
   rw[eO6]
   exact K9 (X1:= [some (.str V8),some (.ref G.length)]) (G':=G++[.lst []]) rfl<| dV4 (d:=.ref G.length) (G':=G++[.lst []]) rfl (R6 (q _ _ Ap.one (zd _) o5))
 · refine T4 (show Wp (aA9 [some (mkS ns w ts tr li re),none]) G _ from ?_)
   rw[eO6]
   refine K9 (X1:= [some (mkS ns w ts tr li re),some (.ref G.length)]) (G':=G++[.lst []]) rfl<| K9 (X1:= [some (mkS ns w ts tr li re),some (.ref G.length)]) (G':=G++[.lst []]) rfl ?_
   refine m9.mpr<| fY5 (Ap.one (G:=G)) (zd _) o5 (je _) hl λG1 a1 e1=>m9.mpr<| fN3 a1 (zd _) e1 (by have:=dD1 hl;simpa using zv this (by decide)) hr λG2 a2 e2=>?_
   exact d9 rfl (R6 (q _ _ a2 (zd _) e2))
theorem fV0{d:D}(h:d= .str V8\/∃ns w ts tr li re,d=mkS ns w ts tr li re/\LiG TT li/\ReG TT re):szL (K1 d)<szD d:=by
 rcases h with rfl|⟨ns,w,ts,tr,li,re,rfl,hl,hr⟩
 · show szL []<_
   rw[J9];exact bU2 _
 · have h1:szL (liK li)<=szD li:=by
    rcases hl with e|⟨fs,m,e,_⟩<;>rw[e]
    · show szL []<=_
      rw[J9];exact je _
    · show szL (fs++[m])<=_
      rw[R8,M5,m5,m5,J9,M5,m5,J9];lia
   have h2:szL (reK re)<=szD re:=by
    rcases hr with e|⟨fs,m,e,_⟩<;>rw[e]
    · show szL []<=_
      rw[J9];exact je _
    · show szL ((fs.map fdD).map trd++[m])<=_
      have:=eA4 fs
      rw[R8,M5,m5,m5,J9,M5,m5,J9];lia
   show szL (liK li++reK re)<szD (.tup [.tup (ns.map stD),.tup [.str w,.tup (ts.map D.str)],.tup (tr.map D.bl),li,re])
   rw[R8,M5,m5,m5,m5,m5,m5,J9]
   lia
theorem gC7:bM5=j0 (K3 (M6 q14) (q16 1)) (j0 (K3 (M6 (q13 (c7 0) q14)) (q16 2)) (j0 (bC6 ZT (j0 Z1 (j0 V2 (j0 V3 V4)))) (t8 (q15 aY1 (q13 (Q0 (itW (c7 1)) [none] (q16 0) (aA2) (q15 (fnX 1 X6) (q13 (c7 0) q14))) q14))))):=rfl
def VQ(b:Bool)(fo:Bool)(m k:Nat)(x:Option D)(r p:Nat)(G0:DH)(fl:Fl)(G':DH):Prop:=Ap G0 G'/\((b=false/\fl= .rt (.bl false))\/(b=true/\∃u' fd',fl= .nx [x,some (.ref r),some (.ref p),u']/\G'[r]? =some (.lst fd')/\(∀d∈fd',Tg m k d/\aI2 aH5 d=true)/\fd'.length<=1100000/\fd'.all aP8=fo))
theorem dW7{k p r:Nat}{x:Option D}{G0:DH}(hk:k<=38)(hp:G0.length<=p)(hr:G0.length<=r)(hpr:p≠r):∀(fuel:Nat) (ws fd:List D) (u:Option D) (G:DH),Ap G0 G->G[p]? =some (.lst ws)->G[r]? =some (.lst fd)->szL ws<fuel->szL ws+fd.length<=1100000->(∀d∈ws,Tg G0.length k d)->(∀d∈fd,Tg G0.length k d)->(ws.all (aI2 aH5)=true->∀d∈fd,aI2 aH5 d=true)->
 Wp (X8 fuel ZT (j0 Z1 (j0 V2 (j0 V3 V4))) [x,some (.ref r),some (.ref p),u]) G (VQ (ws.all (aI2 aH5)) (fd.all aP8&&ws.all (aI2 aP8)) G0.length k x r p G0)
 |0,ws,fd,u,G,_,_,_,hf,_,_,_,_=>absurd hf (yE _)
 |fuel+1,ws,fd,u,G,hA,e,er,hf,hb,hw,hd,hh=>by
   have bg:10000000<=zh:=by decide
   by_cases hne:ws= []
   · subst hne
     refine aS7.mpr<| aD0.mpr<| d9 (a:=.ref p) rfl<| (aT4 e).mpr ?_
     rw[if_neg (by simp)]
     exact⟨hA,.inr ⟨rfl,u,fd,rfl,er,λd m=>⟨hd d m,hh rfl d m⟩,by lia,by rw[jW,jF]⟩⟩
   · obtain⟨t,q,rfl⟩:∃(t:List D) (q:D),ws=t++[q]:=⟨ws.dropLast,ws.getLast hne,(xq hne).symm⟩
     refine aS7.mpr<| aD0.mpr<| d9 (a:=.ref p) rfl<| (aT4 e).mpr ?_
     rw[if_pos (by simp)]
     refine m9.mpr<| S7<| aT5.mpr<| d9 (a:=.ref p) rfl<| (T3 e).mpr<| o9.mpr<| (cN3 e).mpr ?_
     have e1:(G.set p (.lst t))[p]? =some (.lst t):=zF (lt_of_get e)
     have er1:(G.set p (.lst t))[r]? =some (.lst fd):=by rw[jM hpr];exact er
     have a1:Ap G0 (G.set p (.lst t)):=hA.set hp
     have hq:=hw q (by simp)
     have fq:aI2 aH5 q= (aH5 q&&(K1 q).all (aI2 aH5)):=cO7 hq (by lia)
     have oq:aI2 aP8 q= (aP8 q&&(K1 q).all (aI2 aP8)):=cO7 hq (by lia)
     have hs:szL (t++[q])=szL t+szD q:=by rw[R8,m5,J9];rfl
     rw[hs]at hf hb
     have ta:(t++[q]).all (aI2 aH5)= (t.all (aI2 aH5)&&aI2 aH5 q):=by rw[jR,zB,jW,jF]
     have oa:(t++[q]).all (aI2 aP8)= (t.all (aI2 aP8)&&aI2 aP8 q):=by rw[jR,zB,jW,jF]
     refine m9.mpr<| aH1<| aB2 (R0 (aC2 (as:= [q]) rfl rfl (fL6 (hq.at'.le a1.len) hq.zl))) _ λG2 a2=>?_
     rcases hfq:aH5 q with _|_
     · refine⟨λ_=>d9 (a:=Fl.rt (.bl false)) (G':=G2) rfl ?_,λh=>(nomatch h)⟩
       exact⟨a1.trans a2,.inl ⟨by rw[ta,fq,hfq,jP,yw],rfl⟩⟩
     refine⟨λh=>(nomatch h),λ_=>J1.mpr ?_⟩
     have sh:=eV6 hfq hq
     have hk:=fV0 sh
     have e2:=a2.at e1
     have er2:=a2.at er1
     refine m9.mpr<| aM6.mpr<| aT5.mpr<| d9 (a:=.ref r) rfl<| (T3 er2).mpr<| d9 (a:= [q]) (G':=G2) rfl<| (aP7 er2 (by lia)).mpr ?_
     have e3:(G2.set r (.lst (fd++[q])))[p]? =some (.lst t):=by rw[jM (yP hpr)];exact e2
     have er3:(G2.set r (.lst (fd++[q])))[r]? =some (.lst (fd++[q])):=zF (lt_of_get er2)
     have a3:Ap G0 (G2.set r (.lst (fd++[q]))):=(a1.trans a2).set hr
     refine aM6.mpr<| aT5.mpr<| d9 (a:=.ref p) rfl<| (T3 e3).mpr<| v8<| v9 (as:= [q]) rfl rfl<| eF5 sh λp4 G4 a4 l4 e4=>o9.mpr ?_
     have e5:=a4.at e3
     have er5:=a4.at er3
     have hl1:=aC0 t
     have hl2:=aC0 (K1 q)
     have ba:(t++K1 q).all (aI2 aH5)= (t++[q]).all (aI2 aH5):=by rw[ta,fq,hfq,zT,jR]
     have fo:((fd++[q]).all aP8&&(t++K1 q).all (aI2 aP8))= (fd.all aP8&&(t++[q]).all (aI2 aP8)):=by
      rw[oa,oq,jR,zB,jW,jF,jR]
      cases fd.all aP8<;>cases aP8 q<;>cases t.all (aI2 aP8)<;>rfl
     refine(aW1 e5 e4 (by lia)).mpr ?_
     have w:=dW7 (x:=x) (k:=k) (by lia) hp hr hpr fuel (t++K1 q) (fd++[q]) (some q) _ ((a3.trans a4).set hp) (zF (lt_of_get e5)) (by rw[jM hpr];exact er5) (by rw[R8];lia) (by rw[R8,zx,yj];have:=bU2 q;lia) (λd hd'=>?_) (λd hd'=>?_) (λhb' d hd'=>?_)
     · rw[ba,fo]at w
       exact w
     · rcases zG.mp hd' with hd'|hd'
       ·exact hw d (by simp[hd'])
       · obtain⟨j,ej,hj⟩:=hq.kid hd'
         exact hj.up (zd _) (by lia)
     · rcases zG.mp hd' with hd'|hd'
       ·exact hd d hd'
       ·rw[zq.mp hd'];exact hq
     · rw[ba]at hb'
       rcases zG.mp hd' with hd'|hd'
       ·exact hh hb' d hd'
       · rw[zq.mp hd']
         rw[ta,zg]at hb'
         exact hb'.2
theorem bI1{k:Nat}{d:D}{G:DH}(h:Tg G.length k d)(hk:k<=38):Ev (aE8 [d]) G (aI2 aH5 d&&aI2 aP8 d):=λQ q=>by
 refine T4 (show Wp (bM5 [some d,none,none,none]) G _ from ?_)
 rw[gC7]
 have hd:=h.sz
 have hs:szL [d]=szD d:=by rw[m5,J9];rfl
 refine K9 (X1:= [some d,some (.ref G.length),none,none]) (G':=G++[.lst []]) rfl<| K9 (X1:= [some d,some (.ref G.length),some (.ref (G++[DO.lst []]).length),none]) (G':=G++[.lst []]++[.lst [d]]) rfl ?_
 refine m9.mpr<| cA3 (n:=szD d+1)<| (dW7 (k:=k) (G0:=G) (p:=(G++[DO.lst []]).length) (r:=G.length) hk (by simp) (zd _) (by simp) (szD d+1) [d] [] none _ (Ap.one.trans Ap.one) o5 (R4 o5) (by rw[hs];lia) (by rw[hs,jk];lia) (λx hx=>by rw[zq.mp hx];exact h) (λx hx=>by cases hx) (λ_ x hx=>by cases hx)).mono ?_
 rintro fl G1 ⟨a1,⟨hb,rfl⟩|⟨hb,u',fd,rfl,e1,h1,hl,ho⟩⟩
 · rw[zB,jW,jF]at hb
   rw[hb,jP]at q
   exact R6 (q G1 a1)
 · rw[zB,jW,jF]at hb
   rw[hb,zT]at q
   have bg:10000000<=zh:=by decide
   rw[jW,zT,zB,jW,jF]at ho
   rw[<-ho]at q
   refine U5<| dJ2 (items:=fd) (ck:=ckO G.length (.lst fd)) (λO=>∃u,O= [u]) aP8 (aA3<| wp_itW.mpr<| d9 (a:=.ref G.length) rfl<| (bM8 e1).mpr ⟨rfl,rfl⟩) (λG' a=>dM7 (a.at e1)) (by lia) ⟨_,rfl⟩ (λx hx O G2 s j=>?_) _ λG2 a2=>R6 (q G2 (a1.trans a2))
   obtain⟨u,rfl⟩:=s
   exact Q5.mpr ⟨rfl,⟨_,rfl⟩,aC2 (as:= [x]) rfl rfl (fV6 (n:=58) (cJ1 (h1 x hx).1 (h1 x hx).2) (h1 x hx).1 hk)⟩
theorem eT0{g:Fg}{t:DSt->M Bool}{e:Fe}{ck:DH->Bool}(J:DH->Prop)(S:DSt->Prop)(p:D->Bool)(hck:∀G,J G->ck G=true):∀(items:List D) (O:DSt) (G:DH),S O->J G->
 (∀d∈items,∀ O G,S O->J G->Wp (g d O) G λW1 G1=>G1=G/\S W1/\Wp (t W1) G λk G3=>k=p d/\J G3/\Wp (e W1) G3 λy G4=>y=d/\G4=G3)->
 Wp (Q8 g t e ck items O) G λys G'=>J G'/\ys=items.filter p
 |[],O,G,s,j,_=>bM6.mpr ⟨hck G j,j,rfl⟩
 |d::r,O,G,s,j,step=>by
   refine bJ4.mpr ⟨hck G j,(step d (zc ..) O G s j).mono λW1 G1 ⟨e1,s1,w1⟩=>?_⟩
   subst e1
   refine w1.mono λk G3 ⟨ek,j3,w3⟩=>?_
   have ih:=eT0 J S p hck r W1 G3 s1 j3 λd hd=>step d (zf _ hd)
   subst ek
   rcases hp:p d with _|_
   · rw[if_neg (by decide),YO (by rw[hp];decide)]
     exact ih
   · rw[if_pos rfl,YN hp]
     refine w3.mono λy G4 ⟨ey,eg⟩=>?_
     subst ey eg
     exact ih.mono λys G5 ⟨j5,e5⟩=>⟨j5,by rw[e5]⟩
theorem cK1{p:D->Bool}:∀ {l:List D},(!(l.filter p).isEmpty)=l.any p
 |[]=>rfl
 |x::l=>by
   rw[List.filter_cons,jq]
   rcases h:p x with _|_
   ·rw[if_neg (by simp)];exact cK1
   ·rw[if_pos rfl];rfl
section
variable{it:DSt->M Src}{caps:List (Option Nat)}{g:Fg}{t:DSt->M Bool}{e:Fe}{O:DSt}{G:DH}{items:List D}{ck:DH->Bool}
theorem flt{Q:DPP}(S:DSt->Prop)(f:D->Bool)(hs:it O G=some (.ok ⟨items,ck⟩,G))(hck:∀G',Ap G G'->ck G'=true)(hl:items.length<=zh)(h0:S (Z6 caps O))
 (step:∀d∈items,∀ O G1,S O->Ap G G1->Wp (g d O) G1 λW1 G2=>G2=G1/\S W1/\EvT (t W1) G1 (f d)/\∀G3,e W1 G3=some (.ok d,G3)) (q:∀p G',Ap G G'->G'[p]? =some (.lst (items.filter f))->Q (.ref p) G'):Wp (Q0 it caps g t e O) G Q:=by
 refine wp_comp.mpr<| d9 hs ⟨hl,(eT0 (Ap G) S f hck items _ G h0 Ap.refl ?_).mono ?_⟩
 · intro d hd O G1 s j
   exact(step d hd O G1 s j).mono λW1 G2 ⟨e1,s1,w,k⟩=>⟨e1,s1,w _ λG3 j3=>⟨rfl,j.trans j3,d9 (k G3) ⟨rfl,rfl⟩⟩⟩
 · rintro _ G1 ⟨j1,rfl⟩
   exact q _ _ (j1.trans Ap.one) o5
theorem dH7(S:DSt->Prop)(f:D->Bool)(hs:it O G=some (.ok ⟨items,ck⟩,G))(hck:∀G',Ap G G'->ck G'=true)(hl:items.length<=zh)(h0:S (Z6 caps O))
 (step:∀d∈items,∀ O G1,S O->Ap G G1->Wp (g d O) G1 λW1 G2=>G2=G1/\S W1/\EvT (t W1) G1 (f d)/\∀G3,e W1 G3=some (.ok d,G3)):Ev (d7 neD (Q0 it caps g t e) (M6 q14) O) G (items.any f):=λQ q=>
 w6<| flt S f hs hck hl h0 step λp G' j ep=>d9 (a:=.ref G'.length) (G':=G'++[.lst []]) rfl<| (cX4 (R4 ep) o5).mpr (by rw[cK1];exact q _ (j.trans Ap.one))
theorem eU3(S:DSt->Prop)(f:D->Bool)(hs:it O G=some (.ok ⟨items,ck⟩,G))(hck:∀G',Ap G G'->ck G'=true)(hl:items.length<=zh)(h0:S (Z6 caps O))
 (step:∀d∈items,∀ O G1,S O->Ap G G1->Wp (g d O) G1 λW1 G2=>G2=G1/\S W1/\EvT (t W1) G1 (f d)/\∀G3,e W1 G3=some (.ok d,G3)):Ev (d7 eqD (Q0 it caps g t e) (M6 q14) O) G (!items.any f):=λQ q=>
 w6<| flt S f hs hck hl h0 step λp G' j ep=>d9 (a:=.ref G'.length) (G':=G'++[.lst []]) rfl<| (eL6 (R4 ep) o5).mpr (by rw[<-cK1 (l:=items),xz]at q;exact q _ (j.trans Ap.one))
end
section
variable{t:DSt->M Bool}{g:Fs}{O:DSt}{G:DH}{x y:Bool}
theorem eV5(h:EvT (t O) G x)(k:x=false->∀G',Ap G G'->EvS g O G' y):EvS (j0 (ifS t (t8 (cE (.bl false))) u0) g) O G (!x&&y):=λQ q=>m9.mpr<| aH1<| h _ λG' j=>by
 cases x
 ·exact⟨λh=>(nomatch h),λ_=>J1.mpr<| k rfl G' j _ λG2 j2=>q G2 (j.trans j2)⟩
 ·exact⟨λ_=>U5<| bB5.mpr<| R6 (q G' j),λh=>(nomatch h)⟩
theorem bZ1{K:Fl->DH->Prop}(h:EvT (t O) G x)(r:x=true->∀G',Ap G G'->K (.rt (.bl false)) G')(k:x=false->∀G',Ap G G'->Wp (g O) G' K):Wp (j0 (ifS t (t8 (cE (.bl false))) u0) g O) G K:=m9.mpr<| aH1<| h _ λG' j=>by
 cases x
 ·exact⟨λh=>(nomatch h),λ_=>J1.mpr<| k rfl G' j⟩
 ·exact⟨λ_=>U5<| bB5.mpr<| r rfl G' j,λh=>(nomatch h)⟩
theorem fN6{K:Fl->DH->Prop}(h:EvT (t O) G x)(r:x=true->∀G',Ap G G'->K (.rt (.bl false)) G')(k:x=false->∀G',Ap G G'->K (.nx O) G'):Wp (ifS t (t8 (cE (.bl false))) u0 O) G K:=aH1<| h _ λG' j=>by
 cases x
 ·exact⟨λh=>(nomatch h),λ_=>J1.mpr<| k rfl G' j⟩
 ·exact⟨λ_=>U5<| bB5.mpr<| r rfl G' j,λh=>(nomatch h)⟩
end
theorem cS0{k:Nat}{n:Int}{d:D}{O:DSt}{G:DH}{f:Fe}{u:DSt->M Bool}{y:Bool}(hn:n=k)(e:∀G,f O G=some (.ok d,G))(h:aH0 G d)(r:aA1 k d=true->∀G',Ap G G'->EvT (u O) G' y):EvT (orT (R1 (o7 (q15 o6 (q13 f (q13 (cE (.ty "tuple")) q14))))) (orT (o8 (d7 neD (q15 W8 (q13 f q14)) (cE (.int n)))) u) O) G (!aA1 k d||y):=by
 subst hn
 have:(!aA1 k d||y)= (!Q7 d||(!aA1 k d||y)):=by cases d<;>rfl
 rw[this]
 refine aS0 (aB2 (R0 (bB3 (aS2 (e G) rfl) h))) λht G' j=>?_
 obtain⟨l,rfl⟩:=aI7 (by simpa using ht)
 refine aS0 (T6 λQ q=>w6<| aI3 (aP9 (e G'))<| aQ5.mpr<| d9 (a:=.int k) (G':=G') rfl<| dU9.mpr ?_) λhl G2 j2=>r (by simpa using hl) G2 (j.trans j2)
 have:decide ((l.length:Int)= (k:Int))=decide (l.length=k):=by
  by_cases h:l.length=k
  ·rw[decide_eq_true h,decide_eq_true (by lia)]
  ·rw[decide_eq_false h,decide_eq_false (by lia)]
 rw[this];exact q _ Ap.refl
theorem eV0{k:Nat}{n:Int}{d:D}{O:DSt}{G:DH}{f:Fe}(hn:n=k)(e:∀G,f O G=some (.ok d,G))(h:aH0 G d):EvT (orT (R1 (o7 (q15 o6 (q13 f (q13 (cE (.ty "tuple")) q14))))) (o8 (d7 neD (q15 W8 (q13 f q14)) (cE (.int n)))) O) G (!aA1 k d):=by
 subst hn
 have:(!aA1 k d)= (!Q7 d||!aA1 k d):=by cases d<;>rfl
 rw[this]
 refine aS0 (aB2 (R0 (bB3 (aS2 (e G) rfl) h))) λht G' j=>?_
 obtain⟨l,rfl⟩:=aI7 (by simpa using ht)
 refine T6 λQ q=>w6<| aI3 (aP9 (e G'))<| aQ5.mpr<| d9 (a:=.int k) (G':=G') rfl<| dU9.mpr ?_
 have:decide ((l.length:Int)= (k:Int))=decide (l.length=k):=by
  by_cases h:l.length=k
  ·rw[decide_eq_true h,decide_eq_true (by lia)]
  ·rw[decide_eq_false h,decide_eq_false (by lia)]
 rw[this];exact q _ Ap.refl
noncomputable def bT9(f:List D->D->Bool):List D->List D->Bool
 |_, []=>true
 |done,d::r=>f done d&&bT9 f (done++[d]) r
theorem bQ0{f:D->Bool}:∀ {done l:List D},bT9 (λ_=>f) done l=l.all f
 |_, []=>rfl
 |done,d::r=>by rw[bT9,zB,bQ0]
def LpK(G0:DH)(P:List D->DSt->DH->Prop)(b:Bool)(done:List D)(fl:Fl)(G:DH):Prop:=(b=false/\fl= .rt (.bl false)/\Ap G0 G)\/(b=true/\∃ O,fl= .nx O/\P done O G)
theorem cV2{g:Fg}{b:Fs}{G0:DH}(P:List D->DSt->DH->Prop)(f:List D->D->Bool):∀(W9 done:List D) (O:DSt) (G:DH),P done O G->
 (∀dn d,(∃r,dn++d::r=done++W9)->∀ O G,P dn O G->Wp (g d O) G λW1 G1=>Wp (b W1) G1 (LpK G0 P (f dn d) (dn++[d])))->
 Wp (aL0 g b (λ_=>true) W9 O) G (LpK G0 P (bT9 f done W9) (done++W9))
 |[],done,O,G,p,_=>aM4.mpr ⟨rfl,.inr ⟨rfl,O,rfl,by rw[yn];exact p⟩⟩
 |d::r,done,O,G,p,step=>by
   refine aM3.mpr ⟨rfl,(step done d ⟨r,rfl⟩ O G p).mono λW1 G1 w=>w.mono λfl G2 h=>?_⟩
   rcases h with⟨hb,rfl,a⟩|⟨hb,σ2,rfl,p2⟩
   ·exact .inl ⟨by rw[bT9,hb];rfl,rfl,a⟩
   · have w:=cV2 P f r (done++[d]) σ2 G2 p2 (by rw[zZ];exact step)
     rw[zZ]at w
     rw[bT9,hb,zT]
     exact w
theorem dS2(f:D->Bool)(l:List D):(l.filter λx=> !f x).isEmpty=l.all f:=by
 induction l with
 |nil=>rfl
 |cons a r ih=>by_cases ha:f a=true<;>simp[ha,ih]
theorem bD0{f:D->Bool}:∀ {l:List D},(l.any λx=> !f x)= !l.all f
 |[]=>rfl
 |d::r=>by rw[jq,zB,bD0];cases f d<;>rfl
theorem eS1{z:Str}{f:Fe}{caps:List (Option Nat)}{O:DSt}{G:DH}(hc:caps= [none])(e:f O G=some (.ok (.str z),G))(hz:z.length<=1000):Ev (d7 neD (Q0 (itW f) caps (q16 0) (o8 (d7 aW5 (c7 0) (cE (.str ("abcdefghijklmnopqrstuvwxyz" :Str))))) (c7 0)) (M6 q14) O) G (!Q9 z):=by
 subst hc
 have bg:=big
 rw[<-cH4,<-bD0]
 refine dH7 (items:=aG9 z) (ck:=λ_=>true) (λO=>∃u,O= [u]) (λx=> !dP5 x) (aA3<| wp_itW.mpr<| d9 e<| dW5.mpr ⟨rfl,rfl⟩) (λ_ _=>rfl) (by rw[cG4];lia) ⟨_,rfl⟩ λx hx O G1 s j=>?_
 obtain⟨u,rfl⟩:=s
 obtain⟨c,rfl⟩:=cF6 hx
 refine Q5.mpr ⟨rfl,⟨_,rfl⟩,T6 λQ q=>Z0 (x:=.str ⟨#[c]⟩) (y:=.str bS3) rfl rfl<| cQ6.mpr ⟨_,rfl,?_⟩,λ_=>rfl⟩
 rw[eE9]
 have:(!!!bG7 c)= (!dP5 (.str ⟨#[c]⟩)):=by rw[dE7];cases bG7 c<;>rfl
 rw[this]
 exact q _ Ap.refl
theorem eE4{a:Fe}{O:DSt}{G:DH}{Q:DPP}:Wp (cD1 a O) G Q↔Wp (a O) G λx G1=>Wp (cY1 x) G1 λk G2=>Q (.bl (!k)) G2:=by unfold cD1;simp only[m8,m6]
theorem eP2{b:Bool}{G:DH}{B:Bool->DH->Prop}:Wp (cY1 (.bl b)) G B↔B b G:=m6
noncomputable def fS4:List D->Bool
 |[]=>true
 |[_]=>true
 |[.bl a,.bl b]=> !a&&b
 |_=>false
theorem dW0:∀ {l:List D},l.all X7=true->aB8 blD l=fS4 l
 |[],_=>rfl
 |[a],_=>by cases a<;>rfl
 |[a,b],h=>by
   obtain⟨x,rfl⟩:=W3 (zn.mp h a (by simp))
   obtain⟨y,rfl⟩:=W3 (zn.mp h b (by simp))
   cases x<;>cases y<;>rfl
 |a::b::c::r,h=>by
   obtain⟨x,rfl⟩:=W3 (zn.mp h a (by simp))
   obtain⟨y,rfl⟩:=W3 (zn.mp h b (by simp))
   obtain⟨z,rfl⟩:=W3 (zn.mp h c (by simp))
   show (decide (b2i x<b2i y)&&(decide (b2i y<b2i z)&&aB8 blD (.bl z::r)))=false
   cases x<;>cases y<;>cases z<;>rfl
theorem bP7{d:D}{G:DH}(h:AT G.length d)(hz:szD d<=zh):Wp (M9 [d]) G λx G'=>x= .bl (U4 d)/\Ap G G':=by
 unfold M9 aI4
 have s0:([d].map some++jb (1 - [d].length) none:DSt)= [some d]:=rfl
 simp only[aK3,s0,m9,bX4,cY9,aX0,cL2,aD0,aR5,bD8,dR9,eE4,bO2,aA6,aA8,o9,bB5,aE1,aI8,J1,zN,exists_eq_left',zI,bA7 h.there,S9,wp_comp,wp_itW]
 cases d with
 |tup l=>
   rw[bG6]at h
   have hll:l.length<=zh:=by
    have:=aC0 l
    simp only[szD]at hz
    omega
   simp only[Q7,xl,jf,if_false,srcW_tup]
   refine⟨hll,?_⟩
   have hc:Q8 (q16 0) (R1 (o7 (q15 o6 (q13 (c7 0) (q13 (cE (.ty "bool")) q14))))) (c7 0) (λ_=>true) l (Z6 [none] [some (.tup l)]) G=some (.ok (l.filter λx=> !X7 x),G):=by
    refine bA0 rfl (λO=>O.length=1) _ _ rfl λx hx O WM=>?_
    match O,WM with
    |[u],_=>
      refine⟨[some x],rfl,rfl,aA3 ?_,rfl⟩
      simp only[aX0,aD0,aA6,aA8,o9,aE1,bB5,zI,zN,exists_eq_left',cI9 (h x hx).there,S9]
      exact⟨trivial,trivial⟩
   refine(aK2 hc).mpr ⟨sz,?_⟩
   rw[cX4 (R4 o5) o5,dS2]
   have ap:Ap G (G++[DO.lst (l.filter λx=> !X7 x)]++[DO.lst []]):=Ap.one.trans Ap.one
   generalize (G++[DO.lst (l.filter λx=> !X7 x)]++[DO.lst []])=G1 at ap ⊢
   refine⟨_,rfl,?_⟩
   by_cases ha:l.all X7=true
   · simp only[U4,ha,dW0 ha,xl,jf,if_false,zT,aQ5,bO3,S9]
     match l,ha with
     |[],_=>exact⟨rfl,ap⟩
     |[a],_=>exact⟨rfl,ap⟩
     |[a,b],ha=>
       obtain⟨x,rfl⟩:=W3 (zn.mp ha a (by simp))
       obtain⟨y,rfl⟩:=W3 (zn.mp ha b (by simp))
       simp only[zp,jk,show decide (((0+1+1:Nat):Int)<2)=false from rfl,jf,if_false,V0,S9,show decide (((0+1+1:Nat):Int)=2)=true from rfl,if_true,ix_tup,at0,at1,zN,exists_eq_left',eP2]
       cases x<;>cases y<;>exact⟨rfl,ap⟩
     |a::b::c::r,_=>
       have n1:¬(((a::b::c::r).length:Nat):Int)<2:=by simp only[zp];omega
       have n2:¬(((a::b::c::r).length:Nat):Int)=2:=by simp only[zp];omega
       simp only[n1,n2,decide_false,jf,if_false,V0,S9]
       exact⟨by cases a<;>first|rfl|(cases b<;>rfl),ap⟩
   · have ha':l.all X7=false:=by simpa using ha
     simp only[U4,ha',xF,if_true,jP]
     exact⟨trivial,ap⟩
 |_=>simp only[Q7,xF,if_true];exact⟨rfl,Ap.refl⟩
section
variable{t:DSt->M Bool}{g:Fs}{O:DSt}{G:DH}{x y:Bool}
theorem bQ5(h:EvT (t O) G x)(n:x=true->y=false)(k:x=false->∀G',Ap G G'->EvS g O G' y):EvS (j0 (ifS t (t8 (cE (.bl false))) u0) g) O G y:=by
 have:=eV5 h k
 have e:(!x&&y)=y:=by
  cases x
  ·rfl
  ·rw[n rfl];rfl
 rw[e]at this
 exact this
end
noncomputable def ixB(f:D->D->Bool)(l:List D):D->Bool
 | .int k=>match l[(k-1).toNat]?,l[k.toNat]? with
   |some a,some b=>f a b
   |_,_=>true
 |_=>true
theorem dA8{f:D->D->Bool}{l:List D}{i:Nat}{a b:D}(ha:l[i]? =some a)(hb:l[i+1]? =some b):ixB f l (.int (1+(i:Int)))=f a b:=by
 show (match l[(1+(i:Int)-1).toNat]?,l[(1+(i:Int)).toNat]? with
  |some a,some b=>f a b
  |_,_=>true)=_
 rw[show (1+(i:Int)-1).toNat=i from by lia,show (1+(i:Int)).toNat=i+1 from by lia,ha,hb]
theorem fJ6{f:D->D->Bool}{l:List D}:(K6 1 (l.length-1)).all (ixB f l)=aB8 f l:=by
 rw[yT]
 unfold aB8 aS3 K6
 rw[zn,zn]
 constructor
 · intro h d hd
   obtain⟨z,hz,rfl⟩:=zw.mp hd
   obtain⟨i,hi⟩:=yi.mp hz
   obtain⟨h1,h2⟩:=jU.mp hi
   rw[xD,JD]at h2
   have hl:i+1<l.length:=by
    rcases ZG (i+1) l.length with h|h
    ·exact h
    ·rw[jn h]at h2;cases h2
   have:=h (.int (1+(i:Int))) (zw.mpr ⟨i,yY.mpr (by lia),rfl⟩)
   rw[dA8 h1 h2]at this
   exact this
 · intro h d hd
   obtain⟨i,hi,rfl⟩:=zw.mp hd
   have hi:=yY.mp hi
   have h1:l[i]? =some (l[i]'(by lia)):=zD (by lia)
   have h2:l[i+1]? =some (l[i+1]'(by lia)):=zD (by lia)
   rw[dA8 h1 h2]
   exact h (.tup [l[i]'(by lia),l[i+1]'(by lia)]) (zw.mpr ⟨(l[i]'(by lia),l[i+1]'(by lia)),yi.mpr ⟨i,jU.mpr ⟨h1,by rw[xD,JD];exact h2⟩⟩,rfl⟩)
theorem eP7{p:Nat}{l:List D}{G:DH}{Q:DPP}(e:G[p]? =some (.lst l)):Wp (W8 [.ref p]) G Q↔Q (.int (l.length:Int)) G:=by
 unfold W8
 simp only[m8,U7,e,R9,m6]
theorem gC6{fs:DSt->M (List D)}{O:DSt}{G:DH}{R:Src->DH->Prop}:Wp (bG5 fs O) G R↔Wp (fs O) G λxs G1=>Wp (match xs with
 |[.int i,.int j]=>if -(2 ^ 62)<=i/\i<2 ^ 62/\ -(2 ^ 62)<=j/\j<2 ^ 62 then pure ⟨K6 i (j-i).toNat,λ_=>true⟩else M.stuck
 |_=>M.stuck:M Src) G1 R:=by
 unfold bG5;simp only[m8]<;>rfl
theorem eS2{p:Nat}{l:List D}{O:DSt}{G:DH}{f:Fe}(e:f O G=some (.ok (.ref p),G))(h:G[p]? =some (.lst l))(hl:l.length<=3000000):bG5 (q13 (cE (.int 1)) (q13 (q15 W8 (q13 f q14)) q14)) O G=some (.ok ⟨K6 1 (l.length-1),λ_=>true⟩,G):=by
 have e1:q15 W8 (q13 f q14) O G=some (.ok (.int l.length),G):=aA3<| aI3 (aP9 e)<| (eP7 h).mpr ⟨rfl,rfl⟩
 have e2:=aS2 (f:=cE (.int 1)) (a:=.int 1) (G:=G) (O:=O) rfl e1
 have hr:K6 1 (l.length-1)=K6 1 ((l.length:Int)-1).toNat:=by rw[show ((l.length:Int)-1).toNat=l.length-1 from by lia]
 rw[hr]
 refine aA3<| gC6.mpr<| d9 e2 ?_
 have c: -(2 ^ 62)<=(1:Int)/\(1:Int)<2 ^ 62/\ -(2 ^ 62)<=(l.length:Int)/\(l.length:Int)<2 ^ 62:=by lia
 simp only[c,and_self,if_true,m6]
noncomputable def obB:D->Bool
 | .str w=>(wOf==w)||(aR9==w)
 |_=>false
theorem gE1{a:D}{f:Fe}{O:DSt}{G:DH}(e:∀G,f O G=some (.ok a,G))(h:aH0 G a):EvT (orT (R1 (o7 (q15 o6 (q13 f (q13 (cE (.ty "str")) q14))))) (o8 (d7 aW5 f (M6 (q13 (cE (.str ("of" :Str))) (q13 (cE (.str ("but" :Str))) q14))))) O) G (!obB a):=by
 have:(!obB a)= (!aF6 a||!obB a):=by cases a<;>rfl
 rw[this]
 refine aS0 (aB2 (R0 (cD8 (aS2 (e G) rfl) h))) λhs G1 j=>T6 λQ q=>?_
 obtain⟨w,rfl⟩:=bH3 (by simpa using hs)
 have ein:inB (.str w) (.ref G1.length) (G1++[.lst [.str wOf,.str aR9]])=some ((wOf==w)||(aR9==w)):=by
  unfold inB
  simp only[o5]
  show some (inV (.str w) [.str wOf,.str aR9])=_
  simp[inV,eqV]
 exact Z0 (x:=.str w) (y:=.ref G1.length) (G1:=G1) (G2:=G1++[.lst [.str wOf,.str aR9]]) (e G1) rfl<| cQ6.mpr ⟨_,ein,q _ Ap.one⟩
theorem fH6{a:D}{l:List D}:obB a= (aL5 wOf (.tup [a,.tup l])||aL5 aR9 (.tup [a,.tup l])):=by
 rcases a with _|_|_|w|_|_|_|_<;>try rfl
 have e1:aL5 wOf (.tup [.str w,.tup l])= (wOf==w):=by simp only[aL5];exact BEq.comm
 have e2:aL5 aR9 (.tup [.str w,.tup l])= (aR9==w):=by simp only[aL5];exact BEq.comm
 rw[e1,e2];rfl
theorem fQ2{a b:Str}:dO0 (a.length:Int) a (b.length:Int) b= !txB a b:=by
 unfold dO0 txB
 by_cases h:a.length=b.length
 · rw[if_pos (by lia),if_pos h]
   by_cases e:a=b
   · subst e
     rw[if_pos rfl,decide_eq_false (Yr _)];rfl
   ·rw[if_neg e]
 · rw[if_neg (by lia),if_neg h]
   by_cases c:a.length<b.length
   ·rw[decide_eq_true c,decide_eq_false (by lia)];rfl
   ·rw[decide_eq_false c,decide_eq_true (by lia)];rfl
theorem gB0{d x:D}{p:Nat}{dn:List D}{u:Option D}{G0 G:DH}(hx:AT G.length x)(hp:G0.length<=p)(hl:dn.length<=1000000)(e:G[p]? =some (.lst (dn.map aV8)))(a:Ap G0 G):Wp (TK [some d,some (.ref p),some x]) G (LpK G0 (λdn O G=>∃u,O= [some d,some (.ref p),u]/\G[p]? =some (.lst (dn.map aV8))/\Ap G0 G) (aE0 x) (dn++[x])):=by
 have bg:2000000<=zh:=by decide
 have:(!aE0 x)= (!aF6 x||!aE0 x):=by cases x<;>rfl
 refine bZ1 (x:= !aE0 x) ?_ (λh G1 j=>.inl ⟨by simpa using h,rfl,a.trans j⟩) λh G1 j=>?_
 · rw[this]
   refine aS0 (aB2 (R0 (cD8 rfl hx.there))) λhs G1 j=>T6 ?_
   obtain⟨z,rfl⟩:=bH3 (by simpa using hs)
   exact eS1 rfl rfl (aW7 hx)
 · have h:aE0 x=true:=by simpa using h
   obtain⟨z,rfl⟩:=aF1 h
   have hz:=aW7 hx
   have e1:=j.at e
   refine aM6.mpr<| aT5.mpr<| d9 (a:=.ref p) rfl<| (T3 e1).mpr<| d9 (a:= [aV8 (.str z)]) (G':=G1) (aA3<| v8<| aB7.mpr<| v8<| aI3 (as:= [.str z]) (G1:=G1) rfl<| (bH8 (by lia)).mpr<| d9 (a:= [.str z]) (G':=G1) rfl ⟨sz,o9.mpr ⟨rfl,rfl⟩⟩)<| (aP7 e1 (by rw[zo];lia)).mpr ?_
   refine .inr ⟨h,_,rfl,_,rfl,?_,(a.trans j).set hp⟩
   rw[zF (lt_of_get e1),jo];rfl
theorem gB1{d:D}{p:Nat}{l:List D}{u:Option D}{G:DH}(ht:l.all aE0=true)(hl:l.length<=1000000)(e:G[p]? =some (.lst (l.map aV8))):EvS TZ [some d,some (.ref p),u] G (aB8 txD l):=by
 have bg:2000000<=zh:=by decide
 have hr:aB8 txD l= !(K6 1 ((l.map aV8).length-1)).any λx=> !ixB txD l x:=by
  rw[bD0,xz,zo,fJ6]
 rw[hr]
 refine aQ7<| eU3 (items:=K6 1 ((l.map aV8).length-1)) (ck:=λ_=>true) (λO=>∃u,O= [u,some (.ref p)]) (λx=> !ixB txD l x) (eS2 rfl e (by rw[zo];lia)) (λ_ _=>rfl) ?_ ⟨_,rfl⟩ λx hx O G1 s j=>?_
 ·unfold K6;rw[zo,zo,jy];lia
 · obtain⟨v,rfl⟩:=s
   unfold K6 at hx
   obtain⟨i,hi,rfl⟩:=zw.mp hx
   have hi:=yY.mp hi
   rw[zo]at hi
   have h1:l[i]? =some (l[i]'(by lia)):=zD (by lia)
   have h2:l[i+1]? =some (l[i+1]'(by lia)):=zD (by lia)
   obtain⟨z1,e1⟩:=aF1 (zn.mp ht _ (yi.mpr ⟨_,h1⟩))
   obtain⟨z2,e2⟩:=aF1 (zn.mp ht _ (yi.mpr ⟨_,h2⟩))
   rw[e1]at h1
   rw[e2]at h2
   refine Q5.mpr ⟨rfl,⟨_,rfl⟩,?_,λ_=>rfl⟩
   rw[dA8 h1 h2]
   have g1:atI (l.map aV8) (1+(i:Int)-1)=some (aV8 (.str z1)):=by
    rw[show (1+(i:Int)-1)= ((i:Nat):Int)from by lia]
    exact atI_nat (by rw[jl,h1];rfl)
   have g2:atI (l.map aV8) (1+(i:Int))=some (aV8 (.str z2)):=by
    rw[show (1+(i:Int))= ((i+1:Nat):Int)from by lia]
    exact atI_nat (by rw[jl,h2];rfl)
   refine T6 λQ q=>w6<| Z0 (x:=.ref p) (y:=.int (1+(i:Int)-1)) (G1:=G1) (G2:=G1) rfl rfl<| (aL3 (j.at e)).mpr ⟨_,g1,Z0 (x:=.ref p) (y:=.int (1+(i:Int))) (G1:=G1) (G2:=G1) rfl rfl<| (aL3 (j.at e)).mpr ⟨_,g2,?_⟩⟩
   show Wp (pure (.bl (dO0 (z1.length:Int) z1 (z2.length:Int) z2))) G1 Q
   rw[fQ2]
   exact m6.mpr (q G1 Ap.refl)
theorem cQ3{d:D}{G:DH}(h:AT G.length d)(hz:szD d<=1000000):Ev (R5 [d]) G (U3 d):=bA3<| by
 unfold aL4
 refine bQ5 (cS0 (k:=2) (y:= !Q7 (cI3 d)) rfl (λ_=>rfl) h.there λhl G1 j1=>?_) (λhx=>jr.mpr λht=>?_) λhx G1 j1=>?_
 · obtain⟨l,rfl,hk⟩:=aB9 hl
   obtain⟨a,b,rfl⟩:=aS4 hk
   exact aB2 (R0 (bB3 (aS2 (ix0 rfl rfl) rfl) (aH2 (aJ9 h (zf _ (zc ..))) j1)))
 · unfold U3 at ht
   rw[zg]at ht
   obtain⟨w,l,rfl,_⟩:=cM8 ht.1
   cases hx
 · rw[zU,zY,zY]at hx
   obtain⟨l,rfl,hk⟩:=aB9 hx.1
   obtain⟨a,b,rfl⟩:=aS4 hk
   obtain⟨l,rfl⟩:=aI7 (show Q7 b=true from hx.2)
   have ha:=aJ9 h (zc ..)
   have hb:AT G.length (.tup l):=aJ9 h (zf _ (zc ..))
   have hll:l.length<=1000000:=by
    have:=aC0 l
    simp only[szD,szL]at hz
    lia
   have et:U3 (.tup [a,.tup l])= (obB a&&(l.all aE0&&aB8 txD l)):=by rw[fH6 (l:=l)];rfl
   rw[et]
   refine bQ5 (gE1 (λ_=>ix0 rfl rfl) (aH2 ha j1)) (λhx=>by rw[show obB a=false by simpa using hx];rfl) λhx G2 j2=>?_
   rw[show obB a=true by simpa using hx,zT]
   intro Q q
   refine K9 (X1:= [some (.tup [a,.tup l]),some (.ref G2.length),none]) (G':=G2++[.lst []]) rfl<| m9.mpr<| aL7.mpr<| d9 (bL5 (ix0 rfl rfl))<| (cV2 (G0:=G2) (λdn O G=>∃u,O= [some (.tup [a,.tup l]),some (.ref G2.length),u]/\G[G2.length]? =some (.lst (dn.map aV8))/\Ap G2 G) (λ_=>aE0) l [] _ _ ⟨none,rfl,o5,Ap.one⟩ λdn x ⟨r,hr⟩ O G3 hP=>?_).mono ?_
   · obtain⟨u,rfl,e3,a3⟩:=hP
     have hm:x∈l:=by rw[jJ]at hr;rw[<-hr];simp
     have hn:dn.length<=l.length:=by rw[jJ]at hr;rw[<-hr];simp
     exact Q5.mpr<| gB0 (u:=u) ((aJ9 hb hm).le (j1.trans (j2.trans a3)).len) (zd _) (by lia) e3 a3
   · rintro fl G3 (⟨hb,rfl,a3⟩|⟨hb,O,rfl,u,rfl,e3,a3⟩)
     · rw[bQ0]at hb
       rw[hb,jP]at q
       exact R6 (q G3 a3)
     · rw[bQ0]at hb
       rw[hb,zT]at q
       rw[jJ]at e3
       exact(gB1 hb hll e3) _ λG4 a4=>q G4 (a3.trans a4)
noncomputable def fM1:D->List D
 | .tup [a,b]=> [a,b]
 |_=> []
def fl2(l:List D):List D:=l.flatMap fM1
noncomputable def bJ1(k:Int):D->D->Bool
 | .int x,.int y=>decide (y-x<if k % 2=0 then 2 else 0)
 |_,_=>false
def okE(E:List D):D->Bool
 | .int k=>match E[(k-1).toNat]?,E[k.toNat]? with
   |some a,some b=> !bJ1 k a b
   |_,_=>true
 |_=>true
theorem dT6{E:List D}{i:Nat}{a b:D}(ha:E[i]? =some a)(hb:E[i+1]? =some b):okE E (.int (1+(i:Int)))= !bJ1 (1+(i:Int)) a b:=by
 show (match E[(1+(i:Int)-1).toNat]?,E[(1+(i:Int)).toNat]? with
  |some a,some b=> !bJ1 (1+(i:Int)) a b
  |_,_=>true)=_
 rw[show (1+(i:Int)-1).toNat=i from by lia,show (1+(i:Int)).toNat=i+1 from by lia,ha,hb]
noncomputable def dY1:D->D->Bool
 | .int y,.int z=>decide (y+1<z)
 |_,_=>false
def nuR:List (D×D)->Bool
 |[]=>true
 |[(a,b)]=> !bK3 a b
 |(a,b)::(c,e)::r=> !bK3 a b&&(dY1 b c&&nuR ((c,e)::r))
theorem fE3{a b c e:D}:bO6 (.tup [a,b]) (.tup [c,e])=dY1 b c:=by cases b<;>cases c<;>rfl
theorem eV2:∀ {ns:List (D×D)},(∀p∈ns,aE7 p.1=true/\aE7 p.2=true)->bA4 (.tup (ns.map stD))=nuR ns
 |[],_=>rfl
 |[(a,b)],h=>by
   have h1:=h (a,b) (zc ..)
   show (((aE7 a&&(aE7 b&&!bK3 a b))&&true)&&true)=_
   rw[h1.1,h1.2,nuR];cases bK3 a b<;>rfl
 |(a,b)::(c,e)::r,h=>by
  have h1:=h (a,b) (zc ..)
  have ih:=eV2 (ns:=(c,e)::r) λp hp=>h p (zf _ hp)
  rw[nuR,<-ih]
  show (((aE7 a&&(aE7 b&&!bK3 a b))&&(((c,e)::r).map stD).all aO8)&&(bO6 (.tup [a,b]) (.tup [c,e])&&aB8 bO6 (((c,e)::r).map stD)))= (!bK3 a b&&(dY1 b c&&((((c,e)::r).map stD).all aO8&&aB8 bO6 (((c,e)::r).map stD))))
  rw[h1.1,h1.2,fE3]
  cases bK3 a b<;>cases dY1 b c<;>cases (((c,e)::r).map stD).all aO8<;>rfl
noncomputable def enL(ns:List (D×D)):List D:=ns.flatMap λp=> [p.1,p.2]
theorem dR1:∀ {ns:List (D×D)},fl2 (ns.map stD)=enL ns
 |[]=>rfl
 |(a,b)::r=>by
  have ih:=dR1 (ns:=r)
  unfold fl2 enL at ih ⊢
  rw[zS,ZC,ZC,ih];rfl
def chE:Int->List D->Bool
 |k,a::b::r=> !bJ1 k a b&&chE (k+1) (b::r)
 |_,_=>true
theorem dV0:∀ {l:List D} {k j:Int},k % 2=j % 2->chE k l=chE j l
 |[],_,_,_=>rfl
 |[_],_,_,_=>rfl
 |a::b::r,k,j,h=>by
   rw[chE,chE,dV0 (l:=b::r) (k:=k+1) (j:=j+1) (by lia)]
   have:bJ1 k a b=bJ1 j a b:=by
    rcases a with _|_|_|_|_|_|_|_<;>try rfl
    rcases b with _|_|_|_|_|_|_|_<;>try rfl
    show decide (_<if k % 2=0 then (2:Int)else 0)=decide (_<if j % 2=0 then (2:Int)else 0)
    rw[h]
   rw[this]
theorem eV3{E:List D}:∀ {r:List D} {a:D} {j:Nat},E.drop j=a::r->((List.range' j r.length).map fun(i:Nat)=>D.int (1+(i:Int))).all (okE E)=chE (1+(j:Int)) (a::r)
 |[],a,j,_=>rfl
 |b::r,a,j,h=>by
   have h2:E.drop (j+1)=b::r:=by rw[<-List.drop_drop,h];rfl
   have e1:E[j]? =some a:=by
    have:(E.drop j)[0]? =some a:=by rw[h];rfl
    rw[xD]at this;exact this
   have e2:E[j+1]? =some b:=by
    have:(E.drop (j+1))[0]? =some b:=by rw[h2];rfl
    rw[xD]at this;exact this
   rw[zp,List.range'_succ,zS,zB,dT6 e1 e2,eV3 h2,chE]
   congr 2
theorem fD8{E:List D}:(K6 1 (E.length-1)).all (okE E)=chE 1 E:=by
 rcases E with _|⟨a,r⟩
 ·rfl
 · unfold K6
   rw[List.range_eq_range',zp,Nat.add_sub_cancel]
   exact eV3 (E:=a::r) (j:=0) rfl
theorem eT7:∀ {ns:List (D×D)},(∀p∈ns,aE7 p.1=true/\aE7 p.2=true)->nuR ns= (!(((enL ns).drop 1).dropLast).any U0&&chE 1 (enL ns))
 |[],_=>rfl
 |[(a,b)],h=>by
   have h1:=h (a,b) (zc ..)
   show (!bK3 a b)= (!false&&(!bJ1 1 a b&&true))
   rcases aC4 h1.1 with rfl|⟨i,rfl⟩<;>rcases aC4 h1.2 with rfl|⟨j,rfl⟩<;>try rfl
   show (!decide (i>j))= (!false&&(!decide (j-i<0)&&true))
   by_cases c:i>j
   ·rw[decide_eq_true c,decide_eq_true (by lia)];rfl
   ·rw[decide_eq_false c,decide_eq_false (by lia)];rfl
 |(a,b)::(c,e)::r,h=>by
  have h1:=h (a,b) (zc ..)
  have h2:=h (c,e) (zf _ (zc ..))
  have ih:=eT7 (ns:=(c,e)::r) λp hp=>h p (zf _ hp)
  rw[nuR,ih]
  have m:(((enL ((a,b)::(c,e)::r)).drop 1).dropLast)=b::c::((enL ((c,e)::r)).drop 1).dropLast:=rfl
  rw[m,jq,jq]
  have k:chE 1 (enL ((a,b)::(c,e)::r))= (!bJ1 1 a b&&(!bJ1 2 b c&&chE 3 (enL ((c,e)::r)))):=rfl
  rw[k,dV0 (k:=3) (j:=1) rfl]
  generalize ((enL ((c,e)::r)).drop 1).dropLast.any U0=u
  generalize chE 1 (enL ((c,e)::r))=v
  have g1:bJ1 1 a b=bK3 a b:=by
   rcases aC4 h1.1 with rfl|⟨i,rfl⟩<;>rcases aC4 h1.2 with rfl|⟨j,rfl⟩<;>try rfl
   show decide (j-i<0)=decide (i>j)
   by_cases c:i>j
   ·rw[decide_eq_true c,decide_eq_true (by lia)]
   ·rw[decide_eq_false c,decide_eq_false (by lia)]
  have g2:dY1 b c= (!U0 b&&(!U0 c&&!bJ1 2 b c)):=by
   rcases aC4 h1.2 with rfl|⟨i,rfl⟩<;>rcases aC4 h2.1 with rfl|⟨j,rfl⟩<;>try rfl
   show decide (i+1<j)= (true&&(true&&!decide (j-i<2)))
   by_cases c:i+1<j
   ·rw[decide_eq_true c,decide_eq_false (by lia)];rfl
   ·rw[decide_eq_false c,decide_eq_true (by lia)];rfl
  rw[g1,g2]
  cases bK3 a b<;>cases U0 b<;>cases U0 c<;>cases bJ1 2 b c<;>cases u<;>rfl
theorem fI3(n d:Nat):HT.sIx n d (some (-1))=n-1:=by
 simp only[HT.sIx]
 lia
theorem eE1(l:List D):DL.cutD l (some 1) (some (-1))= (l.drop 1).dropLast:=by
 unfold DL.cutD
 rw[fI3,show (some (1:Int))=some ((1:Nat):Int)from rfl,HT.sIx_nat,Zc,yf]
 rcases l with _|⟨a,r⟩
 ·rfl
 ·rw[zp,Zb (by lia)]
theorem dB4{d:D}{O:DSt}{G:DH}{a:Fe}(e:a O G=some (.ok d,G)):Ev (d7 aC1 a (cE .non) O) G (!U0 d):=λQ q=>w6<| d9 e<| d9 (a:=.non) (G':=G) rfl<| dS0.mpr (q G Ap.refl)
theorem fV1:aH3=j0 (ifS NG1 (t8 (cE (.bl false))) u0) (j0 (K3 (M6 q14) (q16 1)) (j0 NL1 (j0 (ifS NG2 (t8 (cE (.bl false))) u0) (j0 (ifS NG3 (t8 (cE (.bl false))) u0) (j0 NL2 (t8 (cE (.bl true)))))))):=rfl
theorem eL8{x:D}(h:aO8 x=true):aA1 2 x=true:=by
 obtain⟨a,b,rfl,_⟩:=bC7 h
 rfl
theorem cK5:∀l:List D,(fl2 l).length<=2*l.length
 |[]=>zd _
 |d::r=>by
   have ih:=cK5 r
   unfold fl2 at ih ⊢
   rw[ZC,zx,zp]
   have:(fM1 d).length<=2:=by unfold fM1;split<;>simp
   lia
theorem fD1{l:List D}(h:l.all (aA1 2)=true):∃ns:List (D×D),l=ns.map stD:=aM9 (f:=stD) (λd hd=>by
 obtain⟨l,rfl,hl⟩:=aB9 hd
 obtain⟨a,b,rfl⟩:=aS4 hl
 exact⟨(a,b),rfl⟩) h
theorem dG4:∀ {l:List D},l.all aE7=true->L2.inV .non (l.map toV)=l.any U0
 |[],_=>rfl
 |d::r,h=>by
   rw[zB,zg]at h
   have ih:=dG4 h.2
   unfold L2.inV at ih ⊢
   rw[zS,jq,jq,ih]
   rcases aC4 h.1 with rfl|⟨i,rfl⟩<;>rfl
theorem cG9:∀ {l:List D},l.all aE7=true->l.all bA6=true
 |[],_=>rfl
 |d::r,h=>by
   rw[zB,zg]at h
   rw[zB,cG9 h.2,jF]
   rcases aC4 h.1 with rfl|⟨i,rfl⟩<;>rfl
theorem fX8{d:D}{p:Nat}{E:List D}{lo hi:Option D}{i:Nat}{G:DH}(hE:E.all aE7=true)(e:G[p]? =some (.lst E))(hi':i+1<E.length):EvT (NG4 [some d,some (.ref p),lo,hi,some (.int (1+(i:Int)))]) G (!okE E (.int (1+(i:Int)))):=by
 have h1:E[i]? =some (E[i]'(by lia)):=zD (by lia)
 have h2:E[i+1]? =some (E[i+1]'(by lia)):=zD (by lia)
 have n1:=zn.mp hE _ (yi.mpr ⟨_,h1⟩)
 have n2:=zn.mp hE _ (yi.mpr ⟨_,h2⟩)
 rw[dT6 h1 h2,xz]
 generalize E[i]'(by lia)=a at *
 generalize E[i+1]'(by lia)=b at *
 have g1:atI E (1+(i:Int)-1)=some a:=by
  rw[show (1+(i:Int)-1)= ((i:Nat):Int)from by lia]
  exact atI_nat h1
 have g2:atI E (1+(i:Int))=some b:=by
  rw[show (1+(i:Int))= ((i+1:Nat):Int)from by lia]
  exact atI_nat h2
 have f1:∀G',Ap G G'->(d7 ixD (c7 1) (d7 bB6 (c7 4) (cE (.int 1)))) [some d,some (.ref p),lo,hi,some (.int (1+(i:Int)))] G'=some (.ok a,G'):=λG' j=>aA3<| Z0 (x:=.ref p) (y:=.int (1+(i:Int)-1)) (G1:=G') (G2:=G') rfl rfl<| (aL3 (j.at e)).mpr ⟨_,g1,rfl,rfl⟩
 have f2:∀G',Ap G G'->(d7 ixD (c7 1) (c7 4)) [some d,some (.ref p),lo,hi,some (.int (1+(i:Int)))] G'=some (.ok b,G'):=λG' j=>aA3<| Z0 (x:=.ref p) (y:=.int (1+(i:Int))) (G1:=G') (G2:=G') rfl rfl<| (aL3 (j.at e)).mpr ⟨_,g2,rfl,rfl⟩
 have eg:bJ1 (1+(i:Int)) a b= (!U0 a&&(!U0 b&&bJ1 (1+(i:Int)) a b)):=by
  rcases aC4 n1 with rfl|⟨x,rfl⟩<;>rcases aC4 n2 with rfl|⟨y,rfl⟩<;>rfl
 rw[eg]
 refine aM0 (T6 (dB4 (f1 G Ap.refl))) λha G1 j1=>aM0 (T6 (dB4 (f2 G1 j1))) λhb G2 j2=>T6 λQ q=>?_
 rcases aC4 n1 with rfl|⟨x,rfl⟩
 ·cases ha
 rcases aC4 n2 with rfl|⟨y,rfl⟩
 ·cases hb
 refine w6<| Z0 (f2 G2 (j1.trans j2)) (f1 G2 (j1.trans j2))<| cK4.mpr<| w6<| d9 (a:=.ref G2.length) (G':=G2++[.lst [.int 2,.int 0]]) rfl<| w6<| d9 (a:=.int (1+(i:Int))) rfl<| d9 (a:=.int 2) rfl<| (aR2 (by decide)).mpr<| (aL3 o5).mpr ?_
 have em:atI [D.int 2,D.int 0] ((1+(i:Int)) % 2)=some (.int (if (1+(i:Int)) % 2=0 then 2 else 0)):=by
  rcases (show (1+(i:Int)) % 2=0\/(1+(i:Int)) % 2=1 by lia)with h|h<;>rw[h]<;>rfl
 exact⟨_,em,bO3.mpr (q _ Ap.one)⟩
theorem cC1{d:D}{G:DH}(h:AT G.length d)(hz:szD d<=1000000):Ev (N7 [d]) G (bA4 d):=bA3<| by
 rw[fV1]
 have bg:3000000<=zh:=by decide
 refine bQ5 (x:= !Q7 d||!(match d with| .tup l=>l.all (aA1 2)|_=>false)) ?_ ?_ ?_
 · refine aS0 (aB2 (R0 (bB3 rfl h.there))) λht G1 j1=>T6 ?_
   obtain⟨l,rfl⟩:=aI7 (by simpa using ht)
   have hl:l.length<=zh:=by
    have:=aC0 l
    simp only[szD]at hz
    lia
   show Ev _ _ (!l.all (aA1 2))
   rw[<-bD0]
   refine dH7 (items:=l) (ck:=λ_=>true) (λO=>∃u,O= [u]) (λx=> !aA1 2 x) (bL5 rfl) (λ_ _=>rfl) hl ⟨_,rfl⟩ λx hx O G2 s j=>?_
   obtain⟨u,rfl⟩:=s
   exact Q5.mpr ⟨rfl,⟨_,rfl⟩,eV0 (k:=2) rfl (λ_=>rfl) (aH2 (aJ9 h hx) (j1.trans j)),λ_=>rfl⟩
 · intro hx
   refine jr.mpr λht=>?_
   rcases d with _|_|_|_|l|_|_|_<;>try (cases ht;done)
   have ht:(l.all aO8&&aB8 bO6 l)=true:=ht
   rw[zg]at ht
   have:l.all (aA1 2)=true:=zn.mpr λx hx=>eL8 (zn.mp ht.1 x hx)
   have hx:(!true||!l.all (aA1 2))=true:=hx
   rw[this]at hx
   cases hx
 intro hx G1 j1
 rw[zU,zY,zY]at hx
 obtain⟨l,rfl⟩:=aI7 hx.1
 have hx:=hx.2
 obtain⟨ns,rfl⟩:=fD1 hx
 have hl:(ns.map stD).length<=1000000:=by
  have:=aC0 (ns.map stD)
  simp only[szD]at hz
  lia
 intro Q q
 refine K9 (X1:= [some (.tup (ns.map stD)),some (.ref G1.length),none,none,none]) (G':=G1++[.lst []]) rfl ?_
 refine m9.mpr<| aL7.mpr<| d9 (bL5 (l:=ns.map stD) rfl)<| (cV2 (G0:=G1) (λdn O G=>∃p lo hi,O= [some (.tup (ns.map stD)),some (.ref p),lo,hi,none]/\G[p]? =some (.lst (fl2 dn))/\Ap G1 G) (λ_ _=>true) (ns.map stD) [] _ _ ⟨_,none,none,rfl,o5,Ap.one⟩ λdn x ⟨r,hr⟩ O G3 hP=>?_).mono ?_
 · obtain⟨p,lo,hi,rfl,e3,a3⟩:=hP
   have hm:x∈ns.map stD:=by rw[jJ]at hr;rw[<-hr];simp
   have hn:dn.length<=(ns.map stD).length:=by rw[jJ]at hr;rw[<-hr];simp
   obtain⟨⟨a,b⟩,_,rfl⟩:=zw.mp hm
   have hf:=cK5 dn
   refine d9 (a:= [some (.tup (ns.map stD)),some (.ref p),some a,some b,none]) (G':=G3) rfl ?_
   refine S7<| w6<| d9 (a:=.ref p) rfl<| d9 (a:=.ref G3.length) (G':=G3++[.lst [a,b]]) rfl<| (bI8 (R4 e3) o5 (by rw[zp,zp,jk];lia)).mpr ?_
   refine .inr ⟨rfl,_,rfl,_,_,_,rfl,?_,a3.trans (Ap.one.trans Ap.one)⟩
   rw[o5]
   unfold fl2
   rw[List.flatMap_append];rfl
 rintro fl G3 (⟨hb,_⟩|⟨hb,O,rfl,p,lo,hi,rfl,e3,a3⟩)
 · rw[bQ0]at hb
   have:(ns.map stD).all (λ_=>true)=true:=by simp
   rw[this]at hb;cases hb
 rw[jJ,dR1]at e3
 have hE:(enL ns).length<=2000000:=by
  have:=cK5 (ns.map stD)
  rw[dR1]at this;lia
 have en_at:∀x∈enL ns,AT G.length x:=λx hx=>by
  obtain⟨pq,hp,hx⟩:=xR.mp hx
  have h2:AT G.length (.tup [pq.1,pq.2]):=aJ9 h (zw.mpr ⟨pq,hp,rfl⟩)
  exact aJ9 h2 hx
 have ends_of:(enL ns).all aE7=true↔∀p∈ns,aE7 p.1=true/\aE7 p.2=true:=by
  rw[zn]
  constructor
  ·exact λk p hp=>⟨k _ (xR.mpr ⟨p,hp,zc ..⟩),k _ (xR.mpr ⟨p,hp,zf _ (zc ..)⟩)⟩
  · intro k x hx
    obtain⟨p,hp,hx⟩:=xR.mp hx
    rcases zi.mp hx with rfl|hx
    ·exact(k p hp).1
    ·rw[zq.mp hx];exact(k p hp).2
 have w:EvS (j0 (ifS NG2 (t8 (cE (.bl false))) u0) (j0 (ifS NG3 (t8 (cE (.bl false))) u0) (j0 NL2 (t8 (cE (.bl true)))))) [some (.tup (ns.map stD)),some (.ref p),lo,hi,none] G3 (bA4 (.tup (ns.map stD))):=by
  refine bQ5 (x:= !(enL ns).all aE7) ?_ ?_ ?_
  · rw[<-bD0]
    refine T6<| dH7 (items:=enL ns) (ck:=ckO p (.lst (enL ns))) (λO=>∃u,O= [u]) (λx=> !aE7 x) (aA3<| wp_itW.mpr<| d9 (a:=.ref p) rfl<| (bM8 e3).mpr ⟨rfl,rfl⟩) (λG' a=>dM7 (a.at e3)) (by lia) ⟨_,rfl⟩ λx hx O G4 s j=>?_
    obtain⟨u,rfl⟩:=s
    have ax:=en_at x hx
    refine Q5.mpr ⟨rfl,⟨_,rfl⟩,?_,λ_=>rfl⟩
    have:(!aE7 x)= (!U0 x&&(!bX7 x||X7 x)):=by cases x<;>rfl
    rw[this]
    have j':=j1.trans (a3.trans j)
    exact aM0 (T6 (dB4 rfl)) λ_ G5 j5=>aS0 (aB2 (R0 (eU7 rfl (aH2 ax (j'.trans j5))))) λ_ G6 j6=>R0 (cI2 rfl (aH2 ax (j'.trans (j5.trans j6))))
  · intro hb
    refine jr.mpr λht=>?_
    have ht:((ns.map stD).all aO8&&aB8 bO6 (ns.map stD))=true:=ht
    rw[zg]at ht
    have:=ends_of.mpr λp hp=>by
     obtain⟨a,b,e,ha,hb⟩:=bC7 (zn.mp ht.1 _ (zw.mpr ⟨p,hp,rfl⟩))
     unfold stD at e
     injection e with e;injection e with e1 e;injection e with e2 _
     rw[<-e1]at ha;rw[<-e2]at hb
     exact⟨ha,hb⟩
    rw[this]at hb;cases hb
  intro hb G4 j4
  have hb:(enL ns).all aE7=true:=by simpa using hb
  have e4:=j4.at e3
  rw[eV2 (ends_of.mp hb),eT7 (ends_of.mp hb)]
  refine eV5 ?_ λ_ G5 j5=>?_
  · refine T6 λQ q=>w6<| d9 (a:=.non) (G':=G4) rfl<| aD5.mpr<| d9 (a:=.ref p) (G':=G4) rfl<| d9 (a:=some 1) (G':=G4) rfl<| d9 (a:=some (-1)) (G':=G4) rfl<| (cM7 e4).mpr<| fU7.mpr ⟨((enL ns).drop 1).dropLast.any U0,?_,q _ Ap.one⟩
    rw[eE1]
    have hm:(((enL ns).drop 1).dropLast).all aE7=true:=zn.mpr λx hx=>zn.mp hb x (jY ((List.dropLast_sublist _).subset hx))
    unfold inB
    simp only[o5,cG9 hm]
    show some (L2.inV .non _)=_
    rw[dG4 hm]
  · have e5:=j5.at e4
    rw[<-fD8]
    intro Q q
    refine m9.mpr<| aL7.mpr<| d9 (eS2 rfl e5 (by lia))<| (cV2 (G0:=G5) (λdn O G=>∃k,O= [some (.tup (ns.map stD)),some (.ref p),lo,hi,k]/\Ap G5 G) (λ_=>okE (enL ns)) (K6 1 ((enL ns).length-1)) [] _ _ ⟨none,rfl,Ap.refl⟩ λdn x ⟨r,hr⟩ O G6 hP=>?_).mono ?_
    · obtain⟨k,rfl,a6⟩:=hP
      have hm:x∈K6 1 ((enL ns).length-1):=by rw[jJ]at hr;rw[<-hr];simp
      unfold K6 at hm
      obtain⟨i,hi,rfl⟩:=zw.mp hm
      have hi:=yY.mp hi
      refine Q5.mpr<| fN6 (fX8 hb (a6.at e5) (by lia)) (λhx G7 j7=>.inl ⟨by simpa using hx,rfl,a6.trans j7⟩) λhx G7 j7=>.inr ⟨by simpa using hx,_,rfl,_,rfl,a6.trans j7⟩
    · rintro fl G6 (⟨hb,rfl,a6⟩|⟨hb,O,rfl,k,rfl,a6⟩)
      · rw[bQ0]at hb
        rw[hb]at q
        exact R6 (q G6 a6)
      · rw[bQ0]at hb
        rw[hb]at q
        exact U5<| d9 (a:=.bl true) (G':=G6) rfl (R6 (q G6 a6))
 exact w _ λG4 a4=>q G4 (a3.trans a4)
def liN:D->D
 | .tup [.tup fs,m]=>if fs.any (λx=>N5 x noS)then .non else .tup [.tup fs,m]
 |d=>d
def noM:D->Bool
 | .tup [_,.bl k,s]=>k&&N5 s noS
 |_=>false
def kpM(m:D):D->Bool
 | .tup [_,.bl k,s]=>k||!N5 s m
 |_=>false
def reN:D->D
 | .tup [.tup rows,m]=>if rows.any noM then .non else .tup [.tup (rows.filter (kpM m)),m]
 |d=>d
def dZ7(a b c li re:D):D:=if N5 (.tup [a,b,c,liN li,reN re]) evS then .str V8 else .tup [a,b,c,liN li,reN re]
theorem dU8{n:Nat}{G:DH}:∀ {fs:List D},(∀x∈fs,GS (n+1) x/\dpD x<=38)->aX5 G noS fs=some (fs.any λx=>N5 x noS)
 |[],_=>rfl
 |f::r,h=>by
   have h1:=h f (zc ..)
   have e:=bV3 (G:=G) h1.1 (bR1 (n:=n)) h1.2 bR2
   have e':=dU8 (G:=G) λx hx=>h x (zf _ hx)
   unfold aX5
   rw[e,e',jq]
theorem eQ0{a b c li re:D}:dpD li+1<=dpD (.tup [a,b,c,li,re])/\dpD re+1<=dpD (.tup [a,b,c,li,re]):=by
 rw[aC6]
 exact⟨yy (aS6 bN4),yy (aS6 bO5)⟩
theorem dT2{fs:List D}{m:D}:dpD m+1<=dpD (.tup [.tup fs,m])/\∀x∈fs,dpD x+2<=dpD (.tup [.tup fs,m]):=by
 have h1:dpD m<=dpL [D.tup fs,m]:=aS6 (zf _ (zc ..))
 have h2:dpD (.tup fs)<=dpL [D.tup fs,m]:=aS6 (zc ..)
 rw[aC6]at h2
 rw[aC6]
 exact⟨by lia,λx hx=>by have:=aS6 hx;lia⟩
theorem fT2{f:Str×Bool×D}:dpD (fdD f)=dpD f.2.2+1:=by
 unfold fdD
 rw[aC6,S5,S5,S5,dpL,dpD,dpD]
 simp
section
variable{a b c:Option D}{n:Nat}{li re:D}{G:DH}{P:Fl->DH->Prop}
theorem gC3(hl:LiG (GS (n+1)) li)(hd:dpD li<=38)(q:P (.nx [a,b,c,some (liN li),some re,none,none]) G):Wp (FA [a,b,c,some li,some re,none,none]) G P:=by
 rcases hl with rfl|⟨fs,m,rfl,h1,h2,h3⟩
 ·exact d9 rfl q
 · have e:=dU8 (G:=G) (n:=n) (fs:=fs) λx hx=>⟨h2 x hx,by have:=(dT2 (m:=m)).2 x hx;lia⟩
   have ei:inX noS (.tup fs) G=some (.ok (.bl (fs.any λx=>N5 x noS)),G):=by unfold inX cR1;simp only[e]
   have el:liN (.tup [.tup fs,m])=if fs.any (λx=>N5 x noS)then .non else .tup [.tup fs,m]:=rfl
   rw[el]at q
   refine aH1<| cG3<| R7<| d9 (a:=.bl true) (G':=G) rfl ⟨_,rfl,λ_=>?_,λz=>(nomatch z)⟩
   refine R7<| w6<| v9 (as:= []) rfl rfl<| aV5.mpr<| d9 (a:=.tup fs) rfl<| d9 ei ⟨_,rfl,λz=>?_,λz=>J1.mpr ?_⟩
   · rw[z,if_pos rfl]at q
     exact d9 rfl q
   · rw[z,if_neg (by decide)]at q
     exact q
theorem gB2{fs:List (Str×Bool×D)}{m:D}(hf:∀f∈fs,GS (n+1) f.2.2/\dpD f.2.2<=38)(hl:fs.length<=1000)(q:∀G',Ap G G'->P (.nx [a,b,c,some li,some (if (fs.map fdD).any noM then .non else .tup [.tup (fs.map fdD),m]),none,none]) G'):Wp (FB [a,b,c,some li,some (.tup [.tup (fs.map fdD),m]),none,none]) G P:=by
 have bg:1000<=zh:=by decide
 have w:EvT (aB3 (o8 (d7 aC1 (c7 4) (cE .non))) (o8 (d7 neD (Q0 (itW (d7 ixD (c7 4) (cE (.int 0)))) [none] (q16 0) (aB3 (o7 (d7 ixD (c7 0) (cE (.int 1)))) (o8 (d7 eqD (d7 ixD (c7 0) (cE (.int 2))) (q15 (fnX 0 o4) q14)))) (c7 0)) (M6 q14))) [a,b,c,some li,some (.tup [.tup (fs.map fdD),m]),none,none]) G (true&&(fs.map fdD).any noM):=by
  refine aM0 (EvT.of rfl) λ_ G1 j1=>T6<| dH7 (items:=fs.map fdD) (ck:=λ_=>true) (λO=>∃u,O= [u]) noM (bL5 (ix0 rfl rfl)) (λ_ _=>rfl) (by rw[zo];lia) ⟨_,rfl⟩ λx hx O G2 s j=>?_
  obtain⟨u,rfl⟩:=s
  obtain⟨⟨z,k,y⟩,hfm,rfl⟩:=zw.mp hx
  refine Q5.mpr ⟨rfl,⟨_,rfl⟩,?_,λ_=>rfl⟩
  show EvT _ _ (k&&N5 y noS)
  refine aM0 (EvT.of rfl) λ_ G3 j3=>T6 λQ q=>w6<| d9 (a:=y) (G':=G3) rfl<| v9 (as:= []) rfl rfl<| aV5.mpr<| bF2.mpr ⟨_,bV3 (hf _ hfm).1 (bR1 (n:=n)) (hf _ hfm).2 bR2,q _ Ap.refl⟩
 refine aH1<| w _ λG' j=>?_
 have q:=q G' j
 rw[zT]
 revert q
 rcases (fs.map fdD).any noM with _|_<;>intro q
 ·exact⟨λh=>(nomatch h),λ_=>J1.mpr q⟩
 ·exact⟨λ_=>d9 rfl q,λh=>(nomatch h)⟩
theorem gC5{fs:List (Str×Bool×D)}{m:D}(hf:∀f∈fs,GS (n+1) f.2.2/\dpD f.2.2<=38)(hm:GS (n+1) m)(dm:dpD m<=38)(hl:fs.length<=1000)(q:∀G',Ap G G'->P (.nx [a,b,c,some li,some (.tup [.tup ((fs.map fdD).filter (kpM m)),m]),none,none]) G'):Wp (FC [a,b,c,some li,some (.tup [.tup (fs.map fdD),m]),none,none]) G P:=by
 have bg:1000<=zh:=by decide
 refine eE3 (G1:=G) rfl<| S7<| aB7.mpr<| v8<| aF5<| v8<| flt (items:=fs.map fdD) (ck:=λ_=>true) (λO=>∃u,O= [u,some (.tup [.tup (fs.map fdD),m])]) (kpM m) (bL5 (ix0 rfl rfl)) (λ_ _=>rfl) (by rw[zo];lia) ⟨_,rfl⟩ (λx hx O G2 s j=>?_) λp G' j e=>o9.mpr<| (aU2 e).mpr<| d9 (a:= [m]) (G':=G') rfl ⟨sz,q G' j⟩
 obtain⟨u,rfl⟩:=s
 obtain⟨⟨z,k,y⟩,hfm,rfl⟩:=zw.mp hx
 refine Q5.mpr ⟨rfl,⟨_,rfl⟩,?_,λ_=>rfl⟩
 show EvT _ _ (k||!N5 y m)
 exact aS0 (EvT.of rfl) λ_ G3 j3=>T6<| dY3 (x:=y) (y:=m) rfl rfl (hf _ hfm).1 hm (hf _ hfm).2 dm
end
theorem eR4{m:D}{fs:List (Str×Bool×D)}:(fs.map fdD).filter (kpM m)= (fs.filter λf=>kpM m (fdD f)).map fdD:=by rw[Jf];rfl
theorem fN9{S:D->Prop}{li:D}(h:LiG S li):LiG S (liN li):=by
 rcases h with rfl|⟨fs,m,rfl,h1,h2,h3⟩
 ·exact .inl rfl
 · show LiG S (if fs.any (λx=>N5 x noS)then .non else .tup [.tup fs,m])
   split
   ·exact .inl rfl
   ·exact .inr ⟨fs,m,rfl,h1,h2,h3⟩
theorem fR0{S:D->Prop}{re:D}(h:ReG S re):ReG S (reN re):=by
 rcases h with rfl|⟨fs,m,rfl,h1,h2,h3,h4⟩
 ·exact .inl rfl
 · show ReG S (if (fs.map fdD).any noM then .non else .tup [.tup ((fs.map fdD).filter (kpM m)),m])
   split
   ·exact .inl rfl
   · rw[eR4]
     have hs:(fs.filter λf=>kpM m (fdD f)).Sublist fs:=Xs
     exact .inr ⟨_,m,rfl,zv hs.length_le h1,(hs.map _).nodup h2,λf hf=>h3 f (hs.subset hf),h4⟩
theorem eV7{li:D}:dpD (liN li)<=dpD li:=by
 unfold liN
 split
 · split
   ·rw[dpD];exact je _
   ·exact zd _
 ·exact zd _
theorem fE6{re:D}:dpD (reN re)<=dpD re:=by
 unfold reN
 split
 · rename_i rows m
   split
   ·rw[dpD];exact je _
   · rw[aC6,aC6]
     refine yy (cI7 λx hx=>?_)
     rcases zi.mp hx with rfl|hx
     · refine zv ?_ (aS6 (zc ..))
       rw[aC6,aC6]
       exact yy (cI7 λx hx=>aS6 (xo.mp hx).1)
     ·exact aS6 (zf _ hx)
 ·exact zd _
theorem eK8{a b c li re li' re':D}(h1:dpD li'<=dpD li)(h2:dpD re'<=dpD re):dpD (.tup [a,b,c,li',re'])<=dpD (.tup [a,b,c,li,re]):=by
 rw[aC6,aC6,S5,S5,S5,S5,S5,S5,S5,S5,S5,S5,dpL]
 lia
theorem cU8{n:Nat}{ns:List (D×D)}{w:Str}{ts:List Str}{tr:List Bool}{li re:D}{G:DH}{Q:DPP}(h:PtP (GS (n+1)) ns w ts tr li re)(hd:dpD (mkS ns w ts tr li re)<=38)(q:∀G',Ap G G'->Q (dZ7 (.tup (ns.map stD)) (.tup [.str w,.tup (ts.map D.str)]) (.tup (tr.map D.bl)) li re) G'):
 Wp (K8 [.tup (ns.map stD),.tup [.str w,.tup (ts.map D.str)],.tup (tr.map D.bl),li,re]) G Q:=by
 refine T4 (show Wp (j0 FA (j0 FB (j0 FC (j0 FE (j0 FF' FG')))) [some (D.tup (ns.map stD)),some (.tup [.str w,.tup (ts.map D.str)]),some (.tup (tr.map D.bl)),some li,some re,none,none]) G _ from ?_)
 have kd:dpD li+1<=dpD (mkS ns w ts tr li re)/\dpD re+1<=dpD (mkS ns w ts tr li re):=eQ0
 refine m9.mpr<| gC3 h.li (by lia) ?_
 have fin:∀G',Ap G G'->Wp (j0 FE (j0 FF' FG') [some (D.tup (ns.map stD)),some (.tup [.str w,.tup (ts.map D.str)]),some (.tup (tr.map D.bl)),some (liN li),some (reN re),none,none]) G' (PB Q):=by
  intro G' j
  have hg:GS (n+2) (mkS ns w ts tr (liN li) (reN re)):=.inr ⟨ns,w,ts,tr,_,_,rfl,⟨h.st,h.nl,h.tx,h.tl,h.tr,fN9 h.li,fR0 h.re⟩,trivial⟩
  have hd':dpD (mkS ns w ts tr (liN li) (reN re))<=38:=zv (eK8 eV7 fE6) hd
  have e:=bV3 (G:=G') hg (eR3 (n:=n)) hd' eR0
  have q:=q G' j
  refine K9 rfl<| K9 rfl<| U5<| dC3.mpr<| R7<| Z0 (x:=mkS ns w ts tr (liN li) (reN re)) (y:=evS) rfl rfl<| bF2.mpr ⟨_,e,_,rfl,?_⟩
  unfold dZ7 at q
  show if N5 (mkS ns w ts tr (liN li) (reN re)) evS=true then _ else _
  rcases hb:N5 (mkS ns w ts tr (liN li) (reN re)) evS with _|_
  · rw[show N5 (.tup [.tup (ns.map stD),.tup [.str w,.tup (ts.map D.str)],.tup (tr.map D.bl),liN li,reN re]) evS=false from hb,if_neg (by decide)]at q
    exact d9 (a:=mkS ns w ts tr (liN li) (reN re)) rfl (R6 q)
  · rw[show N5 (.tup [.tup (ns.map stD),.tup [.str w,.tup (ts.map D.str)],.tup (tr.map D.bl),liN li,reN re]) evS=true from hb,if_pos rfl]at q
    exact d9 (a:=.str V8) rfl (R6 q)
 rcases h.re with e|⟨fs,m,e,h1,h2,h3,h4⟩
 · subst e
   exact K9 rfl<| K9 rfl<| fin G Ap.refl
 · subst e
   have hf:∀f∈fs,GS (n+1) f.2.2/\dpD f.2.2<=38:=λf hf=>⟨(h3 f hf).2,by
    have:=(dT2 (fs:=fs.map fdD) (m:=m)).2 (fdD f) (zw.mpr ⟨f,hf,rfl⟩)
    rw[fT2]at this
    lia⟩
   have dm:dpD m<=38:=by have:=(dT2 (fs:=fs.map fdD) (m:=m)).1;lia
   have er:reN (.tup [.tup (fs.map fdD),m])=if (fs.map fdD).any noM then .non else .tup [.tup ((fs.map fdD).filter (kpM m)),m]:=rfl
   rw[er]at fin
   refine m9.mpr<| gB2 (n:=n) hf h1 λG1 j1=>?_
   rcases ha:(fs.map fdD).any noM with _|_
   · rw[if_neg (by decide)]
     rw[ha,if_neg (by decide)]at fin
     exact m9.mpr<| gC5 (n:=n) hf h4 dm h1 λG2 j2=>fin G2 (j1.trans j2)
   · rw[if_pos rfl]
     rw[ha,if_pos rfl]at fin
     exact K9 rfl<| fin G1 j1
def okS(d:D):Bool:=aI2 aH5 d&&aI2 aP8 d
theorem fI9:(aI2 λd=>aH5 d&&aP8 d)=okS:=funext λd=>dI5
theorem dG6{n k:Nat}{d:D}(h:Tg n k d)(hk:k<=50):okS d= ((aH5 d&&aP8 d)&&(K1 d).all okS):=by
 rw[<-fI9]
 exact cO7 h hk
theorem dZ1{n k:Nat}{d:D}(h:Tg n k d)(o:okS d=true):GS 60 d:=by
 unfold okS at o
 rw[zg]at o
 exact cJ1 h o.1
def liL(d:D):Bool:=U0 d||(aK9 d&&(okS (cI3 d)&&(cG7 d).all λx=>okS x&&!N5 x noS))
noncomputable def nmS:D->Str
 | .tup (.str z::_)=>z
 |_=> ""
def aG2(dn:List D):Str:=match dn.getLast? with
 |some x=>nmS x
 |none=> ""
def rwF(m:D)(dn:List D)(x:D):Bool:=match x with
 | .tup [.str z,.bl k,s]=>decide ((aG2 dn).cps.toList<z.cps.toList)&&(Q9 z&&(okS s&&!N5 s (if k then noS else m)))
 |_=>false
def reL(d:D):Bool:=U0 d||(aK9 d&&(okS (cI3 d)&&bT9 (rwF (cI3 d)) [] (cG7 d)))
theorem cM2{li:D}:liL li= (liB li&&(cF1 li&&(liK li).all okS)):=by
 by_cases c:aK9 li=true
 · obtain⟨fs,m,rfl⟩:=aF3 c
   show (false||(true&&(okS m&&fs.all λx=>okS x&&!N5 x noS)))= ((false||true)&&((fs.all λx=> !N5 x noS)&&(fs++[m]).all okS))
   rw[jR,zB,jW]
   have:(fs.all λx=>okS x&&!N5 x noS)= (fs.all okS&&fs.all λx=> !N5 x noS):=by
    induction fs with
    |nil=>rfl
    |cons x r ih=>
      rw[zB,zB,zB,ih (by rfl)]
      cases okS x<;>cases N5 x noS<;>cases r.all okS<;>rfl
   rw[this]
   cases okS m<;>cases fs.all okS<;>cases (fs.all λx=> !N5 x noS)<;>rfl
 · have c:aK9 li=false:=by simpa using c
   unfold liL liB
   rw[c]
   rcases li with _|_|_|_|_|_|_|_<;>rfl
def aU3:D->Bool
 | .tup [.str z,.bl _,_]=>Q9 z
 |_=>false
theorem bU7{d:D}(h:aU3 d=true):∃z k s,d= .tup [.str z,.bl k,s]/\Q9 z=true:=by
 rcases d with _|_|_|_|l|_|_|_<;>try (cases h;done)
 rcases l with _|⟨a,_|⟨b,_|⟨c,_|⟨e,r⟩⟩⟩⟩<;>try (cases h;done)
 all_goals rcases a with _|_|_|z|_|_|_|_<;>try (cases h;done)
 all_goals rcases b with _|k|_|_|_|_|_|_<;>try (cases h;done)
 exact⟨z,k,c,rfl,h⟩
theorem fO1{d:D}(h:bA8 d=true):aU3 d=true:=by
 obtain⟨z,k,s,rfl,hn⟩:=aZ2 h
 have hn:(Q9 z&&decide (0<z.length))=true:=hn
 rw[zg]at hn
 exact hn.1
def chN:Str->List D->Bool
 |_, []=>true
 |l,x::r=>decide (l.cps.toList<(nmS x).cps.toList)&&chN (nmS x) r
theorem cW5{dn:List D}{x:D}:aG2 (dn++[x])=nmS x:=by
 unfold aG2
 rw[List.getLast?_concat]
theorem dV6{m:D}:∀ {rows dn:List D},bT9 (rwF m) dn rows= (rows.all (λx=>aU3 x&&(okS (trd x)&&aV7 m x))&&chN (aG2 dn) rows)
 |[],_=>rfl
 |x::r,dn=>by
   rw[bT9,dV6,zB,chN,cW5]
   by_cases c:aU3 x=true
   · obtain⟨z,k,s,rfl,hz⟩:=bU7 c
     have d1:aV7 m (.tup [.str z,.bl k,s])= !N5 s (if k then noS else m):=by cases k<;>rfl
     show ((decide ((aG2 dn).cps.toList<z.cps.toList)&&(Q9 z&&(okS s&&!N5 s (if k then noS else m))))&&(r.all (λx=>aU3 x&&(okS (trd x)&&aV7 m x))&&chN z r))= (((Q9 z&&(okS s&&aV7 m (.tup [.str z,.bl k,s])))&&r.all (λx=>aU3 x&&(okS (trd x)&&aV7 m x)))&&(decide ((aG2 dn).cps.toList<z.cps.toList)&&chN z r))
     rw[d1]
     generalize decide ((aG2 dn).cps.toList<z.cps.toList)=u
     generalize N5 s (if k then noS else m)=v
     generalize r.all (λx=>aU3 x&&(okS (trd x)&&aV7 m x))=w
     cases u<;>cases Q9 z<;>cases okS s<;>cases v<;>cases w<;>rfl
   · have c':aU3 x=false:=by simpa using c
     have e:rwF m dn x=false:=by
      rcases x with _|_|_|_|l|_|_|_<;>try rfl
      rcases l with _|⟨a,_|⟨b,_|⟨c1,_|⟨e,r⟩⟩⟩⟩<;>try rfl
      all_goals rcases a with _|_|_|z|_|_|_|_<;>try rfl
      all_goals rcases b with _|k|_|_|_|_|_|_<;>try rfl
      have c':Q9 z=false:=c'
      show (decide ((aG2 dn).cps.toList<z.cps.toList)&&(Q9 z&&_))=false
      rw[c',jP,yw]
     rw[e,c'];rfl
theorem cZ3:∀ {r:List D} {x:D} {l:Str},(x::r).all aU3=true->chN l (x::r)= (decide (l.cps.toList<(nmS x).cps.toList)&&aB8 nmL ((x::r).map hdD))
 |[],x,l,h=>by rw[chN,chN];rfl
 |y::r,x,l,h=>by
   rw[zB,zg]at h
   rw[chN,cZ3 h.2]
   have h2:=h.2
   rw[zB,zg]at h2
   obtain⟨z,k,s,rfl,_⟩:=bU7 h.1
   obtain⟨z',k',s',rfl,_⟩:=bU7 h2.1
   rfl
theorem dV8:∀ {r:List D} {l:Str},chN l r=true->∀x∈r,0<(nmS x).length
 |[],_,_,_,h=>nomatch h
 |x::r,l,h,y,hy=>by
   rw[chN,zg,decide_eq_true_eq]at h
   rcases zi.mp hy with rfl|hy
   · show 0<(nmS y).cps.size
     rw[<-jQ]
     rcases e:(nmS y).cps.toList with _|⟨a,t⟩
     · rw[e]at h
       exact absurd h.1 (List.not_lt_nil _)
     ·simp
   ·exact dV8 h.2 y hy
theorem cM3{re:D}:reL re= (reB re&&(bY0 re&&(reK re).all okS)):=by
 by_cases c:aK9 re=true
 · obtain⟨rows,m,rfl⟩:=aF3 c
   show (false||(true&&(okS m&&bT9 (rwF m) [] rows)))= ((false||(true&&(rows.all bA8&&aB8 nmL (rows.map hdD))))&&(rows.all (aV7 m)&&(rows.map trd++[m]).all okS))
   rw[dV6,jR,zB,jW,yK]
   have sp:rows.all (λx=>aU3 x&&(okS (trd x)&&aV7 m x))= (rows.all aU3&&(rows.all (okS∘trd)&&rows.all (aV7 m))):=by
    induction rows with
    |nil=>rfl
    |cons x r ih=>
      rw[zB,zB,zB,zB,ih (by rfl)]
      show _= ((aU3 x&&r.all aU3)&&((okS (trd x)&&r.all (okS∘trd))&&_))
      cases aU3 x<;>cases okS (trd x)<;>cases aV7 m x<;>cases r.all aU3<;>cases r.all (okS∘trd)<;>rfl
   rw[sp]
   have key:(rows.all aU3&&chN "" rows)= (rows.all bA8&&aB8 nmL (rows.map hdD)):=by
    rw[yT,zg,zg]
    constructor
    · rintro⟨h1,h2⟩
      refine⟨zn.mpr λx hx=>?_,?_⟩
      · have hp:=dV8 h2 x hx
        obtain⟨z,k,s,rfl,hz⟩:=bU7 (zn.mp h1 x hx)
        show ((Q9 z&&decide (0<z.length))&&true)=true
        rw[hz,decide_eq_true (show 0<z.length from hp)];rfl
      · rcases rows with _|⟨x,r⟩
        ·rfl
        · rw[cZ3 h1,zg]at h2
          exact h2.2
    · rintro⟨h1,h2⟩
      have h3:rows.all aU3=true:=zn.mpr λx hx=>fO1 (zn.mp h1 x hx)
      refine⟨h3,?_⟩
      rcases rows with _|⟨x,r⟩
      ·rfl
      · rw[cZ3 h3,h2,jF,decide_eq_true_eq]
        obtain⟨z,k,s,rfl,hn⟩:=aZ2 (zn.mp h1 x (zc ..))
        have hn:(Q9 z&&decide (0<z.length))=true:=hn
        rw[zg,decide_eq_true_eq]at hn
        have h0:0<z.cps.toList.length:=by rw[jQ];exact hn.2
        show ([]:List Nat)<z.cps.toList
        rcases e:z.cps.toList with _|⟨a,t⟩
        ·rw[e]at h0;exact absurd h0 (by decide)
        ·exact List.nil_lt_cons ..
   have e0:aG2 []= "":=rfl
   rw[e0]
   have:((rows.all aU3&&(rows.all (okS∘trd)&&rows.all (aV7 m)))&&chN "" rows)= ((rows.all aU3&&chN "" rows)&&(rows.all (okS∘trd)&&rows.all (aV7 m))):=by
    cases rows.all aU3<;>cases chN "" rows<;>cases rows.all (okS∘trd)<;>cases rows.all (aV7 m)<;>rfl
   rw[this,key]
   cases okS m<;>cases (rows.all bA8&&aB8 nmL (rows.map hdD))<;>cases rows.all (okS∘trd)<;>cases rows.all (aV7 m)<;>rfl
 · have c:aK9 re=false:=by simpa using c
   unfold reL reB
   rw[c]
   rcases re with _|_|_|_|_|_|_|_<;>rfl
theorem bM3{n k:Nat}{a b c li re:D}(h:Tg n k (.tup [a,b,c,li,re]))(hk:k<=50):okS (.tup [a,b,c,li,re])= (bA4 a&&((U3 b&&U4 c)&&((liL li&&reL re)&&!N5 (.tup [a,b,c,li,re]) evS))):=by
 rw[dG6 h hk,cM2,cM3]
 show ((((bA4 a&&(U3 b&&U4 c))&&(liB li&&reB re))&&(cF1 li&&(bY0 re&&!N5 (.tup [a,b,c,li,re]) evS)))&&(liK li++reK re).all okS)=_
 rw[jR]
 cases bA4 a<;>cases U3 b<;>cases U4 c<;>cases liB li<;>cases reB re<;>cases cF1 li<;>cases bY0 re<;>cases (liK li).all okS<;>cases (reK re).all okS<;>cases N5 (.tup [a,b,c,li,re]) evS<;>rfl
def duM(m:D):D->D
 | .bl true=>noS
 |_=>m
theorem eS9{m:D}{k:Bool}:duM m (.bl k)=if k then noS else m:=by cases k<;>rfl
theorem fQ3{n:Nat}{x y:D}{a b:Fe}{O:DSt}{G:DH}(ea:a O G=some (.ok x,G))(eb:b O G=some (.ok y,G))(hx:GS n x)(hy:GS n y)(dx:dpD x<=38)(dy:dpD y<=38):Ev (d7 eqD a b O) G (N5 x y):=λQ q=>Z0 ea eb<| bF2.mpr ⟨_,bV3 hx hy dx dy,q G Ap.refl⟩
theorem bP0{O:DSt}{G:DH}:q15 (fnX 0 o4) q14 O G=some (.ok noS,G):=aA3<| v9 (as:= []) rfl rfl<| aV5.mpr ⟨rfl,rfl⟩
section
variable{R:List D->M D}
theorem fQ0:aC5 R=j0 (ifS (o8 (d7 cC7 (c7 0) (cE .non))) (t8 (cE (.bl true))) u0) (j0 (ifS (PG1 R) (t8 (cE (.bl false))) u0) (j0 (ifS (R1 (o7 (c7 1))) (t8 (PL1 R)) u0) (j0 (K3 (cE (.str ("" :Str))) (q16 2)) (j0 (PF R) (t8 (cE (.bl true))))))):=rfl
theorem dZ5{m x:D}{dn:List D}(h:rwF m dn x=true):∃z k s,x= .tup [.str z,.bl k,s]/\(aG2 dn).cps.toList<z.cps.toList/\Q9 z=true/\okS s=true/\N5 s (if k then noS else m)=false:=by
 rcases x with _|_|_|_|l|_|_|_<;>try (cases h;done)
 rcases l with _|⟨a,_|⟨b,_|⟨c,_|⟨e,r⟩⟩⟩⟩<;>try (cases h;done)
 all_goals rcases a with _|_|_|z|_|_|_|_<;>try (cases h;done)
 all_goals rcases b with _|k|_|_|_|_|_|_<;>try (cases h;done)
 have h:(decide ((aG2 dn).cps.toList<z.cps.toList)&&(Q9 z&&(okS c&&!N5 c (if k then noS else m))))=true:=h
 rw[zg,zg,zg,decide_eq_true_eq]at h
 exact⟨z,k,c,rfl,h.1,h.2.1,h.2.2.1,by simpa using h.2.2.2⟩
theorem fY0{j:Nat}{d m x:D}{fs:List D}{dn:List D}{G0 G:DH}(hR:∀(x:D) (G:DH),Tg G.length j x->Ev (aA0 R [x]) G (okS x))(hj:j<=38)(hd:d= .tup [.tup fs,m])(om:okS m=true)(hm:Tg G.length j m)(hx:Tg G.length j x)(a:Ap G0 G):
 Wp (PB' R [some d,some (.bl true),some (.str (aG2 dn)),some x]) G (LpK G0 (λdn O G=>∃u,O= [some d,some (.bl true),some (.str (aG2 dn)),u]/\Ap G0 G) (rwF m dn x) (dn++[x])):=by
 subst hd
 refine bZ1 (x:= !aA1 3 x||(!aF6 (hdD x)||!decide ((aG2 dn).cps.toList<(nmS x).cps.toList))) ?_ ?_ ?_
 · refine cS0 (k:=3) rfl (λ_=>rfl) hx.at'.there λhl G1 j1=>?_
   obtain⟨l,rfl,hk⟩:=aB9 hl
   obtain⟨z,k,s,rfl⟩:=bI5 hk
   refine aS0 (aB2 (R0 (cD8 (aS2 (ix0 rfl rfl) rfl) (aH2 (aJ9 hx.at' (zc ..)) j1)))) λhs G2 j2=>?_
   obtain⟨z,rfl⟩:=bH3 (show aF6 z=true by rw[zY]at hs;exact hs)
   exact T6 λQ q=>Z0 (x:=.str z) (y:=.str (aG2 dn)) (G1:=G2) (G2:=G2) rfl rfl<| cJ0.mpr (q G2 Ap.refl)
 · intro h G1 j1
   refine .inl ⟨jr.mpr λhr=>?_,rfl,a.trans j1⟩
   obtain⟨z,k,s,rfl,h1,_⟩:=dZ5 hr
   have h:(!true||(!true||!decide ((aG2 dn).cps.toList<z.cps.toList)))=true:=h
   rw[decide_eq_true h1]at h
   cases h
 intro h G1 j1
 rw[zU,zU,zY,zY,zY]at h
 obtain⟨l,rfl,hk⟩:=aB9 h.1
 obtain⟨z,k,s,rfl⟩:=bI5 hk
 obtain⟨z,rfl⟩:=bH3 (show aF6 z=true from h.2.1)
 have h1:=h.2.2
 have hz:=aW7 (aJ9 hx.at' (zc ..))
 obtain⟨j,rfl⟩:=hx.pos
 have ms:s∈ [D.str z,k,s]:=zf _ (zf _ (zc ..))
 have hs:=hx.mem ms
 refine bZ1 (x:= !Q9 z) (T6 (eS1 rfl (ix0 rfl rfl) hz)) (λh G2 j2=>.inl ⟨jr.mpr λhr=>?_,rfl,a.trans (j1.trans j2)⟩) λht G2 j2=>?_
 · obtain⟨z',k',s',e,_,h2,_⟩:=dZ5 hr
   injection e with e;injection e with e _;injection e with e
   subst e
   rw[h2]at h;cases h
 have ht:Q9 z=true:=by simpa using ht
 have J2:=j1.trans j2
 refine bZ1 (x:= !X7 k||(!okS s||N5 s (duM m k))) ?_ (λh G3 j3=>.inl ⟨jr.mpr λhr=>?_,rfl,a.trans (J2.trans j3)⟩) λh G3 j3=>?_
 · refine aS0 (aB2 (R0 (cI2 (aS2 (ix0 rfl rfl) rfl) (aH2 (aJ9 hx.at' (zf _ (zc ..))) J2)))) λhb G3 j3=>?_
   obtain⟨k,rfl⟩:=W3 (show X7 k=true by simpa using hb)
   refine aS0 (aB2 (R0 (aC2 (as:= [s]) (aP9 (ix0 rfl rfl)) rfl (hR s G3 (hs.up (J2.trans j3).len (by lia)))))) λho G4 j4=>T6 λQ q=>?_
   have ho:okS s=true:=by simpa using ho
   have gs:=dZ1 hs ho
   have gm:=dZ1 hm om
   have d1:=hs.dp
   have d2:=hm.dp
   refine w6<| d9 (a:=s) (G':=G4) (ix0 rfl rfl)<| w6<| aI8.mpr<| d9 (a:= [m,noS]) (G':=G4) (aS2 (ix0 rfl rfl) bP0) ⟨sz,aF5<| d9 (a:= [.bl k]) (G':=G4++[.lst [m,noS]]) (aP9 (ix0 rfl rfl))<| dA4.mpr<| (aL3 o5).mpr ?_⟩
   rcases k with _|_
   ·exact⟨m,rfl,bF2.mpr ⟨_,bV3 gs gm (by lia) (by lia),q _ Ap.one⟩⟩
   ·exact⟨noS,rfl,bF2.mpr ⟨_,bV3 gs (bR1 (n:=59)) (by lia) bR2,q _ Ap.one⟩⟩
 · obtain⟨z',k',s',e,_,_,h3,h4⟩:=dZ5 hr
   injection e with e;injection e with e e';injection e' with e1 e';injection e' with e2 _
   subst e1 e2
   rw[eS9,h3,h4]at h;cases h
 · rw[zU,zU,zY,zY]at h
   obtain⟨k,rfl⟩:=W3 h.1
   rw[eS9]at h
   refine S7<| d9 (a:=.str z) (G':=G3) (ix0 rfl rfl)<|.inr ⟨?_,_,rfl,some (.tup [.str z,.bl k,s]),?_,a.trans (J2.trans j3)⟩
   · show (decide ((aG2 dn).cps.toList<z.cps.toList)&&(Q9 z&&(okS s&&!N5 s (if k then noS else m))))=true
     rw[show decide ((aG2 dn).cps.toList<z.cps.toList)=true from h1,ht,h.2.1,h.2.2];rfl
   ·rw[cW5];rfl
theorem eY8{j:Nat}{d:D}{b:Bool}{G:DH}(hR:∀(x:D) (G:DH),Tg G.length j x->Ev (aA0 R [x]) G (okS x))(hj:j<=38)(h:Tg G.length (j+1) d):Ev (K4 4 (aC5 R) [d,.bl b]) G (if b then reL d else liL d):=bA3<| by
 rw[fQ0]
 have bg:1000<=zh:=by decide
 refine bR5 (T6 (dI7 rfl)) (λhn G1 _=>?_) λhn G1 j1=>?_
 · have:(if b then reL d else liL d)=true:=by unfold reL liL;rw[hn];cases b<;>rfl
   rw[this];exact Ev.of rfl
 refine bQ5 (x:= !aA1 2 d||(!Q7 (hdD d)||!okS (cI3 d))) (cS0 (k:=2) rfl (λ_=>rfl) (aH2 h.at' j1) λhl G2 j2=>?_) (λhx=>?_) λhx G2 j2=>?_
 · obtain⟨l,rfl,hk⟩:=aB9 hl
   obtain⟨r,m,rfl⟩:=aS4 hk
   have hm:=h.mem (show m∈ [r,m]from zf _ (zc ..))
   exact aS0 (aB2 (R0 (bB3 (aS2 (ix0 rfl rfl) rfl) (aH2 (aJ9 h.at' (zc ..)) (j1.trans j2))))) λ_ G3 j3=>aB2 (R0 (aC2 (as:= [m]) (aP9 (ix0 rfl rfl)) rfl (hR m G3 (hm.up (j1.trans (j2.trans j3)).len (zd _)))))
 · have:(aK9 d&&okS (cI3 d))=false:=jr.mpr λhc=>by
    rw[zg]at hc
    obtain⟨fs,m,rfl⟩:=aF3 hc.1
    have hx:(!true||(!true||!okS m))=true:=hx
    rw[show okS m=true from hc.2]at hx;cases hx
   unfold reL liL
   rw[hn,<-xG,<-xG,this]
   cases b<;>rfl
 rw[zU,zU,zY,zY,zY]at hx
 obtain⟨l,rfl,hk⟩:=aB9 hx.1
 obtain⟨r,m,rfl⟩:=aS4 hk
 obtain⟨fs,rfl⟩:=aI7 (show Q7 r=true from hx.2.1)
 have om:okS m=true:=hx.2.2
 have hm:=h.mem (show m∈ [D.tup fs,m]from zf _ (zc ..))
 have hf:=h.mem (show D.tup fs∈ [D.tup fs,m]from zc ..)
 have fl:=hf.len
 obtain⟨j,rfl⟩:=hf.pos
 have J2:=j1.trans j2
 rcases b with _|_
 · refine bR5 (x:=true) (EvT.of rfl) (λ_ G3 j3=>?_) λh=>(nomatch h)
   have e:liL (.tup [.tup fs,m])= !fs.any λx=> !okS x||N5 x noS:=by
    show (false||(true&&(okS m&&fs.all λx=>okS x&&!N5 x noS)))=_
    rw[om,zT,zT,xK]
    have:(λx=> !okS x||N5 x noS)=λx=> !(okS x&&!N5 x noS):=funext λx=>by cases okS x<;>cases N5 x noS<;>rfl
    rw[this,bD0,xz]
   show Ev _ _ (liL (.tup [.tup fs,m]))
   rw[e]
   refine eU3 (items:=fs) (ck:=λ_=>true) (λO=>∃u,O= [u]) (λx=> !okS x||N5 x noS) (bL5 (ix0 rfl rfl)) (λ_ _=>rfl) (by lia) ⟨_,rfl⟩ λx hx O G4 s j4=>?_
   obtain⟨u,rfl⟩:=s
   have tx:=hf.mem hx
   refine Q5.mpr ⟨rfl,⟨_,rfl⟩,aS0 (aB2 (R0 (aC2 (as:= [x]) rfl rfl (hR x G4 (tx.up (J2.trans (j3.trans j4)).len (by lia)))))) λho G5 j5=>?_,λ_=>rfl⟩
   have ho:okS x=true:=by simpa using ho
   exact T6 (fQ3 (x:=x) (y:=noS) rfl bP0 (dZ1 tx ho) (bR1 (n:=59)) (by have:=tx.dp;lia) bR2)
 · refine bR5 (x:=false) (EvT.of rfl) (λh=>(nomatch h)) λ_ G3 j3=>?_
   have e:reL (.tup [.tup fs,m])=bT9 (rwF m) [] fs:=by
    show (false||(true&&(okS m&&bT9 (rwF m) [] fs)))=_
    rw[om,zT,zT,xK]
   show EvS _ _ _ (reL (.tup [.tup fs,m]))
   rw[e]
   intro Q q
   refine K9 (X1:= [some (.tup [.tup fs,m]),some (.bl true),some (.str (aG2 [])),none]) (G':=G3) rfl<| m9.mpr<| aL7.mpr<| d9 (bL5 (ix0 rfl rfl))<| (cV2 (G0:=G3) (λdn O G=>∃u,O= [some (.tup [.tup fs,m]),some (.bl true),some (.str (aG2 dn)),u]/\Ap G3 G) (rwF m) fs [] _ _ ⟨none,rfl,Ap.refl⟩ λdn x ⟨r,hr⟩ O G4 hP=>?_).mono ?_
   · obtain⟨u,rfl,a4⟩:=hP
     have hxm:x∈fs:=by rw[jJ]at hr;rw[<-hr];simp
     have L:=(J2.trans (j3.trans a4)).len
     exact Q5.mpr<| fY0 hR hj rfl om (hm.up L (zd _)) ((hf.mem hxm).up L (by lia)) a4
   · rintro fl G4 (⟨hb,rfl,a4⟩|⟨hb,O,rfl,u,rfl,a4⟩)
     · rw[hb]at q
       exact R6 (q G4 a4)
     · rw[hb]at q
       exact U5<| d9 (a:=.bl true) (G':=G4) rfl (R6 (q G4 a4))
end
section
variable{R:List D->M D}
theorem fT3:bO1 R=j0 (ifS (o7 (q15 o6 (q13 (c7 0) (q13 (cE (.ty "str")) q14)))) (t8 (d7 eqD (c7 0) (cE (.str ("any" :Str))))) u0) (j0 (ifS SG1 (t8 (cE (.bl false))) u0) (j0 (ifS SG2 (t8 (cE (.bl false))) u0) (j0 (ifS (SG3 R) (t8 (cE (.bl false))) u0) (t8 (d7 neD (q15 (fnX 5 K8) (q13 (d7 ixD (c7 0) (cE (.int 0))) (q13 (d7 ixD (c7 0) (cE (.int 1))) (q13 (d7 ixD (c7 0) (cE (.int 2))) (q13 (d7 ixD (c7 0) (cE (.int 3))) (q13 (d7 ixD (c7 0) (cE (.int 4))) q14)))))) (cE (.str ("any" :Str)))))))):=rfl
theorem eP6{li:D}(h:liL li=true):liN li=li:=by
 rw[cM2,zg,zg]at h
 by_cases c:aK9 li=true
 · obtain⟨fs,m,rfl⟩:=aF3 c
   have h1:(fs.all λx=> !N5 x noS)=true:=h.2.1
   show (if fs.any (λx=>N5 x noS)then D.non else .tup [.tup fs,m])=_
   rw[if_neg]
   intro ha
   obtain⟨x,hx,e⟩:=ZO.mp ha
   have:=zn.mp h1 x hx
   rw[e]at this;cases this
 · unfold liN
   split
   ·exact absurd rfl c
   ·rfl
theorem eP1{re:D}(h:reL re=true):reN re=re:=by
 rw[cM3,zg,zg]at h
 by_cases c:aK9 re=true
 · obtain⟨rows,m,rfl⟩:=aF3 c
   have h1:rows.all (aV7 m)=true:=h.2.1
   have du:∀x∈rows,noM x=false/\kpM m x=true:=λx hx=>by
    have hd:=zn.mp h1 x hx
    have hf:bA8 x=true:=by
     have:(false||(true&&(rows.all bA8&&aB8 nmL (rows.map hdD))))=true:=h.1
     rw[xK,zT,zg]at this
     exact zn.mp this.1 x hx
    obtain⟨z,k,s,rfl,_⟩:=aZ2 hf
    have hd:(if k then !N5 s noS else !N5 s m)=true:=hd
    show (k&&N5 s noS)=false/\(k||!N5 s m)=true
    cases k
    ·exact⟨rfl,hd⟩
    · have hd:(!N5 s noS)=true:=hd
      exact⟨by simpa using hd,rfl⟩
   show (if rows.any noM then D.non else .tup [.tup (rows.filter (kpM m)),m])=_
   rw[if_neg,List.filter_eq_self.mpr λx hx=>(du x hx).2]
   intro ha
   obtain⟨x,hx,e⟩:=ZO.mp ha
   rw[(du x hx).1]at e;cases e
 · unfold reN
   split
   ·exact absurd rfl c
   ·rfl
theorem dS6{d:D}{G:DH}{Q:DPP}(h:d= .str V8\/Q7 d=true)(q:Q (.bl (Q7 d)) G):Wp (neD d (.str V8)) G Q:=by
 rcases h with rfl|h
 ·exact fB7.mpr q
 · obtain⟨l,rfl⟩:=aI7 h
   refine bV2.mpr ⟨false,?_,q⟩
   rfl
theorem cS8{k:Nat}{d:D}{G:DH}(hR:3<=k->∀(x:D) (b:Bool) (G:DH),Tg G.length (k-1) x->Ev (R [x,.bl b]) G (if b then reL x else liL x))(hk:k<=38)(h:Tg G.length k d):Ev (aA0 R [d]) G (okS d):=bA3<| by
 rw[fT3]
 refine bR5 (R0 (cD8 rfl h.at'.there)) (λhs G1 _=>?_) λhs G1 j1=>?_
 · obtain⟨z,rfl⟩:=bH3 hs
   have e:okS (.str z)= (z==V8):=by
    rw[dG6 h (by lia)]
    show (((z==V8)&&true)&&true)=_
    rw[jF,jF]
   rw[e]
   exact Ev.of rfl
 refine bQ5 (x:= !aA1 5 d||!bA4 (hdD d)) (cS0 (k:=5) rfl (λ_=>rfl) (aH2 h.at' j1) λhl G2 j2=>?_) (λhx=>?_) λhx G2 j2=>?_
 · obtain⟨l,rfl,hl5⟩:=aB9 hl
   obtain⟨a,b,c,li,re,rfl⟩:=aQ2 hl5
   obtain⟨k,rfl⟩:=h.pos
   have ta:=h.mem (show a∈ [a,b,c,li,re]from zc ..)
   exact aB2 (R0 (aC2 (aP9 (ix0 rfl rfl)) rfl (cC1 (ta.at'.le (j1.trans j2).len) ta.sz)))
 · refine jr.mpr λho=>?_
   by_cases c5:aA1 5 d=true
   · obtain⟨l,rfl,hl5⟩:=aB9 c5
     obtain⟨a,b,c,li,re,rfl⟩:=aQ2 hl5
     rw[bM3 h (by lia),zg]at ho
     have hx:(!true||!bA4 a)=true:=hx
     rw[ho.1]at hx;cases hx
   · rw[dG6 h (by lia),zg,zg]at ho
     rcases cZ0 ho.1.1 with rfl|⟨ns,w,ts,tr,li,re,rfl,hn,_⟩
     ·cases hs
     ·exact c5 rfl
 obtain⟨l,rfl,hl⟩:=aB9 (show aA1 5 d=true by rw[zU]at hx;simpa using hx.1)
 obtain⟨a,b,c,li,re,rfl⟩:=aQ2 hl
 have hn:bA4 a=true:=by rw[zU,zY,zY]at hx;exact hx.2
 rw[bM3 h (by lia),hn,zT]
 obtain⟨k,rfl⟩:=h.pos
 have mb:b∈ [a,b,c,li,re]:=zf _ (zc ..)
 have mc:c∈ [a,b,c,li,re]:=zf _ (zf _ (zc ..))
 have J2:=j1.trans j2
 have tb:=h.mem mb
 have tc:=h.mem mc
 refine bQ5 (x:= !U3 b||!U4 c) (aS0 (aB2 (R0 (aC2 (aP9 (ix0 rfl rfl)) rfl (cQ3 (tb.at'.le J2.len) tb.sz)))) λ_ G3 j3=>aB2 (R0 (aC2 (aP9 (ix0 rfl rfl)) rfl (Ev.mk (bP7 (tc.at'.le (J2.trans j3).len) tc.zl))))) (λhx=>?_) λhx G3 j3=>?_
 · have:(U3 b&&U4 c)=false:=by revert hx;cases U3 b<;>cases U4 c<;>simp
   rw[this];rfl
 have ht:U3 b=true:=by rw[zU]at hx;simpa using hx.1
 have hc:U4 c=true:=by rw[zU]at hx;simpa using hx.2
 rw[ht,hc,zT,zT]
 have k3:3<=k+1:=by
  unfold U3 at ht
  rw[zg]at ht
  obtain⟨w,l,rfl,_⟩:=cM8 ht.1
  have:=tb.dp
  rw[aC6,S5,S5,aC6]at this
  lia
 have tl:=h.mem (show li∈ [a,b,c,li,re]from bN4)
 have tr:=h.mem (show re∈ [a,b,c,li,re]from bO5)
 have J3:=J2.trans j3
 refine bQ5 (x:= !liL li||!reL re) (aS0 (aB2 (R0 (aC2 (aS2 (ix0 rfl rfl) rfl) rfl (hR k3 li false G3 (tl.up J3.len (zd _)))))) λ_ G4 j4=>aB2 (R0 (aC2 (aS2 (ix0 rfl rfl) rfl) rfl (hR k3 re true G4 (tr.up (J3.trans j4).len (zd _)))))) (λhx=>?_) λhx G4 j4=>?_
 · have:(liL li&&reL re)=false:=by revert hx;cases liL li<;>cases reL re<;>simp
   rw[this];rfl
 have hli:liL li=true:=by rw[zU]at hx;simpa using hx.1
 have hre:reL re=true:=by rw[zU]at hx;simpa using hx.2
 rw[hli,hre,zT,zT]
 have hg:GS 59 (.tup [a,b,c,li,re]):=by
  have e1:=hli
  have e2:=hre
  rw[cM2,zg,zg]at e1
  rw[cM3,zg,zg]at e2
  refine cJ1 (n:=59) h ?_
  show (((bA4 a&&(U3 b&&U4 c))&&(liB li&&reB re))&&(liK li++reK re).all (chk aH5 58))=true
  rw[hn,ht,hc,e1.1,e2.1,jR]
  have up:∀x,x∈K1 (.tup [a,b,c,li,re])->okS x=true->chk aH5 58 x=true:=λx hx hox=>by
   obtain⟨j,ej,tj⟩:=h.kid hx
   unfold okS aI2 at hox
   rw[zg]at hox
   rw[dB6 (j:=60) tj (by lia) (by lia)]
   exact hox.1
  have u1:(liK li).all (chk aH5 58)=true:=zn.mpr λx hx=>up x (zG.mpr (.inl hx)) (zn.mp e1.2.2 x hx)
  have u2:(reK re).all (chk aH5 58)=true:=zn.mpr λx hx=>up x (zG.mpr (.inr hx)) (zn.mp e2.2.2 x hx)
  rw[u1,u2];rfl
 rcases hg with e|⟨ns,w,ts,tr',li',re',e,hp,_⟩
 ·cases e
 unfold mkS at e
 injection e with e
 injection e with e1 e;injection e with e2 e;injection e with e3 e;injection e with e4 e;injection e with e5 _
 subst e1 e2 e3 e4 e5
 refine aQ7 λQ q=>?_
 refine w6<| v9 (as:= [.tup (ns.map stD),.tup [.str w,.tup (ts.map D.str)],.tup (tr'.map D.bl),li,re]) (G1:=G4) ?_ rfl<| cU8 (n:=57) hp (by have:=h.dp;exact zv this hk) λG5 j5=>d9 (a:=.str V8) (G':=G5) rfl ?_
 ·exact aA3<| J6 (ix0 rfl rfl)<| J6 (ix0 rfl rfl)<| J6 (ix0 rfl rfl)<| J6 (ix0 rfl rfl)<| J6 (ix0 rfl rfl)<| o9.mpr ⟨rfl,rfl⟩
 · unfold dZ7
   rw[eP6 hli,eP1 hre]
   have q:=q G5 j5
   rcases he:N5 (.tup [.tup (ns.map stD),.tup [.str w,.tup (ts.map D.str)],.tup (tr'.map D.bl),li,re]) evS with _|_
   · rw[if_neg (by decide)]
     rw[he]at q
     exact dS6 (.inr rfl) q
   · rw[if_pos rfl]
     rw[he]at q
     exact dS6 (.inl rfl) q
end
theorem fP8:∀(n k:Nat) (d:D) (G:DH),k<=2*n+2->k<=38->Tg G.length k d->Ev (aA0 (aI1 n) [d]) G (okS d)
 |0,k,d,G,h,h',t=>cS8 (λhk=>by lia) h' t
 | n + 1, k, d, G, h, h', t => cS8 (λhk x b G tx => by
    obtain⟨j,rfl⟩:∃j,k=j+2:=⟨k-2,by lia⟩
    exact eY8 (j:=j) (λx G tx=>fP8 n j x G (by lia) (by lia) tx) (by lia) tx) h' t
theorem fQ8{k:Nat}{d:D}{G:DH}(h:Tg G.length k d)(hk:k<=34):Ev (bD3 [d]) G (okS d):=fP8 16 k d G (by lia) (by lia) h
theorem dR8{k:Nat}{d:D}{G:DH}(h:Tg G.length k d)(hk:k<=34):Ev (aG3 [d]) G true:=bA3<| by
 unfold bB1
 intro Q q
 refine m9.mpr<| S7<| aC2 (as:= [d]) rfl rfl (bI1 h (by lia)) _ λG1 j1=>U5<| bD8.mpr<| cI2 (d:=.bl (okS d)) rfl ⟨_,rfl⟩ _ λG2 j2=>S9.mpr ?_
 rw[show X7 (.bl (okS d))=true from rfl,if_pos rfl]
 refine w6<| d9 (a:=.bl (okS d)) (G':=G2) rfl<| aC2 (as:= [d]) rfl rfl (fQ8 (h.up (j1.trans j2).len (zd _)) hk) _ λG3 j3=>bF2.mpr ⟨true,?_,R6 (q G3 (j1.trans (j2.trans j3)))⟩
 cases okS d<;>rfl
theorem ixv{r:Nat}{l:List D}{j:Int}{a b:Fe}{O:DSt}{d:D}{G G1:DH}{Q:DPP}(ha:a O G=some (.ok (.ref r),G))(hb:b O G=some (.ok (.int j),G))(e:G[r]? =some (.lst l))(hd:atI l j=some d)(q:Q d G):Wp (d7 ixD a b O) G Q:=Z0 ha hb ((aL3 e).mpr ⟨d,hd,q⟩)
theorem eA0{r:Nat}{l:List D}{k:Int}{j:Nat}{a b:Fe}{O:DSt}{d:D}{G:DH}{S:DSt->DH->Prop}(ha:a O G=some (.ok (.ref r),G))(hb:b O G=some (.ok (.int k),G))(e:G[r]? =some (.lst l))(hj:ixN l.length k=some j)(q:S O (G.set r (.lst (l.set j d)))):Wp (bT6 a b d O) G S:=cY5.mpr (d9 ha (d9 hb ((eN0 e hj).mpr q)))
theorem eD5{r:Nat}{n:Int}{G:DH}(h:M8 G r)(hn:0<n/\n<2 ^ 100):Wp (d8 [.ref r,.int n]) G λx G'=>∃k,x= .int k/\0<=k/\k<n/\∃o,G'=G.set r o/\M8 G' r:=by
 have hlt:=h.lt
 obtain⟨a,b,c,e,hr,hb1,hb2⟩:=h
 refine T4 (show Wp (bB4 [some (.ref r),some (.int n),none]) G _ from ?_)
 refine m9.mpr (aH1 (R7 (w6 (ixv (G1:=G) rfl rfl hr rfl (d9 (a:=.int 0) rfl (V0.mpr ⟨_,rfl,λ_=>?_,λ_=>?_⟩))))))
 · refine m9.mpr (S7 (w6 (ixv (G1:=G) rfl rfl hr rfl (d9 (a:=.int n) rfl ((aR2 hn.1).mpr ?_)))))
   refine m9.mpr (aW6.mpr (w6 (ixv (G1:=G) rfl rfl hr rfl (d9 (a:=.int n) rfl ((cT5 hn).mpr (eA0 (k:=0) rfl rfl hr rfl ?_))))))
   refine d9 (a:=.rt (.int (a % n))) rfl (R6 ⟨_,rfl,xy _ (by lia),yX _ hn.1,_,rfl,a / n,b,c,e,?_,hb1,hb2⟩)
   exact zF hlt
 · have b1:0<=b*b % 2147483629:=xy _ (by lia)
   have b2:b*b % 2147483629<2147483629:=yX _ (by lia)
   have hr2:(G.set r (.lst [.int a,.int (b*b % 2147483629+3),.int c,.int e]))[r]? =some (.lst [.int a,.int (b*b % 2147483629+3),.int c,.int e]):=zF hlt
   refine J1.mpr (m9.mpr (aW6.mpr (w6 (w6 (w6 (ixv (G1:=G) rfl rfl hr rfl (ixv (G1:=G) rfl rfl hr rfl ((bL0 (Or.inl ⟨by lia,by lia⟩)).mpr (d9 (a:=.int 2147483629) rfl ((aR2 (by decide)).mpr (d9 (a:=.int 3) rfl (aQ3.mpr (eA0 (k:=1) rfl rfl hr rfl ?_)))))))))))))
   refine U5 (w6 (w6 (w6 (w6 (ixv (G1:=G) rfl rfl hr2 rfl (d9 (a:=.int 69621) rfl ((bL0 (Or.inr ⟨by lia,by lia⟩)).mpr (d9 (a:=.int 2147483563) rfl ((aR2 (by decide)).mpr (d9 (a:=.int 8) rfl ((cT5 (by decide)).mpr (d9 (a:=.int n) rfl ((aR2 hn.1).mpr ?_)))))))))))))
   exact⟨_,rfl,xy _ (by lia),yX _ hn.1,_,rfl,a,b*b % 2147483629+3,c,e,hr2,by lia,by lia⟩
theorem cL8{r:Nat}{n:Int}{G:DH}(h:M8 G r)(hn:0<n/\n<2 ^ 100):Wp (d8 [.ref r,.int n]) G λx G'=>∃k,x= .int k/\0<=k/\k<n/\Fr r G G':=
 Wp.mono (eD5 h hn) λx G' ⟨k,e,h1,h2,o,e2,hh⟩=>⟨k,e,h1,h2,by subst e2;exact Fr.set hh⟩
theorem eD8{r:Nat}{G:DH}{n:Int}{ds:List D}{Q:DPP}(h:M8 G r)(hn:(ds.length:Int)=n)(h0:0<n)(h1:n<2 ^ 100)(q:∀d∈ds,∀G',Fr r G G'->Fr r (G++[.lst ds]) G'->Q d G'):
 Wp (d8 [.ref r,.int n]) (G++[.lst ds]) λy G2=>Wp (ixD (.ref G.length) y) G2 Q:=by
 refine Wp.mono (cL8 h.app ⟨h0,h1⟩) λx G2 ⟨k,e,h3,h4,f2⟩=>?_
 subst e
 have hne:G.length≠r:=by have:=h.lt;lia
 have hg:=f2.at hne (o:=.lst ds) dD6
 rw[aL3 hg]
 obtain⟨d,hd,e⟩:=bW6 (l:=ds) h3 (by lia)
 exact⟨d,e,q d hd G2 ((Fr.app h).trans f2) f2⟩
theorem eD4{r p:Nat}{G:DH}{n:Int}{ds:List D}{Q:DPP}(h:M8 G r)(hp:p≠r)(e:G[p]? =some (.lst ds))(hn:(ds.length:Int)=n)(h0:0<n)(h1:n<2 ^ 100)(q:∀d∈ds,∀G',Fr r G G'->Q d G'):
 Wp (d8 [.ref r,.int n]) G λy G2=>Wp (ixD (.ref p) y) G2 Q:=by
 refine Wp.mono (cL8 h ⟨h0,h1⟩) λx G2 ⟨k,ek,h3,h4,f2⟩=>?_
 subst ek
 rw[aL3 (f2.at hp e)]
 obtain⟨d,hd,e⟩:=bW6 (l:=ds) h3 (by lia)
 exact⟨d,e,q d hd G2 f2⟩
theorem V7{r:Nat}{n:Int}{G:DH}{Q:DPP}(h:M8 G r)(hn:0<n/\n<2 ^ 100)(q:∀k:Int,0<=k->k<n->∀G',Fr r G G'->Q (.int k) G'):Wp (d8 [.ref r,.int n]) G Q:=
 Wp.mono (cL8 h hn) λx G' ⟨k,e,h1,h2,f⟩=>by subst e;exact q k h1 h2 G' f
theorem aZ7{r:Nat}{n:Int}{fs:DSt->M (List D)}{O:DSt}{G:DH}{Q:DPP}(WM:O[0]? =some (some (.ref r)))(h0:0<n)(h1:n<2 ^ 100)(w:Wp (fs O) G λds G1=>ds.length<=zh/\M8 G1 r/\(ds.length:Int)=n/\∀d∈ds,∀G',Fr r G1 G'->Q d G'):
 Wp (d7 ixD (M6 fs) (q15 (fnX 2 d8) (q13 (c7 0) (q13 (cE (.int n)) q14))) O) G Q:=
 w6 (aI8.mpr (w.mono λds G1 q=>⟨q.1,aF5 (v8 (aE1.mpr ⟨_,WM,J6 rfl (o9.mpr (aL2.mpr ⟨rfl,eD8 q.2.1 q.2.2.1 h0 h1 λd hd G' f _=>q.2.2.2 d hd G' f⟩))⟩))⟩))
theorem dP4{r:Nat}{G:DH}(h:M8 G r):Wp (W5 [.ref r]) G λx G'=>∃k,x= .int k/\ -1000000000000000000<=k/\k<=1000000000000000000/\Fr r G G':=by
 refine T4 (show Wp (aR4 [some (.ref r)]) G _ from ?_)
 refine m9.mpr (aH1 (R7 (w6 (v9 (as:= [.ref r,.int 3]) rfl rfl (V7 h ⟨by decide,by decide⟩ λk h1 h2 G1 f1=>d9 (a:=.int 1) rfl (V0.mpr ⟨_,rfl,λ_=>?_,λ_=>?_⟩))))))
 · refine U5 (w6 (v9 (as:= [.ref r,.int (2*1000000000000000000+1)]) rfl rfl (V7 f1.2.2 ⟨by decide,by decide⟩ λk2 h3 h4 G2 f2=>d9 (a:=.int 1000000000000000000) rfl (cK4.mpr ?_))))
   exact⟨_,rfl,by lia,by lia,f1.trans f2⟩
 · refine J1.mpr (U5 (aZ7 rfl (by decide) (by decide) (d9 (a:= [.int 0,.int 1,.int (-1),.int 2,.int (-2),.int 3,.int 10,.int (-10),.int 1000000000000000000,.int (-1000000000000000000)]) (G':=G1) rfl ⟨sz,f1.2.2,rfl,λd hd G2 f2=>?_⟩)))
   simp only[zi,zu,or_false]at hd
   have ff:=f1.trans f2
   rcases hd with rfl|rfl|rfl|rfl|rfl|rfl|rfl|rfl|rfl|rfl<;>exact⟨_,rfl,by decide,by decide,ff⟩
theorem dV9{r:Nat}{G:DH}{Q:DPP}(h:M8 G r)(q:∀k:Int, -1000000000000000000<=k->k<=1000000000000000000->∀G',Fr r G G'->Q (.int k) G'):Wp (W5 [.ref r]) G Q:=
 Wp.mono (dP4 h) λx G' ⟨k,e,h1,h2,f⟩=>by subst e;exact q k h1 h2 G' f
theorem eG0{G:DH}{p:Nat}{ns:List Int}{c k:Int}(e:G[p]? =some (.rol (ns.map D.int)))(hk:0<=k/\k<64):Wp (aK5 [.ref p,.int c,.int k]) G λd G'=>∃r,d= .ref r/\G.length<=r/\M8 G' r/\Gr G G':=by
 have m1:cB6 7919 k:=Or.inl ⟨by lia,by lia⟩
 have b1:0<=c % 2147483629:=xy _ (by lia)
 have b2:c % 2147483629<2147483629:=yX _ (by lia)
 have m2:cB6 (c % 2147483629+7919*k+1) 48271:=Or.inr ⟨by lia,by lia⟩
 have ln:G.length<=(G++[DO.lst []]).length:=by simp
 refine T4 (show Wp (aY6 [some (.ref p),some (.int c),some (.int k),none]) G _ from ?_)
 refine K9 (X1:= [some (.ref p),some (.int c),some (.int k),some (.int 0)]) rfl ?_
 refine m9.mpr (bW7 (A:=λfl G1=>∃w,fl= .nx [some (.ref p),some (.int c),some (.int k),some (.int w)]/\G1=G++[.lst []]) (R7 (w6 (d9 (a:=.ref p) rfl (aI8.mpr (o9.mpr ⟨sz,(eM0 (R4 e) o5).mpr ⟨_,rfl,λ_=>?_,λ_=>?_⟩⟩))))) ?_)
 · rintro _ _ ⟨w,rfl,rfl⟩
   refine U5<| aI8.mpr<| J6 (x:=.int c) rfl<| v8<| w6<| w6<| w6<| w6<| Z0 (x:=.int c) (y:=.int 2147483629) rfl rfl<| (aR2 (by decide)).mpr<| Z0 (x:=.int 7919) (y:=.int k) rfl rfl<| (bL0 m1).mpr<| aQ3.mpr<| d9 (a:=.int 1) rfl<| aQ3.mpr<| d9 (a:=.int 48271) rfl<| (bL0 m2).mpr<| d9 (a:=.int 2147483647) rfl<| (aR2 (by decide)).mpr<| d9 (a:= [.int w,.int 0]) rfl ⟨sz,?_⟩
   exact⟨_,rfl,ln,⟨_,_,_,_,o5,xy _ (by lia),Int.lt_trans (yX _ (by lia)) (by decide)⟩,Gr.app.trans Gr.app⟩
 ·exact S7 (w6 (aI3 (as:= [.ref p]) rfl ((eF6 (R4 e)).mpr (d9 (a:=.int 2) rfl ((aR2 (by decide)).mpr ⟨_,rfl,rfl⟩)))))
 ·exact J1.mpr ⟨_,rfl,rfl⟩
section
variable{G:DH}{Q:DPP}
theorem ix_str{z:Str}{k:Int}(hz:z.length<=zh)(h0:0<=k)(h1:k<z.length)(q:∀c∈z.cps.toList,Q (.str ⟨#[c]⟩) G):Wp (ixD (.str z) (.int k)) G Q:=by
 have e:ixD (.str z) (.int k)=if z.length<=zh then (do
  let c <-bB7 (atI z.cps.toList k)
  pure (.str ⟨#[c]⟩):M D)else M.stuck:=rfl
 rw[e,if_pos hz]
 simp only[m8,bG0,m6]
 have hl:z.length=z.cps.toList.length:=rfl
 obtain⟨n,rfl⟩:=YU h0
 have hn:n<z.cps.toList.length:=by lia
 refine⟨z.cps.toList[n],?_,q _ (XV _)⟩
 unfold atI ixN
 rw[if_pos (by omega),if_pos (by lia)]
 simp only[xa,Xz,zD hn]
theorem dT1{a b:Str}(h:Q9 a=true)(k:Q9 b=true):Q9 (a++b)=true:=by
 have e:Q9 (a++b)= (Q9 a&&Q9 b):=by
  unfold Q9
  rw[show (a++b).cps.toList=a.cps.toList++b.cps.toList from Array.toList_append,jR]
 rw[e,h,k];rfl
theorem dU4{c:Nat}(h:bG7 c=true):Q9 ⟨#[c]⟩=true:=by
 show [c].all bG7=true
 rw[zB,h];rfl
theorem eL3:∀c∈("abcdefghijklmnopqrstuvwxyz" :Str).cps.toList,bG7 c=true:=by decide +kernel
theorem cK2(c:Nat):(⟨#[c]⟩:Str).length=1:=rfl
end
theorem fB5:aG7=j0 (K3 (cE (.str ("" :Str))) (q16 3)) (j0 (aS1 (aG0 (q13 (d7 Q3 (c7 1) (q15 (fnX 2 d8) (q13 (c7 0) (q13 (d7 Q3 (d7 bB6 (c7 2) (c7 1)) (cE (.int 1))) q14)))) q14)) (q16 4) LT) (t8 (c7 3))):=rfl
theorem fV3{r:Nat}{a b:Int}{z:Str}{u:Option D}{G:DH}(h:M8 G r)(hz:z.length<=1000):Wp (LT [some (.ref r),some (.int a),some (.int b),some (.str z),u]) G λfl G'=>Fr r G G'/\∃c,bG7 c=true/\fl= .nx [some (.ref r),some (.int a),some (.int b),some (.str (z++⟨#[c]⟩)),u]:=by
 have bg:=big
 have hA:("abcdefghijklmnopqrstuvwxyz" :Str).length=26:=by rfl
 refine S7<| w6<| d9 (a:=.str z) rfl<| w6<| d9 (a:=.str "abcdefghijklmnopqrstuvwxyz") rfl<| v9 (as:= [.ref r,.int 26]) rfl rfl<| V7 h ⟨by decide,by decide⟩ λk h0 h1 G1 f1=>ix_str (by lia) h0 (by lia) λc hc=>(eC1 (by rw[cK2];lia)).mpr ?_
 exact⟨f1,c,eL3 c hc,rfl⟩
theorem dD4{r:Nat}{a b:Int}:∀(items:List D) (z:Str) (u:Option D) (G:DH),M8 G r->Q9 z=true->z.length+items.length<=100->
 Wp (aL0 (q16 4) LT (λ_=>true) items [some (.ref r),some (.int a),some (.int b),some (.str z),u]) G λfl G'=>Fr r G G'/\∃z' u',fl= .nx [some (.ref r),some (.int a),some (.int b),some (.str z'),u']/\z'.length=z.length+items.length/\Q9 z'=true
 |[],z,u,G,h,ht,hl=>by
   rw[aM4]
   exact⟨rfl,Fr.refl h,z,u,rfl,rfl,ht⟩
 |d::t,z,u,G,h,ht,hl=>by
   simp only[zp]at hl
   rw[aM3,Q5]
   refine⟨rfl,(fV3 h (by lia)).mono ?_⟩
   rintro _ G1 ⟨f1,c,hc,rfl⟩
   refine(dD4 t (z++⟨#[c]⟩) (some d) G1 f1.2.2 (dT1 ht (dU4 hc)) (by rw[XR,cK2];lia)).mono λfl G2 q=>?_
   obtain⟨q1,z',u',q2,q3,q4⟩:=q
   exact⟨f1.trans q1,z',u',q2,by rw[q3,XR,cK2,zp];lia,q4⟩
theorem bX6{r:Nat}{a b:Int}{G:DH}(h:M8 G r)(h0:0<=a)(h1:a<=b)(h2:b<=20):Wp (U8 [.ref r,.int a,.int b]) G λx G'=>∃z,x= .str z/\z.length<=100/\Fr r G G'/\Q9 z=true/\a<=z.length:=by
 refine T4 (show Wp (aG7 [some (.ref r),some (.int a),some (.int b),none,none]) G _ from ?_)
 rw[fB5]
 refine K9 (X1:= [some (.ref r),some (.int a),some (.int b),some (.str ""),none]) rfl<| m9.mpr<| aL7.mpr<| dO5.mpr<| v8<| w6<| d9 (a:=.int a) rfl<| v9 (as:= [.ref r,.int (b-a+1)]) rfl rfl<| V7 h ⟨by lia,by lia⟩ λk hk0 hk1 G1 f1=>aQ3.mpr<| o9.mpr<| (aT2 ⟨by lia,by lia⟩).mpr ?_
 have hlen:(K6 0 (a+k).toNat).length= (a+k).toNat:=by unfold K6;rw[zo,jy]
 refine(dD4 (K6 0 (a+k).toNat) "" none G1 f1.2.2 rfl ?_).mono ?_
 · rw[hlen,show (("" :Str).length)=0 from rfl]
   lia
 · rintro _ G2 ⟨f2,z',u',rfl,hz,ht⟩
   rw[hlen,show (("" :Str).length)=0 from rfl]at hz
   exact d9 rfl (R6 ⟨z',rfl,by lia,f1.trans f2,ht,by lia⟩)
theorem fP0:∃z:Str,(z.length<=1000/\Q9 z=true)/\∀ {G:DH} {Q:DPP},Wp (bP9 (.str ("z" :Str)) (.int 20)) G Q↔Q (.str z) G:=by
 refine⟨XQ ("z" :Str) 20,⟨by decide +kernel,by decide +kernel⟩,λ{G Q}=>?_⟩
 have e:bP9 (.str ("z" :Str)) (.int 20)=if Ze ("z" :Str) 20 then pure (.str (XQ ("z" :Str) 20))else M.stuck:=rfl
 rw[e,if_pos (by decide +kernel)]
 exact m6
def TX(z:Str):Prop:=Q9 z=true/\z.length<=1000
def NM(z:Str):Prop:=TX z/\0<z.length
theorem eO0{r:Nat}{G:DH}(h:M8 G r):Wp (aK7 [.ref r]) G λx G'=>∃z,x= .str z/\TX z/\Fr r G G':=by
 obtain⟨zz,hzz,emul⟩:=fP0
 refine T4 (show Wp (aY4 [some (.ref r)]) G _ from ?_)
 refine m9.mpr<| aH1<| R7<| w6<| v9 (as:= [.ref r,.int 3]) rfl rfl<| V7 h ⟨by decide,by decide⟩ λk hk0 hk1 G1 f1=>d9 (a:=.int 1) rfl<| V0.mpr ⟨_,rfl,λ_=>?_,λ_=>J1.mpr ?_⟩
 · refine U5<| v9 (as:= [.ref r,.int 0,.int 20]) rfl rfl<| (bX6 f1.2.2 (by decide) (by decide) (by decide)).mono ?_
   rintro _ G2 ⟨z,rfl,hz,f2,ht,_⟩
   exact⟨z,rfl,⟨ht,by lia⟩,f1.trans f2⟩
 · refine U5<| aZ7 rfl (by decide) (by decide)<| J6 (x:=.str "") rfl<| J6 (x:=.str "a") rfl<| J6 (x:=.str "b") rfl<| J6 (x:=.str "aa") rfl<| J6 (x:=.str "ab") rfl<| J6 (x:=.str "ba") rfl<| J6 (x:=.str "abc") rfl<| J6 (x:=.str "z") rfl<| J6 (x:=.str "true") rfl<| v8<| Z0 (x:=.str "z") (y:=.int 20) rfl rfl<| emul.mpr<| o9.mpr ⟨sz,f1.2.2,rfl,λd hd G2 f2=>?_⟩
   simp only[zi,zu,or_false]at hd
   have f02:=f1.trans f2
   rcases hd with rfl|rfl|rfl|rfl|rfl|rfl|rfl|rfl|rfl|rfl
   all_goals first
    |exact⟨_,rfl,⟨rfl,by decide⟩,f02⟩
    |exact⟨_,rfl,⟨hzz.2,hzz.1⟩,f02⟩
theorem cU5(z:Str)(d:D):∀l:List (Key×D),J5 (l.map λkv=>if kv.1= .inr z then (kv.1,d)else kv)=J5 l
 |[]=>rfl
 |(k,v)::r=>by
  have ih:=cU5 z d r
  rw[zS]
  have e:(if ((k,v):Key×D).1= .inr z then (((k,v):Key×D).1,d)else (k,v)).1=k:=by split<;>rfl
  generalize (if ((k,v):Key×D).1= .inr z then (((k,v):Key×D).1,d)else (k,v))=p at e
  obtain⟨k',v'⟩:=p
  cases e
  rcases k' with i|y
  ·rfl
  ·exact congrArg (Xf (y :: ·)) ih
theorem cP7(z:Str)(d:D):∀(l:List (Key×D)) (ss:List Str),J5 l=some ss->J5 (l++[(.inr z,d)])=some (ss++[z])
 |[],ss,h=>by cases h;rfl
 |(.inl i,v)::r,ss,h=>by exact J4 h
 |(.inr y,v)::r,ss,h=>by
  replace h:(J5 r).map (y :: ·)=some ss:=h
  rcases hr:J5 r with _|t
  ·rw[hr]at h;exact J4 h
  ·
    rw[hr]at h
    cases h
    exact congrArg (Xf (y :: ·)) (cP7 z d r t hr)
noncomputable def NS(P:Str->Prop)(ss:List Str):Prop:=(∀z∈ss,P z)/\ss.Nodup
theorem cR0(z:Str):∀(l:List (Key×D)) (ss:List Str),J5 l=some ss->z∈ss->(l.any λkv=>decide (kv.1= .inr z))=true
 |[],ss,h,hz=>by cases h;cases hz
 |(.inl i,v)::r,ss,h,hz=>by exact J4 h
 |(.inr y,v)::r,ss,h,hz=>by
  replace h:(J5 r).map (y :: ·)=some ss:=h
  rcases hr:J5 r with _|t
  ·rw[hr]at h;exact J4 h
  ·
    rw[hr]at h
    cases h
    rw[jq,yS]
    rcases zi.mp hz with rfl|hz
    ·exact .inl (by simp)
    ·exact .inr (cR0 z r t hr hz)
theorem cQ7{l:List (Key×D)}{ss:List Str}{z:Str}{d:D}{P:Str->Prop}(h:J5 l=some ss)(hn:NS P ss)(hz:P z):∃ss',J5 (bS9 l (.inr z) d)=some ss'/\ss'.length<=ss.length+1/\NS P ss':=by
 unfold bS9
 split
 ·exact⟨ss,by rw[cU5];exact h,by lia,hn⟩
 · rename_i c
   refine⟨ss++[z],cP7 z d l ss h,by simp,λx hx=>?_,?_⟩
   · rcases zG.mp hx with hx|hx
     ·exact hn.1 x hx
     ·rw[zq.mp hx];exact hz
   · refine List.nodup_append.mpr ⟨hn.2,by simp,λa ha b hb=>?_⟩
     rw[zq]at hb
     subst hb
     intro e
     subst e
     exact c (cR0 _ l ss h ha)
theorem dH1{r:Nat}{l:List (Key×D)}{z:Str}{d:D}{G:DH}{R:Unit->DH->Prop}(h:G[r]? =some (.dct l))(hl:l.length<zh):Wp (dB0 (.ref r) (.str z) d) G R↔R () (G.set r (.dct (bS9 l (.inr z) d))):=by
 unfold dB0
 simp only[m8,U7,h,R9,dO2,if_pos hl,bO0]
theorem bM1{l:List (Key×D)}{ss:List Str}(h:J5 l=some ss):l.length=ss.length:=(bA5 h).symm
noncomputable def LtS(a b:Str):Prop:=a.cps.toList<b.cps.toList
theorem dG8{ss:List Str}(h:ss.Nodup):(aE3 ss).Pairwise LtS:=by
 have h1:(aE3 ss).Pairwise λa b=>leS a b=true:=YL bO8 cF2 ss
 have h2:(aE3 ss).Nodup:=(yr ss leS).nodup_iff.mpr h
 refine(JF h1 h2).imp λ{a b} q=>?_
 refine yF λn=>q.2 (bL4 q.1 ?_)
 show (!decide (a.cps.toList<b.cps.toList))=true
 rw[decide_eq_false (show ¬a.cps.toList<b.cps.toList from n)];rfl
theorem fT1:aM5=j0 (K3 (aK8) (q16 1)) (j0 (aS1 (aG0 (q13 (q15 (fnX 2 d8) (q13 (c7 0) (q13 (d7 ixD (M6 (q13 (cE (.int 4)) (q13 (cE (.int 9)) q14))) (q15 (fnX 2 d8) (q13 (c7 0) (q13 (cE (.int 2)) q14)))) q14))) q14)) (q16 2) NB) (t8 (q15 aK4 (q13 (c7 1) q14)))):=rfl
theorem fO2{r p:Nat}{u v:Option D}{l:List (Key×D)}{ss:List Str}{G:DH}(hp:p≠r)(h:M8 G r)(e:G[p]? =some (.dct l))(hk:J5 l=some ss)(hl:ss.length<=60)(hz:NS NM ss):
 Wp (NB [some (.ref r),some (.ref p),u,v]) G λfl G'=>Fr2 r p G G'/\∃v' l' ss',fl= .nx [some (.ref r),some (.ref p),u,v']/\G'[p]? =some (.dct l')/\J5 l'=some ss'/\ss'.length<=ss.length+1/\NS NM ss':=by
 have bg:=big
 have next:∀(z:Str) (G3:DH),NM z->Fr r G G3->Wp (K3 (cE (.bl true)) (bT6 (c7 1) (c7 3)) [some (.ref r),some (.ref p),u,some (.str z)]) G3 λfl G'=>Fr2 r p G G'/\∃v' l' ss',fl= .nx [some (.ref r),some (.ref p),u,v']/\G'[p]? =some (.dct l')/\J5 l'=some ss'/\ss'.length<=ss.length+1/\NS NM ss':=by
  intro z G3 hzl f3
  have e3:=f3.at hp e
  obtain⟨ss',k1,k2,k3⟩:=cQ7 (z:=z) (d:=.bl true) hk hz hzl
  have f4:Fr2 r p G3 (G3.set p (.dct (bS9 l (.inr z) (.bl true)))):=Fr2.set hp f3.2.2
  exact aW6.mpr<| d9 (a:=.bl true) rfl<| cY5.mpr<| d9 (a:=.ref p) rfl<| d9 (a:=.str z) rfl<| (dH1 e3 (by rw[bM1 hk];lia)).mpr ⟨f3.two.trans f4,_,_,ss',rfl,zF (lt_of_get e3),k1,k2,k3⟩
 refine m9.mpr<| S7<| aZ7 rfl (by decide) (by decide)<| d9 (a:= [.str "a",.str "b",.str "ab",.str "ba",.str "abc",.str "z",.str "zz",.str "zzzzzzzz"]) (G':=G) rfl ⟨sz,h,rfl,λx hx G1 f1=>?_⟩
 have hx':∃z:Str,x= .str z/\NM z:=by
  simp only[zi,zu,or_false]at hx
  rcases hx with rfl|rfl|rfl|rfl|rfl|rfl|rfl|rfl<;>exact⟨_,rfl,⟨rfl,by decide⟩,by decide⟩
 obtain⟨z0,rfl,hz0⟩:=hx'
 refine m9.mpr<| aH1<| R7<| w6<| v9 (as:= [.ref r,.int 3]) rfl rfl<| V7 f1.2.2 ⟨by decide,by decide⟩ λk hk0 hk1 G2 f2=>d9 (a:=.int 1) rfl<| V0.mpr ⟨_,rfl,λ_=>?_,λ_=>J1.mpr (next z0 G2 hz0 (f1.trans f2))⟩
 refine S7<| v9 (as:= [.ref r,.int 1,.int 8]) rfl rfl<| (bX6 f2.2.2 (by decide) (by decide) (by decide)).mono ?_
 rintro _ G3 ⟨z,rfl,hz3,f3,ht3,hl3⟩
 exact next z G3 ⟨⟨ht3,by lia⟩,by lia⟩ (f1.trans (f2.trans f3))
theorem dD0{r p:Nat}(hp:p≠r):∀(items:List D) (u v:Option D) (l:List (Key×D)) (ss:List Str) (G:DH),M8 G r->G[p]? =some (.dct l)->J5 l=some ss->ss.length+items.length<=60->NS NM ss->
 Wp (aL0 (q16 2) NB (λ_=>true) items [some (.ref r),some (.ref p),u,v]) G λfl G'=>Fr2 r p G G'/\∃u' v' l' ss',fl= .nx [some (.ref r),some (.ref p),u',v']/\G'[p]? =some (.dct l')/\J5 l'=some ss'/\ss'.length<=ss.length+items.length/\NS NM ss'
 |[],u,v,l,ss,G,h,e,hk,hl,hz=>by
   rw[aM4]
   exact⟨rfl,(Fr.refl h).two,u,v,l,ss,rfl,e,hk,by simp,hz⟩
 |d::t,u,v,l,ss,G,h,e,hk,hl,hz=>by
   simp only[zp]at hl
   rw[aM3,Q5]
   refine⟨rfl,(fO2 (u:=some d) (v:=v) hp h e hk (by lia) hz).mono ?_⟩
   rintro _ G1 ⟨f1,v1,l1,ss1,rfl,q2,q3,q4,q5⟩
   refine(dD0 hp t (some d) v1 l1 ss1 G1 f1.2.2 q2 q3 (by lia) q5).mono ?_
   rintro _ G2 ⟨f2,u',v',l',ss',p1,p2,p3,p4,p5⟩
   exact⟨f1.trans f2,u',v',l',ss',p1,p2,p3,by simp only[zp];lia,p5⟩
theorem dX3{r:Nat}{G:DH}(h:M8 G r):Wp (aA5 [.ref r]) G λx G'=>∃(q:Nat) (ss:List Str),x= .ref q/\q≠r/\G'[q]? =some (.lst (ss.map D.str))/\ss.length<=8/\NS NM ss/\ss.Pairwise LtS/\Fr r G G':=by
 have fd:Fr r G (G++[DO.dct []]):=Fr.app h
 have hp:G.length≠r:=by have:=h.lt;lia
 refine T4 (show Wp (aM5 [some (.ref r),none,none,none]) G _ from ?_)
 rw[fT1]
 refine K9 (X1:= [some (.ref r),some (.ref G.length),none,none]) (G':=G++[.dct []]) rfl<| m9.mpr<| aL7.mpr<| dO5.mpr<| v8<| aF5<| J6 (x:=.ref r) rfl<| v8<| aZ7 rfl (by decide) (by decide)<| d9 (a:= [.int 4,.int 9]) (G':=G++[.dct []]) rfl ⟨sz,fd.2.2,rfl,λd hd G1 f1=>?_⟩
 have hd':∃i:Int,d= .int i/\0<i/\i<=9:=by
  simp only[zi,zu,or_false]at hd
  rcases hd with rfl|rfl
  ·exact⟨4,rfl,by decide,by decide⟩
  ·exact⟨9,rfl,by decide,by decide⟩
 obtain⟨i,rfl,hi1,hi2⟩:=hd'
 refine o9.mpr<| aL2.mpr ⟨rfl,V7 f1.2.2 ⟨hi1,by lia⟩ λk hk0 hk1 G2 f2=>o9.mpr<| (aT2 ⟨by lia,by lia⟩).mpr ?_⟩
 have f12:=f1.trans f2
 have e2:G2[G.length]? =some (.dct []):=f12.at hp o5
 have hlen:(K6 0 k.toNat).length=k.toNat:=by unfold K6;rw[zo,jy]
 refine(dD0 hp (K6 0 k.toNat) none none [] [] G2 f2.2.2 e2 rfl (by rw[hlen];simp;lia) ⟨(λz hz=>by cases hz),Yq⟩).mono ?_
 rintro _ G3 ⟨f3,u',v',l',ss',rfl,q2,q3,q4,q5⟩
 rw[hlen]at q4
 simp only[jk]at q4
 refine U5<| aI3 (as:= [.ref G.length]) rfl<| (dN7 q2 q3 (by lia)).mpr ?_
 have hperm:(aE3 ss').Perm ss':=yr ss' leS
 have hr3:=f3.2.2.lt
 refine R6 ⟨G3.length,aE3 ss',rfl,by lia,o5,by rw[hperm.length_eq];lia,⟨λz hz=>q5.1 z (hperm.mem_iff.mp hz),hperm.nodup_iff.mpr q5.2⟩,dG8 q5.2,?_⟩
 have f02:=fd.trans f12
 refine Fr.trans ⟨zv f02.1 f3.1,λj hj hl=>?_,f3.2.2⟩ (Fr.app f3.2.2)
 have h02:=f02.1
 have hfd:=fd.1
 rw[f3.2.1 j hj (by lia) (by lia),f02.2.1 j hj hl]
theorem gD4:aD4=j0 (K3 (q15 dL0 (q13 (d7 bB6 (d7 dA9 (cE (.int 10)) (cE (.int 18))) (cE (.int 1000))) (q13 (q15 (fnX 1 W5) (q13 (c7 0) q14)) q14))) (q16 2)) (j0 (K3 (M6 q14) (q16 3)) (j0 (aS1 (aG0 (q13 (q15 (fnX 2 d8) (q13 (c7 0) (q13 (d7 Q3 (c7 1) (cE (.int 1))) q14))) q14)) (q16 4) SA) (j0 SC (j0 SD (t8 (q15 aL8 (q13 (c7 3) q14))))))):=rfl
def sts(ns:List (D×D)):List D:=ns.map stD
noncomputable def Clr(p q:D×D):Prop:=∃a b:Int,p.2= .int a/\q.1= .int b/\a+1<b
def StP(ns:List (D×D)):Prop:=(∀p∈ns,cA7 p)/\ns.Pairwise Clr
noncomputable def Up(lo:Int)(ns:List (D×D)):Prop:=∀p∈ns,∃a:Int,p.2= .int a/\a<=lo
theorem fV9{r p:Nat}{lo:Int}{n u5 u4:Option D}{ns:List (D×D)}{G:DH}(hp:p≠r)(h:M8 G r)(e:G[p]? =some (.lst (sts ns)))(hn:StP ns)(hu:Up lo ns)(hl:ns.length<=50):
 Wp (SA [some (.ref r),n,some (.int lo),some (.ref p),u4,u5]) G λfl G'=>Fr2 r p G G'/\∃lo' u5' ns',fl= .nx [some (.ref r),n,some (.int lo'),some (.ref p),u4,u5']/\G'[p]? =some (.lst (sts ns'))/\StP ns'/\Up lo' ns'/\ns'.length<=ns.length+1:=by
 have bg:=big
 refine m9.mpr<| S7<| w6<| d9 (a:=.int (lo+2)) rfl<| aF5<| J6 (x:=.ref r) rfl<| v8<| aZ7 rfl (by decide) (by decide)<| d9 (a:= [.int 3,.int 50]) (G':=G) rfl ⟨sz,h,rfl,λd hd G1 f1=>?_⟩
 have hd':∃i:Int,d= .int i/\0<i/\i<=50:=by
  simp only[zi,zu,or_false]at hd
  rcases hd with rfl|rfl
  ·exact⟨3,rfl,by decide,by decide⟩
  ·exact⟨50,rfl,by decide,by decide⟩
 obtain⟨i,rfl,hi1,hi2⟩:=hd'
 refine o9.mpr<| aL2.mpr ⟨rfl,V7 f1.2.2 ⟨hi1,by lia⟩ λk hk0 hk1 G2 f2=>aQ3.mpr ?_⟩
 refine m9.mpr<| S7<| w6<| d9 (a:=.int (lo+2+k)) rfl<| aZ7 rfl (by decide) (by decide)<| J6 (x:=.int 0) rfl<| J6 (x:=.int 1) rfl<| v8<| v9 (as:= [.ref r,.int 20]) rfl rfl<| V7 f2.2.2 ⟨by decide,by decide⟩ λj hj0 hj1 G3 f3=>o9.mpr ⟨sz,f3.2.2,rfl,λd hd G4 f4=>?_⟩
 have hd':∃w:Int,d= .int w/\0<=w/\w<=20:=by
  simp only[zi,zu,or_false]at hd
  rcases hd with rfl|rfl|rfl
  ·exact⟨0,rfl,by decide,by decide⟩
  ·exact⟨1,rfl,by decide,by decide⟩
  ·exact⟨j,rfl,by omega,by lia⟩
 obtain⟨w,rfl,hw1,hw2⟩:=hd'
 have f04:=((f1.trans f2).trans f3).trans f4
 have e4:=f04.at hp e
 refine aQ3.mpr<| m9.mpr<| aM6.mpr<| aT5.mpr<| d9 (a:=.ref p) rfl<| (T3 e4).mpr<| d9 (a:= [.tup [.int (lo+2+k),.int (lo+2+k+w)]]) rfl<| (aP7 e4 (by unfold sts;rw[zo];lia)).mpr<| d9 rfl ?_
 refine⟨f04.two.trans (Fr2.set hp f4.2.2),_,_,ns++[(.int (lo+2+k),.int (lo+2+k+w))],rfl,?_,⟨λq hq=>?_,?_⟩,λq hq=>?_,by simp⟩
 · rw[zF (lt_of_get e4)]
   unfold sts
   rw[jo];rfl
 · rcases zG.mp hq with hq|hq
   ·exact hn.1 q hq
   · rw[zq]at hq
     subst hq
     exact⟨trivial,trivial,trivial⟩
 · refine xm.mpr ⟨hn.2,yV _ _,λx hx y hy=>?_⟩
   rw[zq]at hy
   subst hy
   obtain⟨a,ea,ha⟩:=hu x hx
   exact⟨a,_,ea,rfl,by lia⟩
 · rcases zG.mp hq with hq|hq
   · obtain⟨a,ea,ha⟩:=hu q hq
     exact⟨a,ea,by lia⟩
   · rw[zq]at hq
     subst hq
     exact⟨_,rfl,Int.le_refl _⟩
theorem dF5{r p:Nat}{n:Option D}(hp:p≠r):∀(items:List D) (lo:Int) (u4 u5:Option D) (ns:List (D×D)) (G:DH),M8 G r->G[p]? =some (.lst (sts ns))->StP ns->Up lo ns->ns.length+items.length<=50->
 Wp (aL0 (q16 4) SA (λ_=>true) items [some (.ref r),n,some (.int lo),some (.ref p),u4,u5]) G λfl G'=>Fr2 r p G G'/\∃lo' u4' u5' ns',fl= .nx [some (.ref r),n,some (.int lo'),some (.ref p),u4',u5']/\G'[p]? =some (.lst (sts ns'))/\StP ns'/\ns'.length<=ns.length+items.length
 |[],lo,u4,u5,ns,G,h,e,hn,hu,hl=>by
   rw[aM4]
   exact⟨rfl,(Fr.refl h).two,lo,u4,u5,ns,rfl,e,hn,by simp⟩
 |d::t,lo,u4,u5,ns,G,h,e,hn,hu,hl=>by
   simp only[zp]at hl
   rw[aM3,Q5]
   refine⟨rfl,(fV9 hp h e hn hu (by lia)).mono ?_⟩
   rintro _ G1 ⟨f1,lo1,v1,ns1,rfl,q2,q3,q3',q4⟩
   refine(dF5 hp t lo1 _ v1 ns1 G1 f1.2.2 q2 q3 q3' (by lia)).mono ?_
   rintro _ G2 ⟨f2,a1,a2,a3,a4,p1,p2,p3,p4⟩
   exact⟨f1.trans f2,a1,a2,a3,a4,p1,p2,p3,by simp only[zp];lia⟩
theorem eV1{p:Nat}{ns:List (D×D)}{G:DH}{Q:DPP}(e:G[p]? =some (.lst (sts ns))):Wp (neD (.ref p) (.ref G.length)) (G++[.lst []]) Q↔Q (.bl (!ns.isEmpty)) (G++[.lst []]):=by
 rw[cX4 (R4 e) o5]
 unfold sts
 rw[List.isEmpty_map]
theorem dJ9{q:D×D}{t:List (D×D)}:atI (sts (q::t)) 0=some (stD q):=atI_nat (k:=0) rfl
theorem fW8{r p:Nat}{n a u4 u5:Option D}{ns:List (D×D)}{G:DH}(hp:p≠r)(h:M8 G r)(e:G[p]? =some (.lst (sts ns)))(hn:StP ns):
 Wp (SC [some (.ref r),n,a,some (.ref p),u4,u5]) G λfl G'=>Fr2 r p G G'/\∃ns',fl= .nx [some (.ref r),n,a,some (.ref p),u4,u5]/\G'[p]? =some (.lst (sts ns'))/\StP ns'/\ns'.length=ns.length:=by
 have f1:Fr r G (G++[.lst []]):=Fr.app h
 refine aH1<| cG3<| R7<| w6<| d9 (a:=.ref p) rfl<| aI8.mpr<| o9.mpr ⟨sz,(eV1 e).mpr ⟨_,rfl,λg=>?_,λg=>⟨λz=>(nomatch z),λ_=>J1.mpr ⟨f1.two,ns,rfl,R4 e,hn,rfl⟩⟩⟩⟩
 rcases ns with _|⟨q,t⟩
 ·cases g
 ·
   refine R7<| w6<| v9 (as:= [.ref r,.int 3]) rfl rfl<| V7 f1.2.2 ⟨by decide,by decide⟩ λk hk0 hk1 G2 f2=>d9 (a:=.int 1) rfl<| V0.mpr ?_
   have f02:=f1.trans f2
   have e2:=f02.at hp e
   refine⟨_,rfl,λ_=>?_,λ_=>J1.mpr ⟨f02.two,q::t,rfl,e2,hn,rfl⟩⟩
   refine aW6.mpr<| aB7.mpr<| J6 (x:=.non) rfl<| v8<| w6<| ixv (G1:=G2) rfl rfl e2 dJ9<| d9 (a:=D.int 1) (G':=G2) rfl<| (ix_tup (l:= [q.1,q.2]) (i:=1)).mpr ⟨q.2,rfl,o9.mpr ⟨sz,eA0 (k:=0) (j:=0) rfl rfl e2 ?_ ?_⟩⟩
   ·unfold ixN;rw[if_pos (by lia),if_pos (by simp[sts])];rfl
   · refine⟨f02.two.trans (Fr2.set hp f2.2.2),(.non,q.2)::t,rfl,zF (lt_of_get e2),⟨λx hx=>?_,?_⟩,rfl⟩
     · rcases zi.mp hx with rfl|hx
       ·exact⟨trivial,(hn.1 q (by simp)).2.1,trivial⟩
       ·exact hn.1 x (by simp[hx])
     · have hp:=yg.mp hn.2
       exact yg.mpr ⟨λy hy=>hp.1 y hy,hp.2⟩
theorem eA3{ns:List (D×D)}(h:ns≠ []):∃(t:List (D×D)) (q:D×D),ns=t++[q]:=⟨ns.dropLast,ns.getLast h,(xq h).symm⟩
theorem cS5{l:List D}{x:D}:ixN (l++[x]).length (-1)=some l.length:=by
 unfold ixN
 rw[if_neg (by lia),if_pos (by simp;lia)]
 congr 1
 simp;lia
theorem atI_last{l:List D}{x:D}:atI (l++[x]) (-1)=some x:=by
 unfold atI
 rw[cS5]
 simp
theorem fY8{r p:Nat}{n a u4 u5:Option D}{ns:List (D×D)}{G:DH}(hp:p≠r)(h:M8 G r)(e:G[p]? =some (.lst (sts ns)))(hn:StP ns):
 Wp (SD [some (.ref r),n,a,some (.ref p),u4,u5]) G λfl G'=>Fr2 r p G G'/\∃ns',fl= .nx [some (.ref r),n,a,some (.ref p),u4,u5]/\G'[p]? =some (.lst (sts ns'))/\StP ns'/\ns'.length=ns.length:=by
 have f1:Fr r G (G++[.lst []]):=Fr.app h
 refine aH1<| cG3<| R7<| w6<| d9 (a:=.ref p) rfl<| aI8.mpr<| o9.mpr ⟨sz,(eV1 e).mpr ⟨_,rfl,λg=>?_,λg=>⟨λz=>(nomatch z),λ_=>J1.mpr ⟨f1.two,ns,rfl,R4 e,hn,rfl⟩⟩⟩⟩
 have hne:ns≠ []:=by rintro rfl;cases g
 clear g
 obtain⟨t,q,rfl⟩:=eA3 hne
 refine R7<| w6<| v9 (as:= [.ref r,.int 3]) rfl rfl<| V7 f1.2.2 ⟨by decide,by decide⟩ λk hk0 hk1 G2 f2=>d9 (a:=.int 1) rfl<| V0.mpr ?_
 have f02:=f1.trans f2
 have e2:=f02.at hp e
 refine⟨_,rfl,λ_=>?_,λ_=>J1.mpr ⟨f02.two,t++[q],rfl,e2,hn,rfl⟩⟩
 have es:sts (t++[q])=sts t++[stD q]:=by unfold sts;rw[jo];rfl
 rw[es]at e2
 refine aW6.mpr<| aB7.mpr<| v8<| w6<| ixv (G1:=G2) rfl rfl e2 atI_last<| d9 (a:=D.int 0) (G':=G2) rfl<| (ix_tup (l:= [q.1,q.2]) (i:=0)).mpr ⟨q.1,rfl,d9 (a:= [D.non]) rfl ⟨sz,eA0 (k:= -1) rfl rfl e2 cS5 ?_⟩⟩
 refine⟨f02.two.trans (Fr2.set hp f2.2.2),t++[(q.1,.non)],rfl,?_,⟨λx hx=>?_,?_⟩,by simp⟩
 · rw[zF (lt_of_get e2)]
   have:(sts t++[stD q]).set (sts t).length (.tup [q.1,.non])=sts (t++[(q.1,.non)]):=by
    unfold sts
    rw[jo,YY _ _ (zd _),Nat.sub_self];rfl
   exact congrArg (λl=>some (DO.lst l)) this
 · rcases zG.mp hx with hx|hx
   ·exact hn.1 x (by simp[hx])
   · rw[zq]at hx
     subst hx
     exact⟨(hn.1 q (by simp)).1,trivial,trivial⟩
 · have hp:=xm.mp hn.2
   refine xm.mpr ⟨hp.1,yV _ _,λx hx y hy=>?_⟩
   rw[zq]at hy
   subst hy
   exact hp.2.2 x hx q (by simp)
theorem Fr2.back{r p:Nat}{G0 G G':DH}(h:Fr2 r p G G')(k:Fr r G0 G)(hp:G0.length<=p):Fr r G0 G':=⟨zv k.1 h.1,λi hi hl=>by rw[h.2.1 i hi (by lia) (by have:=k.1;lia),k.2.1 i hi hl],h.2.2⟩
theorem cV9{r:Nat}{G:DH}(h:M8 G r):Wp (Q4 [.ref r,.int 3]) G λx G'=>∃ns,x= .tup (sts ns)/\StP ns/\ns.length<=10/\Fr r G G':=by
 refine T4 (show Wp (aD4 [some (.ref r),some (.int 3),none,none,none,none]) G _ from ?_)
 rw[gD4]
 refine m9.mpr<| S7<| aF5<| J6 (x:=.int (1000000000000000000-1000)) rfl<| v8<| v9 (as:= [.ref r]) rfl rfl<| dV9 h λk hk0 hk1 G1 f1=>o9.mpr<| eJ7.mpr ?_
 have f2:Fr r G1 (G1++[.lst []]):=Fr.app f1.2.2
 have hp:G1.length≠r:=by have:=f1.2.2.lt;lia
 refine K9 (G':=G1++[.lst []]) rfl<| m9.mpr<| aL7.mpr<| dO5.mpr<| v8<| v9 (as:= [.ref r,.int 4]) rfl rfl<| V7 f2.2.2 ⟨by decide,by decide⟩ λm hm0 hm1 G2 f3=>o9.mpr<| (aT2 ⟨by lia,by lia⟩).mpr ?_
 have e2:G2[G1.length]? =some (.lst (sts [])):=f3.at hp o5
 have hlen:(K6 0 m.toNat).length=m.toNat:=by unfold K6;rw[zo,jy]
 refine(dF5 hp (K6 0 m.toNat) _ none none [] G2 f3.2.2 e2 ⟨(λp hp=>by cases hp),.nil⟩ (λp hp=>by cases hp) (by rw[hlen];simp;lia)).mono ?_
 rintro _ G3 ⟨f4,lo',v4,v5,ns1,rfl,q2,q3,q4⟩
 refine m9.mpr<| (fW8 hp f4.2.2 q2 q3).mono ?_
 rintro _ G4 ⟨f5,ns2,rfl,q6,q7,q8⟩
 refine m9.mpr<| (fY8 hp f5.2.2 q6 q7).mono ?_
 rintro _ G5 ⟨f6,ns3,rfl,q10,q11,q12⟩
 have fb:=((f4.trans f5).trans f6).back (f2.trans f3) (p:=G1.length) (zd _)
 exact U5<| aI3 (as:= [.ref G1.length]) rfl<| (aU2 q10).mpr<| R6 ⟨ns3,rfl,q11,by rw[hlen]at q4;simp only[jk]at q4;lia,f1.trans fb⟩
theorem gE2{a b:List D}{G:DH}{Q:DPP}(h:a.length+b.length<=zh):Wp (Q3 (.tup a) (.tup b)) G Q↔Q (.tup (a++b)) G:=by
 have e:Q3 (.tup a) (.tup b)= (if a.length+b.length<=zh then pure (.tup (a++b))else M.stuck:M D):=rfl
 rw[e,if_pos h,m6]
theorem dX8(n:Nat):K6 0 n= (jB n).map λi:Nat=>D.int (i:Int):=by
 unfold K6
 refine List.map_congr_left λi _=>?_
 simp
theorem cF3:∀ {l:List (Key×D)} {ss:List Str},J5 l=some ss->bE7 l=ss.map D.str
 |[],ss,h=>by cases h;rfl
 |(.inl i,v)::r,ss,h=>by exact J4 h
 |(.inr x,v)::r,ss,h=>by
  unfold J5 at h
  cases hr:J5 r with
  |none=>rw[hr]at h;exact J4 h
  |some ts=>
    rw[hr]at h
    cases h
    have ih:=cF3 hr
    unfold bE7 at ih ⊢
    rw[zS,ih]
    rfl
theorem cU9:∀ss:List Str,aL1 (ss.map D.str)=some ss
 |[]=>rfl
 |z::r=>by show (aL1 (r.map D.str)).map (z :: ·)=_;rw[cU9 r];rfl
noncomputable def Dk(G:DH)(p:Nat)(l:List (Key×D)):Prop:=G[p]? =some (.dct l)\/G[p]? =some (.rod l)
theorem eI6{r p:Nat}{l:List (Key×D)}{G:DH}{R:Src->DH->Prop}(hp:p≠r)(h:M8 G r)(e:Dk G p l)(q:∀G1,Dk G1 p l->Fr2 r p G G1->R ⟨bE7 l,λ_=>true⟩ G1):Wp (bP4 (.ref p)) G R:=by
 rcases e with e|e
 · rw[dY0 e]
   exact q _ (.inr (by rw[zF (lt_of_get e)])) (Fr2.set hp h)
 · rw[dS5 e]
   exact q _ (.inr e) (Fr.refl h).two
theorem Dk.app{G:DH}{p:Nat}{l:List (Key×D)}{t:DH}(h:Dk G p l):Dk (G++t) p l:=by
 rcases h with h|h
 ·exact .inl (R4 h)
 ·exact .inr (R4 h)
theorem Dk.lt{G:DH}{p:Nat}{l:List (Key×D)}(h:Dk G p l):p<G.length:=by
 rcases h with h|h<;>exact lt_of_get h
theorem fZ4:aW3=j0 (K3 (aK8) (q16 2)) (j0 (aS1 (aG0 (q13 (q15 (fnX 2 d8) (q13 (c7 0) (q13 (d7 Q3 (c7 1) (cE (.int 1))) q14))) q14)) (q16 3) WA) (j0 (K3 (M6 q14) (q16 4)) (j0 (aS1 (aG0 (q13 (cE (.int 21)) q14)) (q16 5) WB) (t8 (v7 (q13 (d7 ixD (M6 (q13 (cE (.str ("of" :Str))) (q13 (cE (.str ("but" :Str))) q14))) (q15 (fnX 2 d8) (q13 (c7 0) (q13 (cE (.int 2)) q14)))) (q13 (q15 aL8 (q13 (c7 4) q14)) q14))))))):=rfl
def gC2(a b:Str):Prop:=a.length<b.length\/(a.length=b.length/\LtS a b)
def cY8(xs:List Str):Prop:=(∀z∈xs,TX z)/\xs.Pairwise gC2
theorem fY4{r p:Nat}{n u v w:Option D}{l:List (Key×D)}{ss:List Str}{G:DH}(hp:p≠r)(h:M8 G r)(e:G[p]? =some (.dct l))(hk:J5 l=some ss)(hl:ss.length<=60)(hz:NS TX ss):
 Wp (WA [some (.ref r),n,some (.ref p),u,v,w]) G λfl G'=>Fr2 r p G G'/\∃l' ss',fl= .nx [some (.ref r),n,some (.ref p),u,v,w]/\G'[p]? =some (.dct l')/\J5 l'=some ss'/\ss'.length<=ss.length+1/\NS TX ss':=by
 have bg:=big
 refine aW6.mpr<| d9 (a:=.bl true) rfl<| cY5.mpr<| d9 (a:=.ref p) rfl<| v9 (as:= [.ref r]) rfl rfl<| (eO0 h).mono ?_
 rintro _ G3 ⟨z,rfl,hzl,f3⟩
 have e3:=f3.at hp e
 obtain⟨ss',k1,k2,k3⟩:=cQ7 (z:=z) (d:=.bl true) hk hz hzl
 exact(dH1 e3 (by rw[bM1 hk];lia)).mpr ⟨f3.two.trans (Fr2.set hp f3.2.2),_,ss',rfl,zF (lt_of_get e3),k1,k2,k3⟩
theorem dC8{r p:Nat}{n v w:Option D}(hp:p≠r):∀(items:List D) (u:Option D) (l:List (Key×D)) (ss:List Str) (G:DH),M8 G r->G[p]? =some (.dct l)->J5 l=some ss->ss.length+items.length<=60->NS TX ss->
 Wp (aL0 (q16 3) WA (λ_=>true) items [some (.ref r),n,some (.ref p),u,v,w]) G λfl G'=>Fr2 r p G G'/\∃u' l' ss',fl= .nx [some (.ref r),n,some (.ref p),u',v,w]/\G'[p]? =some (.dct l')/\J5 l'=some ss'/\ss'.length<=ss.length+items.length/\NS TX ss'
 |[],u,l,ss,G,h,e,hk,hl,hz=>by
   rw[aM4]
   exact⟨rfl,(Fr.refl h).two,u,l,ss,rfl,e,hk,by simp,hz⟩
 |d::t,u,l,ss,G,h,e,hk,hl,hz=>by
   simp only[zp]at hl
   rw[aM3,Q5]
   refine⟨rfl,(fY4 (u:=some d) hp h e hk (by lia) hz).mono ?_⟩
   rintro _ G1 ⟨f1,l1,ss1,rfl,q2,q3,q4,q5⟩
   refine(dC8 hp t (some d) l1 ss1 G1 f1.2.2 q2 q3 (by lia) q5).mono ?_
   rintro _ G2 ⟨f2,u',l',ss',p1,p2,p3,p4,p5⟩
   exact⟨f1.trans f2,u',l',ss',p1,p2,p3,by simp only[zp];lia,p5⟩
theorem fW9{r p q:Nat}{n u:Option D}{k:Int}{l:List (Key×D)}{ks xs:List Str}{G:DH}(hp:p≠r)(h:M8 G r)(e:Dk G p l)(mk:J5 l=some ks)(hl:ks.length<=4)(hz:NS TX ks)(hq:q≠r/\q≠p)(eq:G[q]? =some (.lst (xs.map D.str)))(hx:cY8 xs)(hk:∀z∈xs,(z.length:Int)<k)(hxl:xs.length<=1000):
 Wp (WB [some (.ref r),n,some (.ref p),u,some (.ref q),some (.int k)]) G λfl G'=>Fr2 r p G G'/\Dk G' p l/\∃(q':Nat) (xs':List Str),fl= .nx [some (.ref r),n,some (.ref p),u,some (.ref q'),some (.int k)]/\(q'≠r/\q'≠p)/\G'[q']? =some (.lst (xs'.map D.str))/\cY8 xs'/\(∀z∈xs',(z.length:Int)<=k)/\xs'.length<=xs.length+4:=by
 have bg:=big
 refine S7<| w6<| d9 (a:=.ref q) rfl<| aF5<| v8<| wp_comp.mpr<| wp_itW.mpr<| d9 (a:=.ref p) rfl<| eI6 hp h e λG1 d1 f1=>?_
 have eq1:G1[q]? =some (.lst (xs.map D.str)):=by rw[f1.2.1 q hq.1 hq.2 (lt_of_get eq)];exact eq
 rw[cF3 mk]
 refine⟨by show (ks.map D.str).length<=_;rw[zo];lia,?_⟩
 have hc:Q8 (q16 0) (o8 (d7 eqD (q15 W8 (q13 (c7 0) q14)) (c7 1))) (c7 0) (λ_=>true) (ks.map D.str) (Z6 [none,some 5] [some (.ref r),n,some (.ref p),u,some (.ref q),some (.int k)]) G1=some (.ok ((ks.map D.str).filter λx=>match x with| .str z=>decide ((z.length:Int)=k)|_=>false),G1):=by
  refine bA0 rfl (λO=>∃u,O= [u,some (.int k)]) _ _ ⟨none,rfl⟩ λx hx O WM=>?_
  obtain⟨z,hzm,rfl⟩:=zw.mp hx
  obtain⟨u,rfl⟩:=WM
  have hz1:=(hz.1 z hzm).2
  refine⟨[some (.str z),some (.int k)],rfl,⟨_,rfl⟩,aA3 ?_,rfl⟩
  exact R7<| w6<| aI3 (as:= [.str z]) rfl<| (bH8 (show z.length<=zh by lia)).mpr<| d9 (a:=.int k) rfl<| V0.mpr ⟨_,rfl,rfl,rfl⟩
 refine d9 hc ?_
 have ef:((ks.map D.str).filter λx=>match x with| .str z=>decide ((z.length:Int)=k)|_=>false)= (ks.filter λz=>decide ((z.length:Int)=k)).map D.str:=by
  rw[Jf]
  rfl
 rw[ef]
 have hle:(ks.filter λz=>decide ((z.length:Int)=k)).length<=ks.length:=List.length_filter_le _ _
 have hmm:∀z∈(ks.filter λz=>decide ((z.length:Int)=k)),TX z/\(z.length:Int)=k:=λz hz'=>⟨hz.1 z (xo.mp hz').1,of_decide_eq_true (xo.mp hz').2⟩
 have hnd:(ks.filter λz=>decide ((z.length:Int)=k)).Nodup:=hz.2.filter _
 generalize (ks.filter λz=>decide ((z.length:Int)=k))=ts at hle hmm hnd ⊢
 refine o9.mpr<| (dM9 o5 (cU9 ts) (by lia)).mpr ?_
 have hperm:(aE3 ts).Perm ts:=yr ts leS
 have hlen:=hperm.length_eq
 rw[bI8 (R4 (R4 eq1)) o5 (by rw[zo,zo];lia),<-jo]
 have h1:=d1.lt
 have h2:=f1.2.2.lt
 have f2:Fr r G1 (G1++[DO.lst (ts.map D.str)]++[DO.lst ((aE3 ts).map D.str)]++[DO.lst ((xs++aE3 ts).map D.str)]):=by rw[zZ,zZ];exact Fr.app f1.2.2
 refine⟨f1.trans f2.two,d1.app.app.app,_,xs++aE3 ts,rfl,⟨by simp only[zx];lia,by simp only[zx];lia⟩,o5,⟨λz hz'=>?_,?_⟩,λz hz'=>?_,by rw[zx];lia⟩
 · rcases zG.mp hz' with hz'|hz'
   ·exact hx.1 z hz'
   ·exact(hmm z (hperm.mem_iff.mp hz')).1
 · refine xm.mpr ⟨hx.2,?_,λa ha b hb=>.inl ?_⟩
   · refine JE (λ{a b} ha hb q=>.inr ⟨?_,q⟩) (dG8 hnd)
     have h1:=(hmm a (hperm.mem_iff.mp ha)).2
     have h2:=(hmm b (hperm.mem_iff.mp hb)).2
     lia
   · have h1:=hk a ha
     have h2:=(hmm b (hperm.mem_iff.mp hb)).2
     lia
 · rcases zG.mp hz' with hz'|hz'
   ·exact Int.le_of_lt (hk z hz')
   ·exact Int.le_of_eq (hmm z (hperm.mem_iff.mp hz')).2
theorem dE5{r p:Nat}{n u:Option D}{l:List (Key×D)}{ks:List Str}(hp:p≠r)(mk:J5 l=some ks)(hl:ks.length<=4)(hz:NS TX ks):∀(items:List Int) (w:Option D) (q:Nat) (xs:List Str) (G:DH),M8 G r->Dk G p l->(q≠r/\q≠p)->G[q]? =some (.lst (xs.map D.str))->cY8 xs->items.Pairwise (· < ·)->(∀z∈xs,∀i∈items,(z.length:Int)<i)->xs.length+4*items.length<=900->
 Wp (aL0 (q16 5) WB (λ_=>true) (items.map D.int) [some (.ref r),n,some (.ref p),u,some (.ref q),w]) G λfl G'=>Fr2 r p G G'/\∃(q':Nat) (w':Option D) (xs':List Str),fl= .nx [some (.ref r),n,some (.ref p),u,some (.ref q'),w']/\(q'≠r/\q'≠p)/\G'[q']? =some (.lst (xs'.map D.str))/\cY8 xs'/\xs'.length<=xs.length+4*items.length
 |[],w,q,xs,G,h,e,hq,eq,hx,hi,hk,hxl=>by
   rw[xT,aM4]
   exact⟨rfl,(Fr.refl h).two,q,w,xs,rfl,hq,eq,hx,by simp⟩
 |i::t,w,q,xs,G,h,e,hq,eq,hx,hi,hk,hxl=>by
   simp only[zp]at hxl
   rw[zS,aM3,Q5]
   refine⟨rfl,(fW9 hp h e mk hl hz hq eq hx (λz hz=>hk z hz i (by simp)) (by lia)).mono ?_⟩
   rintro _ G1 ⟨f1,d1,q1,xs1,rfl,r2,r3,r4,r4',r5⟩
   have hi':=yg.mp hi
   refine(dE5 hp mk hl hz t _ q1 xs1 G1 f1.2.2 d1 r2 r3 r4 hi'.2 (λz hz j hj=>Int.lt_of_le_of_lt (r4' z hz) (hi'.1 j hj)) (by lia)).mono ?_
   rintro _ G2 ⟨f2,q',w',xs',p1,p2,p3,p4,p5⟩
   exact⟨f1.trans f2,q',w',xs',p1,p2,p3,p4,by simp only[zp];lia⟩
theorem fM8{r:Nat}{G:DH}(h:M8 G r):Wp (aC8 [.ref r,.int 3]) G λx G'=>∃(w:Str) (ts:List Str),x= .tup [.str w,.tup (ts.map D.str)]/\(w=wOf\/w=aR9)/\cY8 ts/\ts.length<=100/\Fr r G G':=by
 have fd:Fr r G (G++[DO.dct []]):=Fr.app h
 have hp:G.length≠r:=by have:=h.lt;lia
 refine T4 (show Wp (aW3 [some (.ref r),some (.int 3),none,none,none,none]) G _ from ?_)
 rw[fZ4]
 refine K9 (X1:= [some (.ref r),some (.int 3),some (.ref G.length),none,none,none]) (G':=G++[.dct []]) rfl<| m9.mpr<| aL7.mpr<| dO5.mpr<| v8<| v9 (as:= [.ref r,.int 4]) rfl rfl<| V7 fd.2.2 ⟨by decide,by decide⟩ λk hk0 hk1 G2 f2=>o9.mpr<| (aT2 ⟨by lia,by lia⟩).mpr ?_
 have e2:G2[G.length]? =some (.dct []):=f2.at hp o5
 have hlen:(K6 0 k.toNat).length=k.toNat:=by unfold K6;rw[zo,jy]
 refine(dC8 hp (K6 0 k.toNat) none [] [] G2 f2.2.2 e2 rfl (by rw[hlen];simp;lia) ⟨(λz hz=>by cases hz),Yq⟩).mono ?_
 rintro _ G3 ⟨f3,u',l',ks',rfl,q2,q3,q4,q5⟩
 rw[hlen]at q4
 simp only[jk]at q4
 refine K9 (X1:= [some (.ref r),some (.int 3),some (.ref G.length),u',some (.ref G3.length),none]) (G':=G3++[.lst []]) rfl<| m9.mpr<| aL7.mpr<| dO5.mpr<| d9 (a:= [D.int 21]) rfl<| (aT2 ⟨by decide,by decide⟩).mpr ?_
 have h3:=lt_of_get q2
 have h4:=f3.2.2.lt
 have er:K6 0 (21:Int).toNat= ((jB 21).map λi:Nat=>(i:Int)).map D.int:=by
  rw[Zz]
  exact dX8 21
 rw[er]
 refine(dE5 hp q3 (by lia) q5 ((jB 21).map λi:Nat=>(i:Int)) none G3.length [] (G3++[.lst []]) (f3.2.2.app) (.inl (R4 q2)) ⟨by lia,by lia⟩ o5 ⟨(λz hz=>by cases hz),.nil⟩ (by decide) (λz hz=>by cases hz) (by simp)).mono ?_
 rintro _ G4 ⟨f4,q',w',xs',rfl,p2,p3,p4,p5⟩
 simp only[zo,jy,jk]at p5
 refine U5<| aB7.mpr<| v8<| aZ7 rfl (by decide) (by decide)<| d9 (a:= [.str "of",.str "but"]) (G':=G4) rfl ⟨sz,f4.2.2,rfl,λd hd G5 f5=>?_⟩
 have hd':∃w:Str,d= .str w/\(w=wOf\/w=aR9):=by
  simp only[zi,zu,or_false]at hd
  rcases hd with rfl|rfl
  ·exact⟨_,rfl,.inl rfl⟩
  ·exact⟨_,rfl,.inr rfl⟩
 obtain⟨w,rfl,hw⟩:=hd'
 have f3':Fr2 r G.length G2 (G3++[.lst []]):=f3.trans (Fr.app f3.2.2).two
 exact v8<| aI3 (as:= [.ref q']) rfl<| (aU2 (f5.at p2.1 p3)).mpr<| o9.mpr ⟨sz,R6 ⟨w,xs',rfl,hw,p4,by lia,((f3'.trans f4).back (fd.trans f2) (zd _)).trans f5⟩⟩
noncomputable def TA(z:Str):Prop:=(∀c∈z.cps.toList,c<128)/\z.length<=1000
theorem eR6{z:Str}(h:TX z):TA z:=⟨λc hc=>by
 have:=zn.mp h.1 c hc
 unfold bG7 at this
 rw[zg,decide_eq_true_eq,decide_eq_true_eq]at this
 lia,h.2⟩
theorem fD7:∀c<128,∃e<128,xj c= [e]:=by decide +kernel
theorem cS3{α:Type}(f:Nat->Nat->List Nat):∀(l:List Nat) (k:Nat),(∀c∈l,∀i,∃e<128,f i c= [e])->((l.mapIdx λi c=>f (i+k) c).flatten).length=l.length/\∀e∈(l.mapIdx λi c=>f (i+k) c).flatten,e<128
 |[],k,_=>⟨rfl,λe h=>by cases h⟩
 |c::r,k,h=>by
   have ih:=cS3 (α:=α) f r (k+1) λx hx=>h x (zf _ hx)
   obtain⟨e,he,e1⟩:=h c (zc ..) (0+k)
   rw[List.mapIdx_cons]
   have e2:(λi c=>f (i+1+k) c)=λi c=>f (i+(k+1)) c:=funext λi=>funext λc=>by rw[show i+1+k=i+(k+1) by lia]
   rw[e2,List.flatten_cons,e1]
   refine⟨by rw[zx,ih.1];show 1+r.length=r.length+1;lia,λx hx=>?_⟩
   rcases zG.mp hx with hx|hx
   ·rw[zq.mp hx];exact he
   ·exact ih.2 x hx
theorem eQ1(z:Str):(upS z).cps.toList= (z.cps.toList.mapIdx λi c=>xj c).flatten:=by
 unfold upS placed
 simp[List.mapIdx_eq_zipIdx_map,Array.toList_flatten]
 rfl
theorem eR8{z:Str}(h:TA z):TA (upS z):=by
 have w:=cS3 (α:=Nat) (λ_ c=>xj c) z.cps.toList 0 λc hc _=>fD7 c (h.1 c hc)
 have e:=eQ1 z
 refine⟨λc hc=>?_,?_⟩
 · rw[e]at hc
   exact w.2 c hc
 · show (upS z).cps.size<=1000
   rw[<-jQ,e]
   have:=w.1
   have h2:z.cps.toList.length<=1000:=by rw[jQ];exact h.2
   exact zv (yO this) h2
def bS7(n:Nat):D->Prop
 | .non=>True
 | .bl _=>True
 | .int _=>True
 | .str z=>TA z
 | .ref i=>i<n
 |_=>False
def Pd(n w:Nat):Nat->D->Prop
 |0,d=>bS7 n d
 |k+1,d=>bS7 n d\/∃l,d= .tup l/\l.length<=w/\∀x∈l,Pd n w k x
section
variable{n w k:Nat}{d:D}{l:List D}
theorem Pd.leaf(h:bS7 n d):Pd n w k d:=by
 cases k
 ·exact h
 ·exact .inl h
theorem Pd.tup(hl:l.length<=w)(h:∀x∈l,Pd n w k x):Pd n w (k+1) (.tup l):=.inr ⟨l,rfl,hl,h⟩
theorem Pd.inv(h:Pd n w k (.tup l)):∃j,k=j+1/\l.length<=w/\∀x∈l,Pd n w j x:=by
 cases k
 ·exact h.elim
 · rcases h with h|⟨l',e,h1,h2⟩
   ·exact h.elim
   · injection e with e
     subst e
     exact⟨_,rfl,h1,h2⟩
theorem dH8{m:Nat}(hn:n<=m)(h:bS7 n d):bS7 m d:=by
 cases d<;>first|exact h|exact zO h hn
end
theorem Pd.up{n m w v:Nat}(hn:n<=m)(hw:w<=v):∀ {k j:Nat} {d:D},k<=j->Pd n w k d->Pd m v j d
 |0,j,d,_,h=>Pd.leaf (dH8 hn h)
 |k+1,0,d,hk,_=>by lia
 |k+1,j+1,d,hk,h=>by
   rcases h with h|⟨l,rfl,h1,h2⟩
   ·exact Pd.leaf (dH8 hn h)
   ·exact Pd.tup (zv h1 hw) λx hx=>Pd.up hn hw (by lia) (h2 x hx)
theorem bC8{n:Nat}{d:D}(h:bS7 n d):AT n d/\lwD d=true/\dpD d=0:=by
 cases d<;>first
  |exact h.elim
  |exact⟨by unfold AT;trivial,by rw[lwD],by rw[dpD]⟩
  |exact⟨by unfold AT;exact h.2,by rw[lwD],by rw[dpD]⟩
  |exact⟨by unfold AT;exact h,by rw[lwD],by rw[dpD]⟩
theorem Pd.all{n w:Nat}(hw:w<=1000):∀ {k:Nat} {d:D},Pd n w k d->AT n d/\lwD d=true/\dpD d<=k
 |0,d,h=>⟨(bC8 h).1,(bC8 h).2.1,yO (bC8 h).2.2⟩
 |k+1,d,h=>by
   rcases h with h|⟨l,rfl,h1,h2⟩
   ·exact⟨(bC8 h).1,(bC8 h).2.1,by rw[(bC8 h).2.2];exact je _⟩
   · refine⟨bG6.mpr λx hx=>(Pd.all hw (h2 x hx)).1,dB2.mpr ⟨by lia,λx hx=>(Pd.all hw (h2 x hx)).2.1⟩,?_⟩
     rw[aC6]
     exact yy (cI7 λx hx=>(Pd.all hw (h2 x hx)).2.2)
theorem Pd.tg{n w k:Nat}{d:D}(h:Pd n w k d)(hw:w<=1000)(hz:szD d<=1000000):Tg n k d:=⟨(h.all hw).1,(h.all hw).2.1,(h.all hw).2.2,hz⟩
noncomputable def BZ:Nat->Nat
 |0=>160
 |k+1=>9*BZ k+200
def Dw:Nat->D->Prop
 |0,_=>False
 |k+1,d=>GS (k+1) d/\Pd 0 100 (4*k+3) d/\szD d<=BZ k
noncomputable def LiD(S:D->Prop)(li:D):Prop:=li= .non\/∃fs m,li= .tup [.tup fs,m]/\fs.length<=3/\(∀x∈fs,S x)/\S m
def ReD(S:D->Prop)(re:D):Prop:=re= .non\/∃(fs:List (Str×Bool×D)) (m:D),re= .tup [.tup (fs.map fdD),m]/\fs.length<=4/\(fs.map (·.1)).Nodup/\(∀f∈fs,TX f.1/\S f.2.2)/\S m
structure PtD(S:D->Prop)(ns:List (D×D))(w:Str)(ts:List Str)(tr:List Bool)(li re:D):Prop where
 st:∀p∈ns,cA7 p
 nl:ns.length<=10
 w:w=wOf\/w=aR9
 tx:∀z∈ts,TX z
 tl:ts.length<=100
 tr:tr.length<=2
 li:LiD S li
 re:ReD S re
theorem LiD.g{S T:D->Prop}(k:∀d,S d->T d){li:D}(h:LiD S li):LiG T li:=by
 rcases h with h|⟨fs,m,e,h1,h2,h3⟩
 ·exact .inl h
 ·exact .inr ⟨fs,m,e,by lia,λx hx=>k x (h2 x hx),k m h3⟩
theorem ReD.g{S T:D->Prop}(k:∀d,S d->T d){re:D}(h:ReD S re):ReG T re:=by
 rcases h with h|⟨fs,m,e,h1,h2,h3,h4⟩
 ·exact .inl h
 ·exact .inr ⟨fs,m,e,by lia,h2,λf hf=>⟨(h3 f hf).1.2,k _ (h3 f hf).2⟩,k m h4⟩
theorem PtD.g{S T:D->Prop}(k:∀d,S d->T d){ns:List (D×D)}{w:Str}{ts:List Str}{tr:List Bool}{li re:D}(h:PtD S ns w ts tr li re):PtP T ns w ts tr li re:=
 ⟨h.st,zv h.nl (by decide),λz hz=>(h.tx z hz).2,zv h.tl (by decide),zv h.tr (by decide),h.li.g k,h.re.g k⟩
theorem Dw.gs{k:Nat}{d:D}(h:Dw k d):GS k d:=by
 cases k
 ·exact h.elim
 ·exact h.1
theorem bP8{b:Nat}:∀ {l:List D},(∀x∈l,szD x<=b)->szL l<=l.length*b
 |[],_=>by rw[J9];exact je _
 |d::r,h=>by
   have h1:=h d (zc ..)
   have ih:=bP8 λx hx=>h x (zf _ hx)
   rw[m5,zp,Nat.succ_mul]
   lia
theorem cN5{d:D}(h:cN8 d):bS7 0 d/\szD d=1:=by
 rcases bU9 h with rfl|⟨i,rfl⟩
 ·exact⟨trivial,by rw[szD]⟩
 ·exact⟨trivial,by rw[szD]⟩
theorem cL7{k:Nat}{ns:List (D×D)}{w:Str}{ts:List Str}{tr:List Bool}{li re:D}(h:PtD (Dw k) ns w ts tr li re):Dw (k+1) (mkS ns w ts tr li re):=by
 have s1:∀z:Str,szD (.str z)=1:=λz=>by rw[szD]
 have s2:∀b:Bool,szD (.bl b)=1:=λb=>by rw[szD]
 have s3:szD .non=1:=by rw[szD]
 refine⟨.inr ⟨ns,w,ts,tr,li,re,rfl,h.g λd=>Dw.gs,trivial⟩,?_,?_⟩
 · refine Pd.tup (by decide:5<=100) λx hx=>?_
   have p1:Pd 0 100 2 (.tup (ns.map stD)):=Pd.tup (by rw[zo];have:=h.nl;lia) λy hy=>by
    obtain⟨p,hp,rfl⟩:=zw.mp hy
    refine Pd.tup (by decide:2<=100) λy hy=>?_
    rcases zi.mp hy with rfl|hy
    ·exact(cN5 (h.st p hp).1).1
    ·rw[zq.mp hy];exact(cN5 (h.st p hp).2.1).1
   have p2:Pd 0 100 2 (.tup [.str w,.tup (ts.map D.str)]):=Pd.tup (by decide:2<=100) λy hy=>by
    rcases zi.mp hy with rfl|hy
    · refine Pd.leaf ?_
      rcases h.w with rfl|rfl
      ·exact⟨by decide,by decide⟩
      ·exact⟨by decide,by decide⟩
    · rw[zq.mp hy]
      refine Pd.tup (by rw[zo];exact h.tl) λy hy=>?_
      obtain⟨z,hz,rfl⟩:=zw.mp hy
      exact eR6 (h.tx z hz)
   have p3:Pd 0 100 1 (.tup (tr.map D.bl)):=Pd.tup (by rw[zo];have:=h.tr;lia) λy hy=>by
    obtain⟨z,hz,rfl⟩:=zw.mp hy
    trivial
   have p4:Pd 0 100 (4*k+2) li:=by
    rcases h.li with rfl|⟨fs,m,rfl,h1,h2,h3⟩
    ·exact Pd.leaf trivial
    · rcases k with _|k
      ·exact h3.elim
      · refine Pd.tup (k:=4*k+5) (by decide:2<=100) λy hy=>?_
        rcases zi.mp hy with rfl|hy
        ·exact Pd.tup (k:=4*k+4) (by lia) λy hy=>(h2 y hy).2.1.up (zd _) (zd _) (by lia)
        ·rw[zq.mp hy];exact h3.2.1.up (zd _) (zd _) (by lia)
   have p5:Pd 0 100 (4*k+2) re:=by
    rcases h.re with rfl|⟨fs,m,rfl,h1,_,h2,h3⟩
    ·exact Pd.leaf trivial
    · rcases k with _|k
      ·exact h3.elim
      · refine Pd.tup (k:=4*k+5) (by decide:2<=100) λy hy=>?_
        rcases zi.mp hy with rfl|hy
        · refine Pd.tup (k:=4*k+4) (by rw[zo];lia) λy hy=>?_
          obtain⟨f,hf,rfl⟩:=zw.mp hy
          refine Pd.tup (k:=4*k+3) (by decide:3<=100) λy hy=>?_
          simp only[zi,zu,or_false]at hy
          rcases hy with rfl|rfl|rfl
          ·exact Pd.leaf (eR6 (h2 f hf).1)
          ·exact Pd.leaf trivial
          ·exact(h2 f hf).2.2.1
        ·rw[zq.mp hy];exact h3.2.1.up (zd _) (zd _) (by lia)
   simp only[zi,zu,or_false]at hx
   rcases hx with rfl|rfl|rfl|rfl|rfl
   ·exact p1.up (zd _) (zd _) (by lia)
   ·exact p2.up (zd _) (zd _) (by lia)
   ·exact p3.up (zd _) (zd _) (by lia)
   ·exact p4
   ·exact p5
 · have z1:szL (ns.map stD)<=10*3:=zv (bP8 (b:=3) λx hx=>by
    obtain⟨p,hp,rfl⟩:=zw.mp hx
    unfold stD
    rw[M5,m5,m5,J9,(cN5 (h.st p hp).1).2,(cN5 (h.st p hp).2.1).2];decide) (yI _ (by rw[zo];exact h.nl))
   have z2:szL (ts.map D.str)<=100*1:=zv (bP8 (b:=1) λx hx=>by
    obtain⟨p,hp,rfl⟩:=zw.mp hx
    rw[s1];exact zd _) (yI _ (by rw[zo];exact h.tl))
   have z3:szL (tr.map D.bl)<=2*1:=zv (bP8 (b:=1) λx hx=>by
    obtain⟨p,hp,rfl⟩:=zw.mp hx
    rw[s2];exact zd _) (yI _ (by rw[zo];exact h.tr))
   unfold mkS
   rw[M5,m5,m5,m5,m5,m5,J9,M5,M5,M5,m5,m5,J9,s1,M5]
   rcases k with _|k
   · have e1:li= .non:=by
      rcases h.li with e|⟨fs,m,e,_,_,h3⟩
      ·exact e
      ·exact h3.elim
     have e2:re= .non:=by
      rcases h.re with e|⟨fs,m,e,_,_,_,h3⟩
      ·exact e
      ·exact h3.elim
     rw[e1,e2,s3]
     show _<=160
     lia
   · have z4:szD li<=4*BZ k+2:=by
      rcases h.li with rfl|⟨fs,m,rfl,h1,h2,h3⟩
      ·rw[s3];lia
      · have a1:=bP8 (b:=BZ k) (l:=fs) λx hx=>(h2 x hx).2.2
        have a2:fs.length*BZ k<=3*BZ k:=yI _ h1
        have a3:=h3.2.2
        rw[M5,m5,m5,J9,M5]
        lia
     have z5:szD re<=5*BZ k+14:=by
      rcases h.re with rfl|⟨fs,m,rfl,h1,_,h2,h3⟩
      ·rw[s3];lia
      · have a1:=bP8 (b:=BZ k+3) (l:=fs.map fdD) λx hx=>by
         obtain⟨f,hf,rfl⟩:=zw.mp hx
         have:=(h2 f hf).2.2.2
         unfold fdD
         rw[M5,m5,m5,m5,J9,s1,s2]
         lia
        have a2:(fs.map fdD).length*(BZ k+3)<=4*(BZ k+3):=yI _ (by rw[zo];exact h1)
        have a3:=h3.2.2
        rw[M5,m5,m5,J9,M5]
        lia
     show _<=9*BZ k+200
     lia
theorem dR0{k:Nat}:Dw (k+1) (.str V8):=⟨.inl rfl,Pd.leaf ⟨by decide,by decide⟩,by
 rw[szD]
 cases k
 ·decide
 ·show 1<=9*_+200;lia⟩
theorem fT0{k:Nat}:Dw (k+1) noS:=cL7 ⟨(λ_ h=>nomatch h),by decide,.inl rfl,(λ_ h=>nomatch h),by decide,by decide,.inl rfl,.inl rfl⟩
theorem fM6{S:D->Prop}{li:D}(h:LiD S li):LiD S (liN li):=by
 rcases h with rfl|⟨fs,m,rfl,h1,h2,h3⟩
 ·exact .inl rfl
 · show LiD S (if fs.any (λx=>N5 x noS)then .non else .tup [.tup fs,m])
   split
   ·exact .inl rfl
   ·exact .inr ⟨fs,m,rfl,h1,h2,h3⟩
theorem fP2{S:D->Prop}{re:D}(h:ReD S re):ReD S (reN re):=by
 rcases h with rfl|⟨fs,m,rfl,h1,h2,h3,h4⟩
 ·exact .inl rfl
 · show ReD S (if (fs.map fdD).any noM then .non else .tup [.tup ((fs.map fdD).filter (kpM m)),m])
   split
   ·exact .inl rfl
   · rw[eR4]
     have hs:(fs.filter λf=>kpM m (fdD f)).Sublist fs:=Xs
     exact .inr ⟨_,m,rfl,zv hs.length_le h1,(hs.map _).nodup h2,λf hf=>h3 f (hs.subset hf),h4⟩
theorem fB9{k:Nat}{ns:List (D×D)}{w:Str}{ts:List Str}{tr:List Bool}{li re:D}(h:PtD (Dw k) ns w ts tr li re):Dw (k+1) (dZ7 (.tup (ns.map stD)) (.tup [.str w,.tup (ts.map D.str)]) (.tup (tr.map D.bl)) li re):=by
 unfold dZ7
 split
 ·exact dR0
 ·exact cL7 ⟨h.st,h.nl,h.w,h.tx,h.tl,h.tr,fM6 h.li,fP2 h.re⟩
theorem eY5:StP []:=⟨λp hp=>(by cases hp),.nil⟩
theorem fI1:StP [(.non,.non)]:=⟨λp hp=>(by rw[zq]at hp;subst hp;exact⟨trivial,trivial,trivial⟩),yV _ _⟩
theorem dF0:cY8 []:=⟨λz hz=>(by cases hz),.nil⟩
theorem fZ8{R:List D->M D}:Z7 R=j0 (K3 (cE .non) (q16 2)) (j0 (K3 (cE .non) (q16 3)) (j0 (PL R) (j0 (PR R) (t8 (v7 (q13 (c7 2) (q13 (c7 3) q14))))))):=rfl
section
variable{R:List D->M D}{r k:Nat}{deep:Int}{G:DH}
def cW9(R:List D->M D)(r k:Nat)(deep:Int):Prop:=∀G,M8 G r->Wp (W4 R [.ref r,.int (deep-1)]) G λx G'=>Dw k x/\Fr r G G'
def PLP(r k:Nat)(deep:Int)(c e f:Option D)(G:DH)(fl:Fl)(G':DH):Prop:=Fr r G G'/\∃li,fl= .nx [some (.ref r),some (.int deep),some li,c,e,f]/\LiD (Dw k) li
theorem fW2{c e f:Option D}(h:M8 G r)(hS:1<deep->cW9 R r k deep):Wp (PL R [some (.ref r),some (.int deep),some .non,c,e,f]) G (PLP r k deep c e f G):=by
 have non:∀G1,Fr r G G1->PLP r k deep c e f G (.nx [some (.ref r),some (.int deep),some .non,c,e,f]) G1:=λG1 f1=>⟨f1,_,rfl,.inl rfl⟩
 refine aH1<| cG3<| R7<| Z0 (x:=.int deep) (y:=.int 1) rfl rfl<| dE6.mpr ⟨_,rfl,λg1=>?_,λ_=>⟨λz=>(nomatch z),λ_=>J1.mpr (non _ (Fr.refl h))⟩⟩
 have g1:1<deep:=of_decide_eq_true g1
 obtain⟨x0,x1,x2,x3,hr,hb1,hb2⟩:=id h
 refine cG3<| R7<| w6<| ixv (G1:=G) rfl rfl hr rfl<| d9 (a:=.int 25) rfl<| bO3.mpr ⟨_,rfl,λ_=>?_,λ_=>⟨λz=>(nomatch z),λ_=>J1.mpr (non _ (Fr.refl h))⟩⟩
 refine R7<| w6<| v9 (as:= [.ref r,.int 2]) rfl rfl<| V7 h ⟨by decide,by decide⟩ λj hj0 hj1 G1 f1=>d9 (a:=.int 1) rfl<| V0.mpr ⟨_,rfl,λ_=>?_,λ_=>J1.mpr (non _ f1)⟩
 refine S7<| aB7.mpr<| v8<| aF5<| v8<| wp_comp.mpr<| dO5.mpr<| v8<| v9 (as:= [.ref r,.int 4]) rfl rfl<| V7 f1.2.2 ⟨by decide,by decide⟩ λm hm0 hm1 G2 f2=>o9.mpr<| (aT2 ⟨by lia,by lia⟩).mpr ⟨?_,?_⟩
 ·exact zv (by show (K6 0 m.toNat).length<=4;unfold K6;rw[zo,jy];lia) (show 4<=zh by decide)
 refine(cF5 (Fr r G) (λO=>∃w,O= [w,some (.int deep),some (.ref r)]) (λy=>Dw k y) (λ_ _=>rfl) (K6 0 m.toNat) _ G2 ⟨none,rfl⟩ (f1.trans f2) λx hx O G3 WM f3=>?_).mono λys G3 z=>?_
 · obtain⟨w,rfl⟩:=WM
   exact cN1 ⟨_,rfl⟩<| v9 (as:= [.ref r,.int (deep-1)]) rfl rfl<| (hS g1 G3 f3.2.2).mono λy G4 z=>⟨f3.trans z.2,z.1⟩
 · have f3':=z.1.trans (Fr.app (t:= [DO.lst ys]) z.1.2.2)
   refine o9.mpr<| (aU2 o5).mpr<| v8<| v9 (as:= [.ref r,.int (deep-1)]) rfl rfl<| (hS g1 _ f3'.2.2).mono λy G4 z'=>o9.mpr ⟨sz,f3'.trans z'.2,_,rfl,.inr ⟨ys,y,rfl,?_,z.2.2,z'.1⟩⟩
   rw[z.2.1];unfold K6;rw[zo,jy];lia
def FdP(k:Nat)(ss:List Str)(fs:List (Str×Bool×D)):Prop:=fs.map (·.1)=ss/\∀f∈fs,TX f.1/\Dw k f.2.2
theorem fW1{p:Nat}{z:Str}{a b:Option D}{ss:List Str}{fs:List (Str×Bool×D)}(hp:p≠r)(h:M8 G r)(hS:cW9 R r k deep)(e:G[p]? =some (.lst (fs.map fdD)))(hf:FdP k ss fs)(hz:NM z)(hl:fs.length<=50):
 Wp (PD R [some (.ref r),some (.int deep),a,b,some (.ref p),some (.str z)]) G λfl G'=>Fr2 r p G G'/\∃fs',fl= .nx [some (.ref r),some (.int deep),a,b,some (.ref p),some (.str z)]/\G'[p]? =some (.lst (fs'.map fdD))/\FdP k (ss++[z]) fs'/\fs'.length=fs.length+1:=by
 have bg:=big
 refine aM6.mpr<| aT5.mpr<| d9 (a:=.ref p) rfl<| (T3 e).mpr<| v8<| aB7.mpr<| J6 (x:=.str z) rfl<| v8<| w6<| v9 (as:= [.ref r,.int 2]) rfl rfl<| V7 h ⟨by decide,by decide⟩ λj hj0 hj1 G1 f1=>d9 (a:=.int 1) rfl<| V0.mpr<| v8<| v9 (as:= [.ref r,.int (deep-1)]) rfl rfl<| (hS G1 f1.2.2).mono ?_
 rintro y G2 ⟨q1,f2⟩
 have f12:=f1.trans f2
 have e2:=f12.at hp e
 refine o9.mpr ⟨sz,o9.mpr<| (aP7 e2 (by rw[zo];lia)).mpr ⟨f12.two.trans (Fr2.set hp f2.2.2),fs++[(z,decide (j=1),y)],rfl,?_,⟨by rw[jo,hf.1];rfl,λx hx=>?_⟩,by simp⟩⟩
 ·rw[zF (lt_of_get e2),jo];rfl
 · rcases zG.mp hx with hx|hx
   ·exact hf.2 x hx
   · rw[zq]at hx
     subst hx
     exact⟨hz.1,q1⟩
theorem dG2{p q:Nat}{a b:Option D}{ds:List D}(hp:p≠r)(hq:q≠r/\q≠p)(hS:cW9 R r k deep):∀(zs ss:List Str) (u:Option D) (fs:List (Str×Bool×D)) (G:DH),M8 G r->G[q]? =some (.lst ds)->G[p]? =some (.lst (fs.map fdD))->FdP k ss fs->(∀z∈zs,NM z)->fs.length+zs.length<=50->
 Wp (aL0 (q16 5) (PD R) (ckO q (.lst ds)) (zs.map D.str) [some (.ref r),some (.int deep),a,b,some (.ref p),u]) G λfl G'=>Fr2 r p G G'/\∃u' fs',fl= .nx [some (.ref r),some (.int deep),a,b,some (.ref p),u']/\G'[p]? =some (.lst (fs'.map fdD))/\FdP k (ss++zs) fs'/\fs'.length=fs.length+zs.length
 |[],ss,u,fs,G,h,eq,e,hf,hz,hl=>by
   rw[xT,aM4]
   exact⟨by simp[ckO,eq],(Fr.refl h).two,u,fs,rfl,e,by rw[yn];exact hf,by simp⟩
 |z::t,ss,u,fs,G,h,eq,e,hf,hz,hl=>by
   simp only[zp]at hl
   rw[zS,aM3,Q5]
   refine⟨by simp[ckO,eq],?_⟩
   simp only[List.set_cons_succ,XA]
   refine Wp.mono (fW1 hp h hS e hf (hz z (by simp)) (by lia)) λfl G1 ⟨f1,fs1,q1,q2,q3,q4⟩=>?_
   subst q1
   refine Wp.mono (dG2 hp hq hS t (ss++[z]) _ fs1 G1 f1.2.2 (by rw[f1.2.1 q hq.1 hq.2 (lt_of_get eq)];exact eq) q2 q3 (λx hx=>hz x (by simp[hx])) (by lia)) λfl G2 ⟨f2,u',fs',p1,p2,p3,p4⟩=>⟨f1.trans f2,u',fs',p1,p2,by simpa using p3,by simp only[zp];lia⟩
end
section
variable{R:List D->M D}{r k:Nat}{deep:Int}{G:DH}
def PRP(r k:Nat)(deep:Int)(a:Option D)(G:DH)(fl:Fl)(G':DH):Prop:=Fr r G G'/\∃re u v,fl= .nx [some (.ref r),some (.int deep),a,some re,u,v]/\ReD (Dw k) re
theorem fU8{a:Option D}(h:M8 G r)(hS:1<deep->cW9 R r k deep):Wp (PR R [some (.ref r),some (.int deep),a,some .non,none,none]) G (PRP r k deep a G):=by
 have bg:=big
 refine bW7 (A:=PRP r k deep a G) (bV0.mpr (R7 (Z0 (x:=.int deep) (y:=.int 1) rfl rfl (dE6.mpr ⟨_,rfl,?_⟩)))) λ_ _ z=>z
 have non:∀G1,Fr r G G1->PRP r k deep a G (.nx [some (.ref r),some (.int deep),a,some .non,none,none]) G1:=λG1 f1=>⟨f1,_,_,_,rfl,.inl rfl⟩
 by_cases g1:deep>1
 · rw[decide_eq_true g1,if_pos rfl]
   obtain⟨x0,x1,x2,x3,hr,hb1,hb2⟩:=id h
   refine bV0.mpr (R7 (w6 (ixv (G1:=G) rfl rfl hr rfl (d9 (a:=.int 25) rfl (bO3.mpr ⟨_,rfl,?_⟩)))))
   by_cases g2:x3<25
   · rw[decide_eq_true g2,if_pos rfl]
     refine R7 (w6 (v9 (as:= [.ref r,.int 2]) rfl rfl (V7 h ⟨by decide,by decide⟩ λj hj0 hj1 G1 f1=>d9 (a:=.int 1) rfl (V0.mpr ⟨_,rfl,λ_=>?_,λ_=>J1.mpr (non _ f1)⟩))))
     have hp:G1.length≠r:=by have:=f1.2.2.lt;lia
     have f2:Fr r G1 (G1++[.lst []]):=Fr.app f1.2.2
     refine K9 (X1:= [some (.ref r),some (.int deep),a,some .non,some (.ref G1.length),none]) (G':=G1++[.lst []]) rfl ?_
     refine m9.mpr (aL7.mpr (wp_itW.mpr (aD5.mpr (v9 (as:= [.ref r]) rfl rfl ((dX3 f2.2.2).mono ?_)))))
     rintro x G3 ⟨q,ss,rfl,hq,eq,hl8,hz,hpw,f3⟩
     rw[bO4,cL0]
     refine d9 (a:=.int 4) (G':=G3) rfl (fJ9.mpr ?_)
     rw[cM7 eq,bM8 o5]
     have et:DL.cutD (ss.map D.str) none (some 4)= (ss.take 4).map D.str:=by
      have:=cA0 (ss.map D.str) 4
      rw[<-Jq]at this
      exact this
     rw[et]
     have e3:G3[G1.length]? =some (.lst (([]:List (Str×Bool×D)).map fdD)):=f3.at hp o5
     have h3:=lt_of_get e3
     have h3r:=f3.2.2.lt
     have f4:Fr r G3 (G3++[.lst ((ss.take 4).map D.str)]):=Fr.app f3.2.2
     refine(dG2 (k:=k) hp (q:=G3.length) ⟨by lia,by lia⟩ (hS g1) (ss.take 4) [] none [] _ f4.2.2 o5 (R4 e3) ⟨rfl,λf hf=>by cases hf⟩ (λz hz'=>hz.1 z (yG hz')) (by simp;lia)).mono ?_
     rintro _ G5 ⟨f5,u',fs',rfl,p2,p3,p4⟩
     have fb:=(f4.two.trans f5).back (f2.trans f3) (zd _)
     refine S7 (aB7.mpr (v8 (aI3 (as:= [.ref G1.length]) rfl ((aU2 p2).mpr (v8 (v9 (as:= [.ref r,.int (deep-1)]) rfl rfl ((hS g1 G5 f5.2.2).mono λy G6 z=>o9.mpr ⟨sz,(f1.trans fb).trans z.2,_,_,_,rfl,.inr ⟨fs',y,rfl,?_,?_,p3.2,z.1⟩⟩)))))))
     ·rw[p4];simp;lia
     ·rw[p3.1,jJ];exact(XL 4 ss).nodup hz.2
   · rw[decide_eq_false g2]
     exact⟨λz=>(nomatch z),λ_=>J1.mpr (non _ (Fr.refl h))⟩
 · rw[decide_eq_false g1]
   exact⟨λz=>(nomatch z),λ_=>J1.mpr (non _ (Fr.refl h))⟩
theorem cH0(h:M8 G r)(hS:1<deep->cW9 R r k deep):Wp (K4 6 (Z7 R) [.ref r,.int deep]) G λx G'=>∃li re,x= .tup [li,re]/\LiD (Dw k) li/\ReD (Dw k) re/\Fr r G G':=by
 refine dQ5 (λg=>j0 _ (j0 _ g)) _ [some (.ref r),some (.int deep),some .non,some .non,none,none] fZ8 (λ_=>rfl) ?_
 refine m9.mpr ((fW2 h hS).mono ?_)
 rintro _ G1 ⟨f1,li,rfl,h1⟩
 refine m9.mpr ((fU8 f1.2.2 hS).mono ?_)
 rintro _ G2 ⟨f2,re,u,v,rfl,h2⟩
 exact d9 (a:=.rt (.tup [li,re])) rfl (R6 ⟨li,re,rfl,h1,h2,f1.trans f2⟩)
def cY4(R:List D->M D)(r k:Nat)(deep:Int):Prop:=∀G,M8 G r->Wp (R [.ref r,.int deep]) G λx G'=>∃li re,x= .tup [li,re]/\LiD (Dw k) li/\ReD (Dw k) re/\Fr r G G'
def fR5(r k:Nat)(G:DH)(x:D)(G':DH):Prop:=∃(ns:List (D×D)) (w:Str) (ts:List Str) (tr:List Bool) (li re:D),x=mkS ns w ts tr li re/\PtD (Dw k) ns w ts tr li re/\Fr r G G'
theorem eC8(h:M8 G r)(hP:cY4 R r k deep):Wp (aJ5 R [.ref r,.int deep]) G (fR5 r k G):=by
 have bg:=big
 refine T4 (show Wp (bH4 R [some (.ref r),some (.int deep),none,none,none]) G _ from ?_)
 refine m9.mpr (S7 (aZ7 rfl (by decide) (by decide) (J6 (x:=.tup []) rfl (J6 (x:=.tup [.tup [.non,.non]]) rfl (v8 (v9 (as:= [.ref r,.int 3]) rfl rfl ((cV9 h).mono ?_)))))))
 rintro _ G1 ⟨n1,rfl,hn1,hn2,f1⟩
 refine o9.mpr ⟨sz,f1.2.2,rfl,λd hd G2 f2=>?_⟩
 have hd':∃ns:List (D×D),d= .tup (ns.map stD)/\StP ns/\ns.length<=10:=by
  simp only[zi,zu,or_false]at hd
  rcases hd with rfl|rfl|rfl
  ·exact⟨[],rfl,eY5,je _⟩
  ·exact⟨[(.non,.non)],rfl,fI1,by decide⟩
  ·exact⟨n1,rfl,hn1,hn2⟩
 obtain⟨ns,rfl,h1,h2⟩:=hd'
 refine m9.mpr (S7 (aZ7 rfl (by decide) (by decide) (J6 (x:=.tup [.str "of",.tup []]) rfl (J6 (x:=.tup [.str "but",.tup []]) rfl (v8 (v9 (as:= [.ref r,.int 3]) rfl rfl ((fM8 f2.2.2).mono ?_)))))))
 rintro _ G3 ⟨w3,t3,rfl,hw3,h3,h4,f3⟩
 refine o9.mpr ⟨sz,f3.2.2,rfl,λd hd G4 f4=>?_⟩
 have hd':∃(w:Str) (ts:List Str),d= .tup [.str w,.tup (ts.map D.str)]/\(w=wOf\/w=aR9)/\cY8 ts/\ts.length<=100:=by
  simp only[zi,zu,or_false]at hd
  rcases hd with rfl|rfl|rfl
  ·exact⟨_, [],rfl,.inl rfl,dF0,je _⟩
  ·exact⟨_, [],rfl,.inr rfl,dF0,je _⟩
  ·exact⟨w3,t3,rfl,hw3,h3,h4⟩
 obtain⟨w,ts,rfl,hw,h3',h4'⟩:=hd'
 refine m9.mpr (S7 (aZ7 rfl (by decide) (by decide) (d9 (a:= [.tup [],.tup [.bl false],.tup [.bl true],.tup [.bl false,.bl true]]) (G':=G4) rfl ⟨sz,f4.2.2,rfl,λd hd G5 f5=>?_⟩)))
 have hd':∃tr:List Bool,d= .tup (tr.map D.bl)/\tr.length<=2:=by
  simp only[zi,zu,or_false]at hd
  rcases hd with rfl|rfl|rfl|rfl
  ·exact⟨[],rfl,by decide⟩
  ·exact⟨[false],rfl,by decide⟩
  ·exact⟨[true],rfl,by decide⟩
  ·exact⟨[false,true],rfl,by decide⟩
 obtain⟨tr,rfl,h5⟩:=hd'
 refine U5 (w6 (d9 (a:=.tup [.tup (ns.map stD),.tup [.str w,.tup (ts.map D.str)],.tup (tr.map D.bl)]) rfl (v9 (as:= [.ref r,.int deep]) rfl rfl ((hP G5 f5.2.2).mono ?_))))
 rintro _ G6 ⟨li,re,rfl,h6,h7,f6⟩
 exact(gE2 (by show 5<=zh;lia)).mpr ⟨ns,w,ts,tr,li,re,rfl,⟨h1.1,h2,hw,h3'.1,h4',h5,h6,h7⟩,((((f1.trans f2).trans f3).trans f4).trans f5).trans f6⟩
theorem dR7(hk:k<=6)(h:M8 G r)(hP:cY4 R r k deep):Wp (W4 R [.ref r,.int deep]) G λx G'=>Dw (k+1) x/\Fr r G G':=by
 have hlt:=h.lt
 obtain⟨x0,x1,x2,x3,hr,hb1,hb2⟩:=id h
 refine T4 (show Wp (bG3 R [some (.ref r),some (.int deep),none,none,none,none,none,none]) G _ from ?_)
 refine m9.mpr<| aW6.mpr<| w6<| ixv (G1:=G) rfl rfl hr rfl<| d9 (a:=.int 1) rfl<| aQ3.mpr<| eA0 (k:=3) rfl rfl hr rfl ?_
 have h2':M8 (G.set r (.lst [.int x0,.int x1,.int x2,.int (x3+1)])) r:=⟨_,_,_,_,zF hlt,hb1,hb2⟩
 refine m9.mpr<| S7<| v9 (as:= [.ref r,.int 6]) rfl rfl<| V7 h2' ⟨by decide,by decide⟩ λkind hk0 hk1 G2 f2=>?_
 have f12:=(Fr.set h2').trans f2
 refine m9.mpr<| aH1<| R7<| Z0 (x:=.int kind) (y:=.int 2) rfl rfl<| bO3.mpr ⟨_,rfl,λg=>?_,λg=>?_⟩
 · refine U5<| w6<| aI8.mpr<| J6 (x:=.str V8) rfl<| v8<| v9 (as:= []) rfl rfl<| aV5.mpr<| o9.mpr ⟨sz,d9 (a:=.int kind) rfl<| eP3 hk0 (by simpa using g) λd hd=>R6 ⟨?_,f12.trans (Fr.app f2.2.2)⟩⟩
   simp only[zi,zu,or_false]at hd
   rcases hd with rfl|rfl
   ·exact dR0
   ·exact fT0
 · refine J1.mpr<| m9.mpr<| aW6.mpr<| v9 (as:= [.ref r,.int deep]) rfl rfl<| (eC8 f2.2.2 hP).mono ?_
   rintro _ G3 ⟨ns,w,ts,tr,li,re,rfl,pt,f3⟩
   refine d9 (a:= [some (.ref r),some (.int deep),some (.int kind),some (.tup (ns.map stD)),some (.tup [.str w,.tup (ts.map D.str)]),some (.tup (tr.map D.bl)),some li,some re]) rfl ?_
   refine U5<| v9 (as:= [.tup (ns.map stD),.tup [.str w,.tup (ts.map D.str)],.tup (tr.map D.bl),li,re]) rfl rfl<| cU8 (n:=k) (pt.g λd h=>h.gs.le (jh k)) (by
    have:=(cL7 pt).2.1.all (by decide:(100:Nat)<=1000)
    lia) λG4 a4=>⟨fB9 pt,(f12.trans f3).trans ?_⟩
   obtain⟨t,rfl⟩:=a4
   exact Fr.app f3.2.2
theorem cN6{r:Nat}:∀(n k:Nat) (deep:Int),deep<=k+1->k<n->k<=6->cY4 (aD7 n) r k deep
 |0,k,deep,_,h,_=>by lia
 |n+1,0,deep,h0,h1,h2=>λG h=>cH0 h λg=>by lia
 |n+1,k+1,deep,h0,h1,h2=>λG h=>cH0 h λg G1 h1'=>dR7 (k:=k) (by lia) h1' (cN6 n k (deep-1) (by lia) (by lia) (by lia))
theorem eI4(hk:k<=6)(hd:deep<=k+1)(h:M8 G r):Wp (aP1 [.ref r,.int deep]) G (fR5 r k G):=eC8 h (cN6 _ k deep (by omega) (by lia) (by omega))
end
theorem fW0{R:List D->M D}:aK1 R=j0 SP0 (j0 SP1 (j0 SP2 (j0 SP3 (j0 SP4 (j0 SP5 (j0 SP6 (j0 (SP7 R) (SP8)))))))):=rfl
def SpQ(r:Nat)(G:DH)(w k s:Nat)(x:D)(G':DH):Prop:=Fr r G G'/\Pd G'.length (w+1) (k+4) x/\szD x<=2*s+60
noncomputable def dH4:D->Bool
 | .non=>true
 | .bl _=>true
 | .int _=>true
 | .str z=>z.cps.toList.all (λc=>decide (c<128))&&decide (z.length<=1000)
 |_=>false
noncomputable def pdT(w:Nat)(f:D->Bool):D->Bool
 | .tup l=>decide (l.length<=w)&&l.all f
 |_=>false
def pdB(w:Nat):Nat->D->Bool
 |0,d=>dH4 d
 |k+1,d=>dH4 d||pdT w (pdB w k) d
theorem dF1{n:Nat}{d:D}(h:dH4 d=true):bS7 n d:=by
 cases d<;>first|trivial|(cases h;done)|skip
 rename_i z
 have h:(z.cps.toList.all (λc=>decide (c<128))&&decide (z.length<=1000))=true:=h
 rw[zg,zn,decide_eq_true_eq]at h
 exact⟨λc hc=>of_decide_eq_true (h.1 c hc),h.2⟩
theorem T8{n w:Nat}:∀ {k:Nat} {d:D},pdB w k d=true->Pd n w k d
 |0,d,h=>dF1 h
 |k+1,d,h=>by
   have h:(dH4 d||pdT w (pdB w k) d)=true:=h
   rw[yS]at h
   rcases h with h|h
   ·exact .inl (dF1 h)
   · rcases d with _|_|_|_|l|_|_|_<;>try (cases h;done)
     have h:(decide (l.length<=w)&&l.all (pdB w k))=true:=h
     rw[zg,decide_eq_true_eq,zn]at h
     exact Pd.tup h.1 λx hx=>T8 (h.2 x hx)
theorem dG7{i r p:Nat}{n:Int}{ds:List D}{O:DSt}{G:DH}{Q:DPP}(hi:c7 i O G=some (.ok (.ref p),G))(h0':O[0]? =some (some (.ref r)))(h:M8 G r)(hp:p≠r)(e:G[p]? =some (.lst ds))(hn:(ds.length:Int)=n)(h0:0<n)(h1:n<2 ^ 100)(q:∀d∈ds,∀G',Fr r G G'->Q d G'):
 Wp (d7 ixD (c7 i) (q15 (fnX 2 d8) (q13 (c7 0) (q13 (cE (.int n)) q14))) O) G Q:=
 w6<| d9 hi<| aF5<| v8<| aE1.mpr ⟨_,h0',J6 rfl<| o9.mpr<| aL2.mpr ⟨rfl,eD4 h hp e hn h0 h1 q⟩⟩
section
variable{R:List D->M D}{r w k:Nat}{d:D}{G:DH}
def SQA:Fs:=(j0 (K3 (M6 (q13 (cE (.str ("any " :Str))) (q13 (cE (.str ("Any" :Str))) (q13 (cE (.str ("" :Str))) (q13 (cE .non) (q13 (v7 (q13 (cE (.str ("any" :Str))) q14)) (q13 (M6 (q13 (cE (.str ("any" :Str))) q14)) (q13 (c7 3) (q13 (cE (.int 5)) (q13 (aK8) (q13 (cE (.bl true)) (q13 (P0 (c7 2) (Q6) (T5 (cE (.int 4)))) (q13 (d7 Q3 (c7 2) (v7 (q13 (cE .non) q14))) (q13 (q15 bH9 (q13 (c7 2) q14)) q14)))))))))))))) (q16 4)) (t8 (d7 ixD (c7 4) (q15 (fnX 2 d8) (q13 (c7 0) (q13 (cE (.int 13)) q14))))))
def SQC:DSt->M Bool:=(orT (R1 (o7 (q15 o6 (q13 (c7 1) (q13 (cE (.ty "tuple")) q14))))) (orT (o8 (d7 neD (q15 W8 (q13 (c7 1) q14)) (cE (.int 5)))) (o8 (d7 eqD (q15 (fnX 2 d8) (q13 (c7 0) (q13 (cE (.int 8)) q14))) (cE (.int 0))))))
theorem fM7:SP2=ifS SQC SQA u0:=rfl
noncomputable def noL:List D:= [.tup [],.tup [.str wOf,.tup []],.tup [],.non,.non]
def eM6(a b c:Nat):List D:= [.str "any ",.str "Any",.str "",.non,.tup [.str V8],.ref a,evS,.int 5,.ref b,.bl true,.tup (noL.take 4),.tup (noL++[.non]),.ref c]
theorem eK2{a b c n:Nat}(ha:a<n)(hb:b<n)(hc:c<n):∀x∈eM6 a b c,Pd n 6 3 x/\szD x<=60:=by
 intro x hx
 simp only[eM6,zi,zu,or_false]at hx
 rcases hx with rfl|rfl|rfl|rfl|rfl|rfl|rfl|rfl|rfl|rfl|rfl|rfl|rfl
 ·exact⟨T8 rfl,by simp[szD]⟩
 ·exact⟨T8 rfl,by simp[szD]⟩
 ·exact⟨T8 rfl,by simp[szD]⟩
 ·exact⟨T8 rfl,by simp[szD]⟩
 ·exact⟨T8 rfl,by simp[szD,szL]⟩
 ·exact⟨Pd.leaf ha,by simp[szD]⟩
 ·exact⟨T8 rfl,by simp[evS,mkS,stD,szD,szL]⟩
 ·exact⟨T8 rfl,by simp[szD]⟩
 ·exact⟨Pd.leaf hb,by simp[szD]⟩
 ·exact⟨T8 rfl,by simp[szD]⟩
 ·exact⟨T8 rfl,by simp[noL,szD,szL]⟩
 ·exact⟨T8 rfl,by simp[noL,szD,szL]⟩
 ·exact⟨Pd.leaf hc,by simp[szD]⟩
theorem fP1(h:M8 G r):Wp (SQA [some (.ref r),some d,some noS,some evS,none,none,none]) G λfl G'=>∃x,fl= .rt x/\Fr r G G'/\Pd G'.length 6 3 x/\szD x<=60:=by
 have hr:=h.lt
 have fr:Fr r G (G++[DO.lst [.str V8]]++[DO.dct []]++[DO.lst noL]++[DO.lst (eM6 G.length (G++[DO.lst [.str V8]]).length (G++[DO.lst [.str V8]]++[DO.dct []]).length)]):=by
  rw[zZ,zZ,zZ];exact Fr.app h
 refine K9 (X1:= [some (.ref r),some d,some noS,some evS,some (.ref (G++[DO.lst [.str V8]]++[DO.dct []]++[DO.lst noL]).length),none,none]) (G':=G++[DO.lst [.str V8]]++[DO.dct []]++[DO.lst noL]++[DO.lst (eM6 G.length (G++[DO.lst [.str V8]]).length (G++[DO.lst [.str V8]]++[DO.dct []]).length)]) rfl ?_
 refine U5<| dG7 (p:=(G++[DO.lst [.str V8]]++[DO.dct []]++[DO.lst noL]).length) rfl rfl fr.2.2 (by simp;lia) o5 rfl (by decide) (by decide) λx hx G' f'=>⟨x,rfl,fr.trans f',?_⟩
 have hl:=f'.1
 simp only[zx,zp,jk]at hl
 exact eK2 (n:=G'.length) (by lia) (by simp;lia) (by simp;lia) x hx
theorem fZ2(h:M8 G r)(hd:AT G.length d):Wp (SQC [some (.ref r),some d,some noS,some evS,none,none,none]) G λb G'=>Fr r G G'/\(b=false->aA1 5 d=true):=by
 by_cases c:aA1 5 d=true
 · obtain⟨l,rfl,hl⟩:=aB9 c
   obtain⟨a,b,c',li,re,rfl⟩:=aQ2 hl
   exact fL1<| d9 (a:=false) (G':=G) rfl ⟨λz=>(nomatch z),λ_=>fL1<| d9 (a:=false) (G':=G) rfl ⟨λz=>(nomatch z),λ_=>R7<| w6<| v9 (as:= [.ref r,.int 8]) rfl rfl<| V7 h ⟨by decide,by decide⟩ λj _ _ G1 f1=>d9 (a:=.int 0) rfl<| V0.mpr ⟨_,rfl,f1,λ_=>rfl⟩⟩⟩
 · have w:=cS0 (k:=5) (d:=d) (O:= [some (.ref r),some d,some noS,some evS,none,none,none]) (G:=G) (f:=c7 1) (u:=o8 (d7 eqD (q15 (fnX 2 d8) (q13 (c7 0) (q13 (cE (.int 8)) q14))) (cE (.int 0)))) (y:=true) rfl (λ_=>rfl) hd.there λh=>absurd h c
   refine w _ λG' j=>⟨?_,λhb=>?_⟩
   · obtain⟨t,rfl⟩:=j
     exact Fr.app h
   ·rw[Bool.or_true]at hb;cases hb
noncomputable def cW0(a b:Nat):List D:= [.non,.ref a,.str "",.int 5,.bl true,.tup [.non],.tup [.tup []],.ref b,.str V8,.tup [.int 0,.int 1],.tup [.int 1],.tup [.bl true,.bl false],.tup [.bl true,.bl true]]
noncomputable def bV6(c:Nat):List D:= [.tup [.tup [.int 1,.int 2],.tup [.int 3,.int 4]],.tup [.str wOf,.tup [.str "b",.str "a"]],.tup [.str aR9,.ref c],.tup [.str wOf,.tup [.str "a",.str "a"]],.tup [.tup [.int 2,.int 1]]]
theorem eD3{a b c n:Nat}(ha:a<n)(hb:b<n)(hc:c<n):∀x∈cW0 a b++bV6 c,Pd n 6 2 x/\szD x<=60:=by
 intro x hx
 simp only[cW0,bV6,ZN,jJ,zi,zu,or_false]at hx
 rcases hx with rfl|rfl|rfl|rfl|rfl|rfl|rfl|rfl|rfl|rfl|rfl|rfl|rfl|rfl|rfl|rfl|rfl|rfl
 ·exact⟨T8 rfl,by simp[szD]⟩
 ·exact⟨Pd.leaf ha,by simp[szD]⟩
 ·exact⟨T8 rfl,by simp[szD]⟩
 ·exact⟨T8 rfl,by simp[szD]⟩
 ·exact⟨T8 rfl,by simp[szD]⟩
 ·exact⟨T8 rfl,by simp[szD,szL]⟩
 ·exact⟨T8 rfl,by simp[szD,szL]⟩
 ·exact⟨Pd.leaf hb,by simp[szD]⟩
 ·exact⟨T8 rfl,by simp[szD]⟩
 ·exact⟨T8 rfl,by simp[szD,szL]⟩
 ·exact⟨T8 rfl,by simp[szD,szL]⟩
 ·exact⟨T8 rfl,by simp[szD,szL]⟩
 ·exact⟨T8 rfl,by simp[szD,szL]⟩
 ·exact⟨T8 rfl,by simp[szD,szL]⟩
 ·exact⟨T8 rfl,by simp[szD,szL]⟩
 · refine⟨Pd.tup (by decide:2<=6) λy hy=>?_,by simp[szD,szL]⟩
   rcases zi.mp hy with rfl|hy
   ·exact T8 rfl
   ·rw[zq.mp hy];exact Pd.leaf hc
 ·exact⟨T8 rfl,by simp[szD,szL]⟩
 ·exact⟨T8 rfl,by simp[szD,szL]⟩
theorem Pd.rep{n m w k:Nat}{l1 l2:List D}{x y:D}(hn:n<=m)(h:Pd n w k (.tup (l1++y::l2)))(hx:Pd m (w+1) (k+3) x):Pd m (w+1) (k+4) (.tup (l1++x::l2)):=by
 obtain⟨j,rfl,hl,hm⟩:=h.inv
 rw[zx,zp]at hl
 refine Pd.tup (by rw[zx,zp];lia) λz hz=>?_
 rcases zG.mp hz with hz|hz
 ·exact(hm z (jZ _ hz)).up hn (jh _) (by lia)
 · rcases zi.mp hz with rfl|hz
   ·exact hx.up (zd _) (zd _) (by lia)
   ·exact(hm z (zV _ (zf _ hz))).up hn (jh _) (by lia)
theorem dY6{l1 l2:List D}{x:D}:szD (.tup (l1++x::l2))=1+szL l1+szD x+szL l2:=by
 rw[M5,R8,m5];lia
theorem eM7{r w k:Nat}{l1 l2:List D}{x y:D}{G G1 G':DH}(hd:Pd G.length w k (.tup (l1++y::l2)))(f:Fr r G G')(px:Pd G'.length (w+1) (k+3) x)(sx:szD x<=2*szD y+60):SpQ r G w k (szD (.tup (l1++y::l2))) (.tup (l1++x::l2)) G':=by
 refine⟨f,hd.rep f.1 px,?_⟩
 rw[dY6,dY6]
 lia
def eQ5(R:List D->M D)(r w j:Nat):Prop:=∀(p:D) (b:Bool) (G:DH),M8 G r->Pd G.length w j p->aK9 p=true->Wp (R [.ref r,p,.bl b]) G (SpQ r G w j (szD p))
def fN5:DSt->M Bool:=(aB3 (o8 (d7 gtD (c7 5) (cE (.int 2)))) (aB3 (o7 (q15 o6 (q13 (d7 ixD (c7 1) (c7 5)) (q13 (cE (.ty "tuple")) q14)))) (aB3 (o8 (d7 eqD (q15 W8 (q13 (d7 ixD (c7 1) (c7 5)) q14)) (cE (.int 2)))) (o7 (q15 o6 (q13 (d7 ixD (d7 ixD (c7 1) (c7 5)) (cE (.int 0))) (q13 (cE (.ty "tuple")) q14)))))))
theorem fA5:SP7 R=ifS fN5 (K3 (q15 (fnX 3 R) (q13 (c7 0) (q13 (d7 ixD (c7 1) (c7 5)) (q13 (d7 eqD (c7 5) (cE (.int 4))) q14)))) (q16 6)) u0:=rfl
theorem eW8{O:DSt}{x:D}{i:Int}(hi:c7 5 O=c7 5 [none,none,none,none,none,some (.int i)])(h2:2<i)(e:∀G,(d7 ixD (c7 1) (c7 5)) O G=some (.ok x,G))(hx:AT G.length x):EvT (fN5 O) G (aK9 x):=by
 have ec:aK9 x= (true&&(Q7 x&&(aA1 2 x&&Q7 (hdD x)))):=by
  rw[yT]
  constructor
  · intro h
    obtain⟨l,m,rfl⟩:=aF3 h
    rfl
  · intro h
    rw[zT,zg,zg]at h
    obtain⟨l,rfl,hl⟩:=aB9 h.2.1
    obtain⟨a,b,rfl⟩:=aS4 hl
    obtain⟨l,rfl⟩:=aI7 (show Q7 a=true from h.2.2)
    rfl
 rw[ec]
 refine aM0 (T6 λQ q=>Z0 (x:=.int i) (y:=.int 2) (G1:=G) (G2:=G) (by rw[hi];rfl) rfl<| dE6.mpr (by rw[decide_eq_true h2];exact q G Ap.refl)) λ_ G1 j1=>aM0 (R0 (bB3 (aS2 (e G1) rfl) (aH2 hx j1))) λht G2 j2=>?_
 obtain⟨l,rfl⟩:=aI7 ht
 refine aM0 (T6 (eC4 (k:=2) rfl (aP9 (e G2)))) λhl G3 j3=>?_
 obtain⟨a,b,rfl⟩:=aS4 (of_decide_eq_true hl)
 exact R0 (bB3 (aS2 (ix0 (e G3) rfl) rfl) (aH2 (aJ9 hx (zc ..)) (j1.trans (j2.trans j3))))
theorem eS5{li new:D}{i:Int}{p1:Option D}{l:List D}(hi:2<i)(e:atI l i=some li)(hR:aK9 li=true->eQ5 R r w k)(h:M8 G r)(hw:w<=1000)(hl:Pd G.length w k li)(hn:Pd G.length (w+1) (k+4) new/\szD new<=60){P:Fl->DH->Prop}(q:∀x G',Fr r G G'->Pd G'.length (w+1) (k+4) x->szD x<=2*szD li+60->P (.nx [some (.ref r),some (.tup l),some noS,some evS,p1,some (.int i),some x]) G'):
 Wp (SP7 R [some (.ref r),some (.tup l),some noS,some evS,p1,some (.int i),some new]) G P:=by
 have ei:∀G,(d7 ixD (c7 1) (c7 5)) [some (.ref r),some (.tup l),some noS,some evS,p1,some (.int i),some new] G=some (.ok li,G):=λG=>aA3<| Z0 (x:=.tup l) (y:=.int i) rfl rfl<| ix_tup.mpr ⟨li,e,rfl,rfl⟩
 rw[fA5]
 refine aH1<| eW8 (O:= [some (.ref r),some (.tup l),some noS,some evS,p1,some (.int i),some new]) (i:=i) rfl hi ei (hl.all hw).1 _ λG1 j1=>?_
 have f1:Fr r G G1:=by obtain⟨t,rfl⟩:=j1;exact Fr.app h
 rcases hc:aK9 li with _|_
 ·exact⟨λz=>(nomatch z),λ_=>J1.mpr (q new G1 f1 (hn.1.up f1.1 (zd _) (zd _)) (by lia))⟩
 · refine⟨λ_=>?_,λz=>(nomatch z)⟩
   refine S7<| aF5<| J6 (x:=.ref r) rfl<| J6 (ei G1)<| v8<| Z0 (x:=.int i) (y:=.int 4) rfl rfl<| V0.mpr<| o9.mpr<| aL2.mpr ⟨rfl,(hR hc li _ G1 f1.2.2 (hl.up f1.1 (zd _) (zd _)) hc).mono λx G2 ⟨f2,p2,s2⟩=>q x G2 (f1.trans f2) p2 s2⟩
end
section
variable{R:List D->M D}{r w k:Nat}{d:D}{G:DH}
theorem Pd.mem{n w k:Nat}{l:List D}{x:D}(h:Pd n w (k+1) (.tup l))(hx:x∈l):Pd n w k x:=by
 obtain⟨j,e,_,hm⟩:=h.inv
 obtain rfl:k=j:=by lia
 exact hm x hx
theorem cR2(hR:3<=k->eQ5 R r w (k-1))(h:M8 G r)(hw:6<=w)(hw2:w<=900)(hd:Pd G.length w k d):Wp (R3 R [.ref r,d]) G (SpQ r G w k (szD d)):=by
 have hr:=h.lt
 have bg:1000<=zh:=by decide
 refine T4 (show Wp (aK1 R [some (.ref r),some d,none,none,none,none,none]) G _ from ?_)
 rw[fW0]
 refine K9 (X1:= [some (.ref r),some d,some noS,none,none,none,none]) (G':=G) rfl<| K9 (X1:= [some (.ref r),some d,some noS,some evS,none,none,none]) (G':=G) rfl ?_
 rw[fM7]
 refine m9.mpr<| aH1<| (fZ2 h (hd.all (by lia)).1).mono λb G1 ⟨f1,hb⟩=>⟨λ_=>(fP1 f1.2.2).mono ?_,λhf=>J1.mpr ?_⟩
 · rintro _ G2 ⟨x,rfl,f2,p2,s2⟩
   exact R6 ⟨f1.trans f2,p2.up (zd _) (by lia) (by lia),by lia⟩
 obtain⟨l,rfl,hl⟩:=aB9 (hb hf)
 obtain⟨a,b',c,li,re,rfl⟩:=aQ2 hl
 refine m9.mpr<| S7<| v9 (as:= [.ref r,.int 5]) rfl rfl<| V7 f1.2.2 ⟨by decide,by decide⟩ λi h0 h1 G2 f2=>?_
 have h2:=f2.2.2.lt
 have f3:Fr r G2 (G2++[DO.lst []]++[DO.dct []]++[DO.lst (cW0 G2.length (G2++[DO.lst []]).length)]):=by
  rw[zZ,zZ];exact Fr.app f2.2.2
 refine K9 (X1:= [some (.ref r),some (.tup [a,b',c,li,re]),some noS,some evS,some (.ref (G2++[DO.lst []]++[DO.dct []]).length),some (.int i),none]) (G':=G2++[DO.lst []]++[DO.dct []]++[DO.lst (cW0 G2.length (G2++[DO.lst []]).length)]) rfl ?_
 generalize hG3:G2++[DO.lst []]++[DO.dct []]++[DO.lst (cW0 G2.length (G2++[DO.lst []]).length)]=G3 at f3 ⊢
 have e3:G3[(G2++[DO.lst []]++[DO.dct []]).length]? =some (.lst (cW0 G2.length (G2++[DO.lst []]).length)):=by rw[<-hG3];exact o5
 have l3:G3.length=G2.length+3:=by rw[<-hG3];simp
 have f4:Fr r G3 (G3++[DO.lst [.str "a"]]++[DO.lst (bV6 G3.length)]++[DO.lst (cW0 G2.length (G2++[DO.lst []]).length++bV6 G3.length)]):=by
  rw[zZ,zZ];exact Fr.app f3.2.2
 refine m9.mpr<| S7<| w6<| d9 (a:=.ref (G2++[DO.lst []]++[DO.dct []]).length) rfl<| d9 (a:=.ref (G3++[DO.lst [.str "a"]]).length) (G':=G3++[DO.lst [.str "a"]]++[DO.lst (bV6 G3.length)]) rfl<| (bI8 (R4 (R4 e3)) o5 (by show 13+5<=zh;lia)).mpr ?_
 have hp:(G3++[DO.lst [.str "a"]]++[DO.lst (bV6 G3.length)]).length≠r:=by simp;lia
 refine m9.mpr<| S7<| dG7 (p:=(G3++[DO.lst [.str "a"]]++[DO.lst (bV6 G3.length)]).length) (ds:=cW0 G2.length (G2++[DO.lst []]).length++bV6 G3.length) rfl rfl f4.2.2 hp o5 rfl (by decide) (by decide) λnew hnew G5 f5=>?_
 have fr:=(f1.trans (f2.trans f3)).trans (f4.trans f5)
 have l5:=(f4.trans f5).1
 have l4:=f5.1
 simp only[zx,zp,jk]at l4
 have hnew:=eD3 (n:=G5.length) (by lia) (by simp;lia) (by lia) new hnew
 have hd5:=hd.up fr.1 (zd _) (zd _)
 obtain⟨k',rfl,_,hm⟩:=hd.inv
 have fin:∀(x:D) (G':DH) (l1 l2:List D) (y:D), [a,b',c,li,re]=l1++y::l2->Fr r G G'->Pd G'.length (w+1) (k'+4) x->szD x<=2*szD y+60->SpQ r G w (k'+1) (szD (.tup [a,b',c,li,re])) (.tup (l1++x::l2)) G':=λx G' l1 l2 y e f px sx=>by
  rw[e]at hd ⊢
  exact eM7 (G1:=G) hd f px sx
 have np:Pd G5.length (w+1) (k'+4) new:=hnew.1.up (zd _) (by lia) (by lia)
 have hli:=hm li (by simp)
 have hre:=hm re (by simp)
 have sp:∀x∈ [a,b',c,li,re],aK9 x=true->3<=k'+1:=λx hx hc=>by
  obtain⟨fs,m,rfl⟩:=aF3 hc
  obtain⟨j1,e1,_,h1⟩:=(hm _ hx).inv
  obtain⟨j2,e2,_,_⟩:=(h1 (.tup fs) (zc ..)).inv
  lia
 rcases (show i=0\/i=1\/i=2\/i=3\/i=4 by lia)with rfl|rfl|rfl|rfl|rfl
 ·exact K9 (X1:= [some (.ref r),some (.tup [a,b',c,li,re]),some noS,some evS,some (.ref (G3++[DO.lst [.str "a"]]++[DO.lst (bV6 G3.length)]).length),some (.int 0),some new]) (G':=G5) rfl<| d9 (a:=.rt (.tup [new,b',c,li,re])) (G':=G5) rfl<| R6 (fin new G5 [] [b',c,li,re] a rfl fr np (by lia))
 ·exact K9 (X1:= [some (.ref r),some (.tup [a,b',c,li,re]),some noS,some evS,some (.ref (G3++[DO.lst [.str "a"]]++[DO.lst (bV6 G3.length)]).length),some (.int 1),some new]) (G':=G5) rfl<| d9 (a:=.rt (.tup [a,new,c,li,re])) (G':=G5) rfl<| R6 (fin new G5 [a] [c,li,re] b' rfl fr np (by lia))
 ·exact K9 (X1:= [some (.ref r),some (.tup [a,b',c,li,re]),some noS,some evS,some (.ref (G3++[DO.lst [.str "a"]]++[DO.lst (bV6 G3.length)]).length),some (.int 2),some new]) (G':=G5) rfl<| d9 (a:=.rt (.tup [a,b',new,li,re])) (G':=G5) rfl<| R6 (fin new G5 [a,b'] [li,re] c rfl fr np (by lia))
 ·exact m9.mpr<| eS5 (k:=k') (li:=li) (by decide) rfl (λhc=>hR (sp li (by simp) hc)) fr.2.2 (by lia) (hli.up fr.1 (zd _) (zd _)) ⟨np,hnew.2⟩ λx G6 f6 p6 s6=>d9 (a:=.rt (.tup [a,b',c,x,re])) (G':=G6) rfl<| R6 (fin x G6 [a,b',c] [re] li rfl (fr.trans f6) p6 s6)
 ·exact m9.mpr<| eS5 (k:=k') (li:=re) (by decide) rfl (λhc=>hR (sp re (by simp) hc)) fr.2.2 (by lia) (hre.up fr.1 (zd _) (zd _)) ⟨np,hnew.2⟩ λx G6 f6 p6 s6=>d9 (a:=.rt (.tup [a,b',c,li,x])) (G':=G6) rfl<| R6 (fin x G6 [a,b',c,li] [] re rfl (fr.trans f6) p6 s6)
end
theorem fR8{R:List D->M D}:W0 R=j0 BP0 (j0 BP1 (j0 BP2 (j0 BP3 (j0 (BP4 R) (j0 BP5 (j0 BP6 (j0 BP7 (j0 (BP8 R) (j0 BP9 (j0 eH8 (j0 eG4 (j0 eJ6 (j0 eM3 (j0 (eN6 R) (eJ3))))))))))))))):=rfl
section
variable{R:List D->M D}{r w i:Nat}{G:DH}
def dJ0(R:List D->M D)(r w K:Nat):Prop:=∀(x:D) (j:Nat) (G:DH),M8 G r->Pd G.length w j x->j<=K->Wp (R3 R [.ref r,x]) G (SpQ r G w j (szD x))
theorem cP4{n w k:Nat}{rows:List D}{m:D}(h:Pd n w k (.tup [.tup rows,m])):∃i,k=i+2/\rows.length<=w/\(∀x∈rows,Pd n w i x)/\Pd n w (i+1) m:=by
 obtain⟨j,rfl,_,hm⟩:=h.inv
 obtain⟨i,rfl,hl,hx⟩:=(hm (.tup rows) (zc ..)).inv
 exact⟨i,rfl,hl,hx,hm m (zf _ (zc ..))⟩
theorem aM2{rows:List D}{m:D}:szD (.tup [.tup rows,m])=2+szL rows+szD m:=by
 rw[M5,m5,m5,J9,M5];lia
theorem bL6{x m:D}:szD (.tup [x,m])=1+szD x+szD m:=by
 rw[M5,m5,m5,J9];lia
theorem bO7{n w k:Nat}{x m:D}(hw:2<=w)(hx:Pd n w k x)(hm:Pd n w k m):Pd n w (k+1) (.tup [x,m]):=Pd.tup hw λy hy=>by
 rcases zi.mp hy with rfl|hy
 ·exact hx
 ·rw[zq.mp hy];exact hm
theorem aH8{n w k:Nat}{x y m:D}(hw:3<=w)(hx:Pd n w k x)(hy:Pd n w k y)(hm:Pd n w k m):Pd n w (k+1) (.tup [x,y,m]):=Pd.tup hw λz hz=>by
 rcases zi.mp hz with rfl|hz
 ·exact hx
 · rcases zi.mp hz with rfl|hz
   ·exact hy
   ·rw[zq.mp hz];exact hm
theorem bA9{G':DH}{rows rows':List D}{m:D}(f:Fr r G G')(hw:6<=w)(hm:Pd G.length w (i+1) m)(hl:rows'.length<=w+1)(hr:∀x∈rows',Pd G'.length (w+1) (i+4) x)(hs:szL rows'<=2*szL rows+szD m+60):SpQ r G w (i+2) (szD (.tup [.tup rows,m])) (.tup [.tup rows',m]) G':=by
 refine⟨f,bO7 (k:=i+5) (by lia) (Pd.tup (k:=i+4) hl hr) (hm.up f.1 (jh _) (by lia)),?_⟩
 rw[aM2,aM2]
 lia
theorem dD3{n w k:Nat}(hw:6<=w)(hk:3<=k):Pd n w k noS:=(T8 (w:=6) (k:=3) rfl:Pd n 6 3 noS).up (zd _) hw hk
theorem dC6:szD noS=8:=by simp[noS,mkS,szD,szL]
noncomputable def dI9(rows:List D)(m:D)(a b:Nat):List D:= [.tup [.tup rows],.tup [.tup rows,m,m],.ref a,.tup [.ref b,m],.tup [m,.tup rows],.tup [.tup rows,.non],m,.int 7]
theorem fT6{rows:List D}{m:D}{b:D}{kind:Int}{P:Fl->DH->Prop}(h:M8 G r)(hw:6<=w)(hp:Pd G.length w (i+2) (.tup [.tup rows,m]))
 (q1:∀x G',SpQ r G w (i+2) (szD (.tup [.tup rows,m])) x G'->P (.rt x) G') (q2:P (.nx [some (.ref r),some (.tup [.tup rows,m]),some b,some (.tup rows),some m,some noS,some (.int kind),none,none,none]) G):
 Wp (BP3 [some (.ref r),some (.tup [.tup rows,m]),some b,some (.tup rows),some m,some noS,some (.int kind),none,none,none]) G P:=by
 have hr:=h.lt
 refine aH1<| R7<| Z0 (x:=.int kind) (y:=.int 0) rfl rfl<| V0.mpr ⟨_,rfl,λ_=>?_,λ_=>J1.mpr q2⟩
 have fr:Fr r G (G++[DO.lst [.tup rows,m]]++[DO.lst rows]++[DO.lst (dI9 rows m G.length (G++[DO.lst [D.tup rows,m]]).length)]):=by
  rw[zZ,zZ];exact Fr.app h
 refine K9 (X1:= [some (.ref r),some (.tup [.tup rows,m]),some b,some (.tup rows),some m,some noS,some (.int kind),some (.ref (G++[DO.lst [D.tup rows,m]]++[DO.lst rows]).length),none,none]) (G':=G++[DO.lst [.tup rows,m]]++[DO.lst rows]++[DO.lst (dI9 rows m G.length (G++[DO.lst [D.tup rows,m]]).length)]) rfl ?_
 refine U5<| dG7 (p:=(G++[DO.lst [D.tup rows,m]]++[DO.lst rows]).length) (ds:=dI9 rows m G.length (G++[DO.lst [D.tup rows,m]]).length) rfl rfl fr.2.2 (by simp;lia) o5 rfl (by decide) (by decide) λx hx G' f'=>q1 x G' ?_
 have f:=fr.trans f'
 have hl:=f'.1
 simp only[zx,zp,jk]at hl
 have hp':=hp.up f.1 (jh w) (zd _)
 have hrw:Pd G'.length (w+1) (i+1) (.tup rows):=hp'.mem (zc ..)
 have hm:Pd G'.length (w+1) (i+1) m:=hp'.mem (zf _ (zc ..))
 have u:∀ {d:D} {j:Nat},Pd G'.length (w+1) j d->j<=i+6->Pd G'.length (w+1) (i+2+4) d:=λh hj=>h.up (zd _) (zd _) (by lia)
 have s1:szD .non=1:=by rw[szD]
 have s2:∀a,szD (.ref a)=1:=λa=>by rw[szD]
 have s3:∀a,szD (.int a)=1:=λa=>by rw[szD]
 simp only[dI9,zi,zu,or_false]at hx
 rcases hx with rfl|rfl|rfl|rfl|rfl|rfl|rfl|rfl
 · refine⟨f,u (Pd.tup (k:=i+1) (by show 1<=w+1;lia) λy hy=>by rw[zq.mp hy];exact hrw) (by lia),?_⟩
   rw[aM2,M5,m5,J9,M5];lia
 · refine⟨f,u (aH8 (by lia) hrw hm hm) (by lia),?_⟩
   rw[aM2,M5,m5,m5,m5,J9,M5];lia
 ·exact⟨f,Pd.leaf (by show _<_;lia),by rw[s2];lia⟩
 · refine⟨f,u (bO7 (k:=i+1) (by lia) (Pd.leaf (by show _<_;simp;lia)) hm) (by lia),?_⟩
   rw[aM2,bL6,s2];lia
 · refine⟨f,u (bO7 (k:=i+1) (by lia) hm hrw) (by lia),?_⟩
   rw[aM2,bL6,M5];lia
 · refine⟨f,u (bO7 (k:=i+1) (by lia) hrw (Pd.leaf trivial)) (by lia),?_⟩
   rw[aM2,bL6,M5,s1];lia
 · refine⟨f,u hm (by lia),?_⟩
   rw[aM2];lia
 ·exact⟨f,Pd.leaf trivial,by rw[s3];lia⟩
theorem fR4{rows:List D}{m:D}{b:D}{kind:Int}{P:Fl->DH->Prop}(hS:dJ0 R r w (i+1))(h:M8 G r)(hw:6<=w)(hp:Pd G.length w (i+2) (.tup [.tup rows,m]))
 (q1:∀x G',SpQ r G w (i+2) (szD (.tup [.tup rows,m])) x G'->P (.rt x) G') (q2:P (.nx [some (.ref r),some (.tup [.tup rows,m]),some b,some (.tup rows),some m,some noS,some (.int kind),none,none,none]) G):
 Wp (BP4 R [some (.ref r),some (.tup [.tup rows,m]),some b,some (.tup rows),some m,some noS,some (.int kind),none,none,none]) G P:=by
 refine aH1<| R7<| Z0 (x:=.int kind) (y:=.int 1) rfl rfl<| V0.mpr ⟨_,rfl,λ_=>?_,λ_=>J1.mpr q2⟩
 have hm:Pd G.length w (i+1) m:=hp.mem (zf _ (zc ..))
 have hrw:Pd G.length w (i+1) (.tup rows):=hp.mem (zc ..)
 refine U5<| aB7.mpr<| J6 (x:=.tup rows) rfl<| v8<| v9 (as:= [.ref r,m]) rfl rfl<| (hS m (i+1) G h hm (zd _)).mono λx G' ⟨f,px,sx⟩=>o9.mpr ⟨sz,q1 _ _ ⟨f,bO7 (k:=i+5) (by lia) (hrw.up f.1 (jh _) (by lia)) px,?_⟩⟩
 rw[aM2,bL6,M5];lia
theorem fU6{rows:List D}{m:D}{b:Bool}{kind:Int}{P:Fl->DH->Prop}(h:M8 G r)(hw:6<=w)(hp:Pd G.length w (i+2) (.tup [.tup rows,m]))
 (q1:∀x G',SpQ r G w (i+2) (szD (.tup [.tup rows,m])) x G'->P (.rt x) G') (q2:rows≠ []->P (.nx [some (.ref r),some (.tup [.tup rows,m]),some (.bl b),some (.tup rows),some m,some noS,some (.int kind),none,none,none]) G):
 Wp (BP5 [some (.ref r),some (.tup [.tup rows,m]),some (.bl b),some (.tup rows),some m,some noS,some (.int kind),none,none,none]) G P:=by
 refine aH1<| R7<| Z0 (x:=.tup rows) (y:=.tup []) (G1:=G) (G2:=G) rfl rfl<| eK3.mpr ⟨_,rfl,λhe=>?_,λhe=>J1.mpr (q2 λe=>by subst e;cases he)⟩
 obtain rfl:rows= []:=List.isEmpty_iff.mp he
 have hm:Pd G.length w (i+1) m:=hp.mem (zf _ (zc ..))
 have s1:∀z,szD (.str z)=1:=λa=>by rw[szD]
 have s2:∀z,szD (.bl z)=1:=λa=>by rw[szD]
 refine U5<| aB7.mpr<| v8<| aB7.mpr<| v8<| w6<| aI8.mpr<| J6 (x:=noS) rfl<| v8<| aB7.mpr<| J6 (x:=.str "a") rfl<| J6 (x:=.bl (decide (3<kind))) rfl<| v8<| aZ7 rfl (by decide) (by decide)<| d9 (a:= [noS,m]) (G':=G) rfl ⟨sz,h,rfl,λy hy G1 f1=>o9.mpr ⟨sz,o9.mpr ⟨sz,?_⟩⟩⟩
 have hy1:Pd G1.length (w+1) (i+3) y/\szD y<=szD m+8:=by
  rcases zi.mp hy with rfl|hy
  ·exact⟨dD3 (by lia) (by lia),by rw[dC6];lia⟩
  ·rw[zq.mp hy];exact⟨hm.up f1.1 (jh _) (by lia),by lia⟩
 refine aI3 (as:= [.bl b]) (G1:=G1++[DO.lst [noS,.tup [.str "a",.bl (decide (3<kind)),y]]]) rfl<| dA4.mpr<| (aL3 o5).mpr ?_
 have f2:=f1.trans (Fr.app (t:= [DO.lst [noS,.tup [.str "a",.bl (decide (3<kind)),y]]]) f1.2.2)
 have fin:∀z,Pd (G1++[DO.lst [noS,.tup [.str "a",.bl (decide (3<kind)),y]]]).length (w+1) (i+4) z->szD z<=szD m+20->P (.rt (.tup [.tup [z],m])) (G1++[DO.lst [noS,.tup [.str "a",.bl (decide (3<kind)),y]]]):=λz pz sz'=>q1 _ _ (bA9 f2 hw hm (by show 1<=w+1;lia) (λx hx=>by rw[zq.mp hx];exact pz) (by rw[m5,J9];lia))
 rcases b with _|_
 ·exact⟨noS,rfl,o9.mpr ⟨sz,d9 (a:= [m]) rfl ⟨sz,fin noS (dD3 (by lia) (by lia)) (by rw[dC6];lia)⟩⟩⟩
 · refine⟨_,rfl,o9.mpr ⟨sz,d9 (a:= [m]) rfl ⟨sz,fin _ (aH8 (k:=i+3) (by lia) (Pd.leaf ⟨by decide,by decide⟩) (Pd.leaf trivial) (hy1.1.up (by simp) (zd _) (zd _))) ?_⟩⟩⟩
   rw[M5,m5,m5,m5,J9,s1,s2];lia
end
theorem bG8{rows:List D}{a:Nat}{y:D}(h:rows[a]? =some y):rows=rows.take a++y::rows.drop (a+1):=by
 have hl:=(ju.mp h).1
 have e:=(ju.mp h).2
 have h1:=List.take_append_drop a rows
 rw[yk hl,e]at h1
 exact h1.symm
theorem dB5{rows:List D}{a:Nat}{y:D}(h:rows[a]? =some y):rows.drop a=y::rows.drop (a+1):=by
 have hl:=(ju.mp h).1
 have e:=(ju.mp h).2
 rw[yk hl,e]
section
variable{R:List D->M D}{r w i a:Nat}{G:DH}{rows:List D}{m y:D}{p b s7 s9:Option D}{kind:Int}
abbrev bst(r:Nat)(p b:Option D)(rows:List D)(m:D)(kind:Int)(s7:Option D)(a:Nat)(s9:Option D):DSt:= [some (.ref r),p,b,some (.tup rows),some m,some noS,some (.int kind),s7,some (.int (a:Int)),s9]
theorem dB9:(P0 (c7 3) (Q6) (T5 (c7 8))) (bst r p b rows m kind s7 a s9) G=some (.ok (.tup (rows.take a)),G):=aA3<| aD5.mpr<| d9 (a:=.tup rows) (G':=G) rfl<| d9 (a:=none) (G':=G) rfl<| d9 (a:=some (a:Int)) (G':=G) rfl<| bJ7.mpr (by rw[cA0];exact⟨rfl,rfl⟩)
theorem dF8:(P0 (c7 3) (T5 (d7 Q3 (c7 8) (cE (.int 1)))) (Q6)) (bst r p b rows m kind s7 a s9) G=some (.ok (.tup (rows.drop (a+1))),G):=aA3<| aD5.mpr<| d9 (a:=.tup rows) (G':=G) rfl<| d9 (a:=some ((a+1:Nat):Int)) (G':=G) rfl<| d9 (a:=none) (G':=G) rfl<| bJ7.mpr (by rw[cV5];exact⟨rfl,rfl⟩)
theorem eJ5:(P0 (c7 3) (T5 (c7 8)) (Q6)) (bst r p b rows m kind s7 a s9) G=some (.ok (.tup (rows.drop a)),G):=aA3<| aD5.mpr<| d9 (a:=.tup rows) (G':=G) rfl<| d9 (a:=some (a:Int)) (G':=G) rfl<| d9 (a:=none) (G':=G) rfl<| bJ7.mpr (by rw[cV5];exact⟨rfl,rfl⟩)
theorem eR5{e:Fe}{Q:DPP}(hl:rows.length<=900)(he:Wp (e (bst r p b rows m kind s7 a s9)) G λx G'=>Q (.tup (rows.take a++x::rows.drop (a+1))) G'):Wp (d7 Q3 (d7 Q3 (P0 (c7 3) (Q6) (T5 (c7 8))) (v7 (q13 e q14))) (P0 (c7 3) (T5 (d7 Q3 (c7 8) (cE (.int 1)))) (Q6)) (bst r p b rows m kind s7 a s9)) G Q:=by
 have bg:2000<=zh:=by decide
 have l1:(rows.take a).length<=900:=by rw[yt];lia
 have l2:(rows.drop (a+1)).length<=900:=by rw[yf];lia
 refine w6<| w6<| d9 dB9<| aB7.mpr<| v8<| he.mono λx G' q=>o9.mpr ⟨sz,(bM2 (by show _+1<=_;lia)).mpr<| d9 dF8<| (bM2 (by rw[zx];show _+1+_<=_;lia)).mpr ?_⟩
 rw[zZ]
 exact q
theorem cO0{x:D}{G':DH}(f:Fr r G G')(hw:6<=w)(hm:Pd G.length w (i+1) m)(hl:rows.length<=w)(hr:∀x∈rows,Pd G.length w i x)(hy:rows[a]? =some y)(px:Pd G'.length (w+1) (i+4) x)(sx:szD x<=2*szD y+szD m+60):SpQ r G w (i+2) (szD (.tup [.tup rows,m])) (.tup [.tup (rows.take a++x::rows.drop (a+1)),m]) G':=by
 have e:=bG8 hy
 have el:=congrArg Zg e
 have es:=congrArg szL e
 rw[zx,zp]at el
 rw[R8,m5]at es
 refine bA9 f hw hm (by rw[zx,zp];lia) (λz hz=>?_) (by rw[R8,m5];lia)
 rcases zG.mp hz with hz|hz
 ·exact(hr z (yG hz)).up f.1 (jh _) (by lia)
 · rcases zi.mp hz with rfl|hz
   ·exact px
   ·exact(hr z (jY hz)).up f.1 (jh _) (by lia)
theorem bY7{e:Fe}{O:DSt}{G:DH}{P:Fl->DH->Prop}(hm:∀G,c7 4 O G=some (.ok m,G))(w:Wp (e O) G λx G'=>P (.rt (.tup [x,m])) G'):Wp (t8 (v7 (q13 e (q13 (c7 4) q14))) O) G P:=U5<| aB7.mpr<| v8<| w.mono λx G' q=>d9 (a:= [m]) (G':=G') (aP9 (hm G')) ⟨sz,q⟩
theorem fZ3{b:Bool}{P:Fl->DH->Prop}(hS:dJ0 R r w (i+1))(h:M8 G r)(hw:6<=w)(hw2:w<=900)(hm:Pd G.length w (i+1) m)(hl:rows.length<=w)(hr:∀x∈rows,Pd G.length w i x)(hy:rows[a]? =some y)
 (q1:∀x G',SpQ r G w (i+2) (szD (.tup [.tup rows,m])) x G'->P (.rt x) G') (q2:b=true->P (.nx (bst r p (some (.bl b)) rows m kind s7 a (some y))) G):
 Wp (BP8 R (bst r p (some (.bl b)) rows m kind s7 a (some y))) G P:=by
 by_cases hb:b=true
 · subst hb
   exact eZ3 (G1:=G) rfl<| J1.mpr (q2 rfl)
 have hb:b=false:=by simpa using hb
 subst hb
 refine eE3 (G1:=G) rfl<| bY7 (λ_=>rfl)<| eR5 (by lia) ?_
 have py:=hr y (jC hy)
 refine w6<| aI8.mpr<| J6 (x:=noS) rfl<| v8<| v9 (as:= [.ref r,y]) rfl rfl<| (hS y i G h py (by lia)).mono λx G1 ⟨f1,px,sx⟩=>o9.mpr ⟨sz,aI3 (as:= [.bl (decide (3<kind))]) rfl<| dA4.mpr<| (aL3 o5).mpr ?_⟩
 have f2:=f1.trans (Fr.app (t:= [DO.lst [noS,x]]) f1.2.2)
 rcases decide (3<kind)with _|_
 ·exact⟨noS,rfl,q1 _ _ (cO0 f2 hw hm hl hr hy (dD3 (by lia) (by lia)) (by rw[dC6];lia))⟩
 ·exact⟨x,rfl,q1 _ _ (cO0 f2 hw hm hl hr hy (px.up (by simp) (zd _) (zd _)) (by lia))⟩
theorem fS2{P:Fl->DH->Prop}(h:M8 G r)(hw:6<=w)(hm:Pd G.length w (i+1) m)(hl:rows.length<=w)(hr:∀x∈rows,Pd G.length w i x)
 (q1:∀x G',SpQ r G w (i+2) (szD (.tup [.tup rows,m])) x G'->P (.rt x) G') (q2:P (.nx (bst r p b rows m kind s7 a s9)) G):
 Wp (BP9 (bst r p b rows m kind s7 a s9)) G P:=by
 refine aH1<| R7<| Z0 (x:=.int kind) (y:=.int 2) rfl rfl<| V0.mpr ⟨_,rfl,λ_=>?_,λ_=>J1.mpr q2⟩
 refine bY7 (λ_=>rfl)<| fS7.mpr<| d9 (a:=.tup rows) (G':=G) rfl<| dS4.mpr<| q1 _ _<| bA9 (Fr.refl h) hw hm (by rw[xv];lia) (λz hz=>(hr z (List.mem_reverse.mp hz)).up (zd _) (jh _) (by lia)) (by rw[dE2];lia)
theorem fE8{P:Fl->DH->Prop}(h:M8 G r)(hw:6<=w)(hw2:w<=900)(hm:Pd G.length w (i+1) m)(hl:rows.length<=w)(hr:∀x∈rows,Pd G.length w i x)(hy:rows[a]? =some y)
 (q1:∀x G',SpQ r G w (i+2) (szD (.tup [.tup rows,m])) x G'->P (.rt x) G') (q2:aA1 3 y=true->∀G',Fr r G G'->P (.nx (bst r p b rows m kind s7 a (some y))) G'):
 Wp (eH8 (bst r p b rows m kind s7 a (some y))) G P:=by
 have bg:2000<=zh:=by decide
 have py:=hr y (jC hy)
 have ev:EvT (orT (o8 (d7 eqD (c7 6) (cE (.int 3)))) (orT (R1 (o7 (q15 o6 (q13 (c7 9) (q13 (cE (.ty "tuple")) q14))))) (o8 (d7 neD (q15 W8 (q13 (c7 9) q14)) (cE (.int 3))))) (bst r p b rows m kind s7 a (some y))) G (decide (kind=3)||!aA1 3 y):=
  aS0 (T6 λQ q=>Z0 (x:=.int kind) (y:=.int 3) (G1:=G) (G2:=G) rfl rfl<| V0.mpr (q G Ap.refl)) λ_ G1 j1=>eV0 (k:=3) rfl (λ_=>rfl) (aH2 (py.all (by lia)).1 j1)
 refine aH1<| ev _ λG1 j1=>?_
 have f1:Fr r G G1:=by obtain⟨t,rfl⟩:=j1;exact Fr.app h
 refine⟨λ_=>?_,λhb=>J1.mpr (q2 ?_ G1 f1)⟩
 · have l1:(rows.take a).length<=900:=by rw[yt];lia
   have l2:(rows.drop a).length<=900:=by rw[yf];lia
   refine bY7 (λ_=>rfl)<| w6<| w6<| d9 dB9<| d9 (a:=.tup [y]) (G':=G1) rfl<| (bM2 (by show _+1<=_;lia)).mpr<| d9 eJ5<| (bM2 (by rw[zx];show _+1+_<=_;lia)).mpr ?_
   have e:=bG8 hy
   have e2:=dB5 hy
   have el:=congrArg Zg e
   have es:=congrArg szL e
   rw[zx,zp]at el
   rw[R8,m5]at es
   rw[zZ,e2]
   refine q1 _ _ (bA9 f1 hw hm ?_ (λz hz=>?_) ?_)
   · show (rows.take a++y::y::rows.drop (a+1)).length<=_
     rw[zx,zp,zp];lia
   · have hz:z∈rows.take a++y::y::rows.drop (a+1):=hz
     rcases zG.mp hz with hz|hz
     ·exact(hr z (yG hz)).up f1.1 (jh _) (by lia)
     · rcases zi.mp hz with rfl|hz
       ·exact py.up f1.1 (jh _) (by lia)
       · rcases zi.mp hz with rfl|hz
         ·exact py.up f1.1 (jh _) (by lia)
         ·exact(hr z (jY hz)).up f1.1 (jh _) (by lia)
   · show szL (rows.take a++y::y::rows.drop (a+1))<=_
     rw[R8,m5,m5];lia
 · rw[zU]at hb
   simpa using hb.2
theorem fL0{z t v:D}{P:Fl->DH->Prop}(h:M8 G r)(hw:6<=w)(hw2:w<=900)(hm:Pd G.length w (i+1) m)(hl:rows.length<=w)(hr:∀x∈rows,Pd G.length w i x)(hy:rows[a]? =some (.tup [z,t,v]))
 (q1:∀x G',SpQ r G w (i+2) (szD (.tup [.tup rows,m])) x G'->P (.rt x) G') (q2:aF6 z=true->X7 t=true->∀G',Fr r G G'->P (.nx (bst r p b rows m kind s7 a (some (.tup [z,t,v])))) G'):
 Wp (eG4 (bst r p b rows m kind s7 a (some (.tup [z,t,v])))) G P:=by
 have bg:2000<=zh:=by decide
 have py:=((hr _ (jC hy)).all (by lia:w<=1000)).1
 have ev:EvT (orT (R1 (o7 (q15 o6 (q13 (d7 ixD (c7 9) (cE (.int 0))) (q13 (cE (.ty "str")) q14))))) (R1 (o7 (q15 o6 (q13 (d7 ixD (c7 9) (cE (.int 1))) (q13 (cE (.ty "bool")) q14))))) (bst r p b rows m kind s7 a (some (.tup [z,t,v])))) G (!aF6 z||!X7 t):=
  aS0 (aB2 (R0 (cD8 (aS2 (ix0 rfl rfl) rfl) (aJ9 py (zc ..)).there))) λ_ G1 j1=>aB2 (R0 (cI2 (aS2 (ix0 rfl rfl) rfl) (aH2 (aJ9 py (zf _ (zc ..))) j1)))
 refine aH1<| ev _ λG1 j1=>?_
 have f1:Fr r G G1:=by obtain⟨t,rfl⟩:=j1;exact Fr.app h
 refine⟨λ_=>?_,λhb=>J1.mpr ?_⟩
 · have l1:(rows.take a).length<=900:=by rw[yt];lia
   have l2:(rows.drop (a+1)).length<=900:=by rw[yf];lia
   refine bY7 (λ_=>rfl)<| w6<| d9 dB9<| d9 dF8<| (bM2 (by lia)).mpr ?_
   have e:=bG8 hy
   have el:=congrArg Zg e
   have es:=congrArg szL e
   rw[zx,zp]at el
   rw[R8,m5]at es
   refine q1 _ _ (bA9 f1 hw hm (by rw[zx];lia) (λz hz=>?_) (by rw[R8];lia))
   rcases zG.mp hz with hz|hz
   ·exact(hr z (yG hz)).up f1.1 (jh _) (by lia)
   ·exact(hr z (jY hz)).up f1.1 (jh _) (by lia)
 · rw[zU,zY,zY]at hb
   exact q2 hb.1 hb.2 G1 f1
end
theorem fM9{z:Str}{G:DH}{Q:DPP}(h:TA z)(q:Q (.str (upS z)) G):Wp (upD (.str z) []) G Q:=by
 have bg:1000<=zh:=by decide
 have e:upD (.str z) []=if (upS z).length<=zh then pure (.str (upS z))else M.stuck:=rfl
 rw[e,if_pos (zv (eR8 h).2 bg)]
 exact m6.mpr q
def bT7(n:Nat)(z:Str)(t:Bool)(v:D):List D:= [.tup [.str z,.bl t],.tup [.str z,.bl t,v,.int 0],.ref n,.tup [.str z,.int (if t then 1 else 0),v],.tup [.str (upS z),.bl t,v]]
def bB0(z:Str)(t:Bool)(v m:D):List D:= [.tup [.str "",.bl t,v],.tup [.str z,.bl false,m],.tup [.str z,.bl true,noS],.tup [.str z,.bl true,m]]
section
variable{R:List D->M D}{r w i a:Nat}{G:DH}{rows:List D}{m v:D}{p b:Option D}{kind:Int}{z:Str}{t:Bool}
theorem fC8{P:Fl->DH->Prop}(hz:TA z)(q:P (.nx (bst r p b rows m kind (some (.ref (G++[DO.lst [.str z,.bl t,v]]).length)) a (some (.tup [.str z,.bl t,v])))) (G++[DO.lst [.str z,.bl t,v]]++[DO.lst (bT7 G.length z t v)])):Wp (eJ6 (bst r p b rows m kind none a (some (.tup [.str z,.bl t,v])))) G P:=
 S7<| aI8.mpr<| J6 (x:=.tup [.str z,.bl t]) (G1:=G) rfl<| J6 (x:=.tup [.str z,.bl t,v,.int 0]) (G1:=G) rfl<| J6 (x:=.ref G.length) (G1:=G++[DO.lst [.str z,.bl t,v]]) rfl<| J6 (x:=.tup [.str z,.int (if t then 1 else 0),v]) (G1:=G++[DO.lst [.str z,.bl t,v]]) (by cases t<;>rfl)<| v8<| aB7.mpr<| v8<| aT5.mpr<| d9 (a:=.str z) (G':=G++[DO.lst [.str z,.bl t,v]]) rfl<| d9 (a:=()) (G':=G++[DO.lst [.str z,.bl t,v]]) rfl<| o9.mpr<| fM9 hz<| d9 (a:= [.bl t,v]) (G':=G++[DO.lst [.str z,.bl t,v]]) rfl ⟨sz,o9.mpr ⟨sz,q⟩⟩
theorem fH2{P:Fl->DH->Prop}{s:Nat}{l:List D}(e:G[s]? =some (.lst l))(hl:l.length=5)(q:P (.nx (bst r p b rows m kind (some (.ref (G++[DO.lst (bB0 z t v m)]).length)) a (some (.tup [.str z,.bl t,v])))) (G++[DO.lst (bB0 z t v m)]++[DO.lst (l++bB0 z t v m)])):Wp (eM3 (bst r p b rows m kind (some (.ref s)) a (some (.tup [.str z,.bl t,v])))) G P:=
 S7<| w6<| d9 (a:=.ref s) rfl<| d9 (a:=.ref G.length) (G':=G++[DO.lst (bB0 z t v m)]) rfl<| (bI8 (R4 e) o5 (by rw[hl];exact(by decide:5+4<=zh))).mpr q
theorem fJ8{P:Fl->DH->Prop}{s:Nat}{ds:List D}{s9:Option D}(h:M8 G r)(hs:s≠r)(e:G[s]? =some (.lst ds))(hn:ds.length=10)(hl:rows.length<=900)(q:∀x∈ds,∀G',Fr r G G'->P (.rt (.tup [.tup (rows.take a++x::rows.drop (a+1)),m])) G'):Wp (eJ3 (bst r p b rows m kind (some (.ref s)) a s9)) G P:=
 bY7 (λ_=>rfl)<| eR5 hl<| dG7 (p:=s) (ds:=ds) rfl rfl h hs e (by rw[hn];rfl) (by decide) (by decide) q
theorem eX1{n' n'' j:Nat}{x:D}(hw:6<=w)(hn:n'<n'')(hz:TA z)(hv:Pd n'' (w+1) j v)(hm:Pd n'' (w+1) (j+2) m)(hx:Pd n'' (w+1) (j+4) x)(sx:szD x<=2*szD v+60):∀o∈bT7 n' z t v++bB0 z t v m++[.tup [.str z,.bl t,x]],Pd n'' (w+1) (j+5) o/\szD o<=2*szD (.tup [.str z,.bl t,v])+szD m+60:=by
 intro o ho
 have s1:∀z,szD (.str z)=1:=λa=>by rw[szD]
 have s2:∀z,szD (.bl z)=1:=λa=>by rw[szD]
 have s3:∀z,szD (.int z)=1:=λa=>by rw[szD]
 have s4:∀z,szD (.ref z)=1:=λa=>by rw[szD]
 have s5:=dC6
 have st:∀ {a b c:D},szD (.tup [a,b,c])=1+szD a+szD b+szD c:=λ{a b c}=>by rw[M5,m5,m5,m5,J9];lia
 have pz:∀ {k:Nat},Pd n'' (w+1) k (.str z):=Pd.leaf hz
 have pb:∀ {k:Nat} {c:Bool},Pd n'' (w+1) k (.bl c):=Pd.leaf trivial
 have w3:3<=w+1:=by lia
 have v4:Pd n'' (w+1) (j+4) v:=hv.up (zd _) (zd _) (by lia)
 have m4:Pd n'' (w+1) (j+4) m:=hm.up (zd _) (zd _) (by lia)
 have n4:Pd n'' (w+1) (j+4) noS:=dD3 (by lia) (by lia)
 simp only[bT7,bB0,ZN,jJ,zi,zu,or_false]at ho
 rcases ho with rfl|rfl|rfl|rfl|rfl|rfl|rfl|rfl|rfl|rfl
 ·exact⟨bO7 (by lia) pz pb,by rw[st,bL6,s1,s2];lia⟩
 · refine⟨Pd.tup (k:=j+4) (by show 4<=w+1;lia) λy hy=>?_,by rw[st,M5,m5,m5,m5,m5,J9,s1,s2,s3];lia⟩
   simp only[zi,zu,or_false]at hy
   rcases hy with rfl|rfl|rfl|rfl
   ·exact pz
   ·exact pb
   ·exact v4
   ·exact Pd.leaf trivial
 ·exact⟨Pd.leaf hn,by rw[s4];lia⟩
 ·exact⟨aH8 w3 pz (Pd.leaf trivial) v4,by rw[st,st,s1,s2,s3];lia⟩
 ·exact⟨aH8 w3 (Pd.leaf (eR8 hz)) pb v4,by rw[st,st,s1,s1,s2];lia⟩
 ·exact⟨aH8 w3 (Pd.leaf ⟨by decide,by decide⟩) pb v4,by rw[st,st,s1,s1,s2];lia⟩
 ·exact⟨aH8 w3 pz pb m4,by rw[st,st,s1,s2,s2];lia⟩
 ·exact⟨aH8 w3 pz pb n4,by rw[st,st,s1,s2,s2,s5];lia⟩
 ·exact⟨aH8 w3 pz pb m4,by rw[st,st,s1,s2,s2];lia⟩
 ·exact⟨aH8 w3 pz pb hx,by rw[st,st,s1,s2];lia⟩
theorem eY9{P:Fl->DH->Prop}{s j:Nat}{l:List D}(hS:dJ0 R r w (i+1))(hj:j<=i+1)(h:M8 G r)(hs:s≠r)(e:G[s]? =some (.lst l))(hl:l.length=9)(hv:Pd G.length w j v)(q:∀x G',Fr r G G'->Pd G'.length (w+1) (j+4) x->szD x<=2*szD v+60->P (.nx (bst r p b rows m kind (some (.ref s)) a (some (.tup [.str z,.bl t,v])))) (G'.set s (.lst (l++[.tup [.str z,.bl t,x]])))):Wp (eN6 R (bst r p b rows m kind (some (.ref s)) a (some (.tup [.str z,.bl t,v])))) G P:=by
 have bg:1000<=zh:=by decide
 refine aM6.mpr<| aT5.mpr<| d9 (a:=.ref s) rfl<| (T3 e).mpr<| v8<| aB7.mpr<| J6 (x:=.str z) rfl<| J6 (x:=.bl t) rfl<| v8<| v9 (as:= [.ref r,v]) rfl rfl<| (hS v j G h hv hj).mono λx G' ⟨f,px,sx⟩=>o9.mpr ⟨sz,o9.mpr<| (aP7 (f.at hs e) (by lia)).mpr (q x G' f px sx)⟩
theorem fM5{b:Bool}(hS:dJ0 R r w (i+1))(h:M8 G r)(hw:6<=w)(hw2:w<=900)(hp:Pd G.length w (i+2) (.tup [.tup rows,m])):Wp (K4 10 (W0 R) [.ref r,.tup [.tup rows,m],.bl b]) G (SpQ r G w (i+2) (szD (.tup [.tup rows,m]))):=by
 refine T4 (show Wp (W0 R [some (.ref r),some (.tup [.tup rows,m]),some (.bl b),none,none,none,none,none,none,none]) G _ from ?_)
 rw[fR8]
 refine K9 (X1:= [some (.ref r),some (.tup [.tup rows,m]),some (.bl b),some (.tup rows),some m,none,none,none,none,none]) (G':=G) rfl<| K9 (X1:= [some (.ref r),some (.tup [.tup rows,m]),some (.bl b),some (.tup rows),some m,some noS,none,none,none,none]) (G':=G) rfl<| m9.mpr<| S7<| v9 (as:= [.ref r,.int 8]) rfl rfl<| V7 h ⟨by decide,by decide⟩ λkind _ _ G1 f1=>?_
 have hp1:=hp.up f1.1 (zd _) (zd _)
 have back:∀ {G2:DH},Fr r G G2->∀x G',SpQ r G2 w (i+2) (szD (.tup [.tup rows,m])) x G'->PB (SpQ r G w (i+2) (szD (.tup [.tup rows,m]))) (.rt x) G':=λf2 x G' ⟨f,p,s⟩=>R6 ⟨f2.trans f,p,s⟩
 refine m9.mpr<| fT6 f1.2.2 hw hp1 (back f1)<| m9.mpr<| fR4 hS f1.2.2 hw hp1 (back f1)<| m9.mpr<| fU6 f1.2.2 hw hp1 (back f1) λhne=>?_
 obtain⟨i',ei,hl,hr1,hm1⟩:=cP4 hp1
 obtain rfl:i=i':=by lia
 have hpos:0<rows.length:=List.length_pos_iff.mpr hne
 refine m9.mpr<| S7<| v9 (as:= [.ref r,.int rows.length]) rfl rfl<| V7 f1.2.2 ⟨by lia,by lia⟩ λat' h0 h1 G2 f2=>?_
 obtain⟨a,rfl⟩:∃a:Nat,at'= (a:Int):=⟨at'.toNat,by lia⟩
 have hy:rows[a]? =some (rows[a]'(by lia)):=zD (by lia)
 generalize rows[a]'(by lia)=y at hy
 refine m9.mpr<| S7<| Z0 (x:=.tup rows) (y:=.int (a:Int)) (G1:=G2) (G2:=G2) rfl rfl<| ix_tup.mpr ⟨y,atI_nat hy,?_⟩
 have f12:=f1.trans f2
 have hr2:∀x∈rows,Pd G2.length w i x:=λx hx=>(hr1 x hx).up f2.1 (zd _) (zd _)
 have hm2:=hm1.up f2.1 (zd _) (zd _)
 refine m9.mpr<| fZ3 hS f2.2.2 hw hw2 hm2 hl hr2 hy (back f12) λhb=>m9.mpr<| fS2 f2.2.2 hw hm2 hl hr2 (back f12)<| m9.mpr<| fE8 f2.2.2 hw hw2 hm2 hl hr2 hy (back f12) λh3 G3 f3=>?_
 obtain⟨l,rfl,hk⟩:=aB9 h3
 obtain⟨z,t,v,rfl⟩:=bI5 hk
 have f13:=f12.trans f3
 have hr3:∀x∈rows,Pd G3.length w i x:=λx hx=>(hr2 x hx).up f3.1 (zd _) (zd _)
 have hm3:=hm2.up f3.1 (zd _) (zd _)
 refine m9.mpr<| fL0 f3.2.2 hw hw2 hm3 hl hr3 hy (back f13) λhz ht G4 f4=>?_
 obtain⟨z,rfl⟩:=bH3 hz
 obtain⟨t,rfl⟩:=W3 ht
 have f14:=f13.trans f4
 have hr4:∀x∈rows,Pd G4.length w i x:=λx hx=>(hr3 x hx).up f4.1 (zd _) (zd _)
 have hm4:=hm3.up f4.1 (zd _) (zd _)
 obtain⟨j,rfl,_,hy4⟩:=(hr4 _ (jC hy)).inv
 have hza:TA z:=by
  have:=hy4 (.str z) (zc ..)
  cases j
  ·exact this
  · rcases this with this|⟨l,e,_⟩
    ·exact this
    ·cases e
 have hv4:=hy4 v (zf _ (zf _ (zc ..)))
 have r4:=f4.2.2.lt
 refine m9.mpr<| fC8 hza ?_
 have f5:Fr r G4 (G4++[DO.lst [.str z,.bl t,v]]++[DO.lst (bT7 G4.length z t v)]):=by
  rw[zZ];exact Fr.app f4.2.2
 refine m9.mpr<| fH2 (l:=bT7 G4.length z t v) o5 rfl ?_
 have e5:(G4++[DO.lst [.str z,.bl t,v]]++[DO.lst (bT7 G4.length z t v)]).length=G4.length+2:=by simp
 generalize G4++[DO.lst [.str z,.bl t,v]]++[DO.lst (bT7 G4.length z t v)]=G5 at f5 e5 ⊢
 have f6:Fr r G5 (G5++[DO.lst (bB0 z t v m)]++[DO.lst (bT7 G4.length z t v++bB0 z t v m)]):=by
  rw[zZ];exact Fr.app f5.2.2
 have hs:(G5++[DO.lst (bB0 z t v m)]).length≠r:=by simp;lia
 have f16:=f14.trans (f5.trans f6)
 refine m9.mpr<| eY9 (j:=j) (l:=bT7 G4.length z t v++bB0 z t v m) hS (by lia) f6.2.2 hs o5 rfl (hv4.up (f5.trans f6).1 (zd _) (zd _)) λx G7 f7 px sx=>?_
 have e7:G7[(G5++[DO.lst (bB0 z t v m)]).length]? =some (.lst (bT7 G4.length z t v++bB0 z t v m)):=f7.at hs o5
 have f8:Fr2 r (G5++[DO.lst (bB0 z t v m)]).length G7 (G7.set (G5++[DO.lst (bB0 z t v m)]).length (.lst (bT7 G4.length z t v++bB0 z t v m++[.tup [.str z,.bl t,x]]))):=Fr2.set hs f7.2.2
 have fb:Fr r G4 (G7.set (G5++[DO.lst (bB0 z t v m)]).length (.lst (bT7 G4.length z t v++bB0 z t v m++[.tup [.str z,.bl t,x]]))):=f8.back (f5.trans (f6.trans f7)) (by simp;lia)
 refine fJ8 fb.2.2 hs (zF (lt_of_get e7)) rfl (by lia) λo ho G9 f9=>back f14 _ _ ?_
 have L:G7.length<=G9.length:=by have:=f9.1;rw[Je]at this;exact this
 have L4:G4.length<=G9.length:=(fb.trans f9).1
 have hno:G4.length<G9.length:=by
  have a1:=f7.1
  have a2:=f6.1
  lia
 have op:=eX1 (t:=t) (n':=G4.length) (n'':=G9.length) hw hno hza (hv4.up L4 (jh _) (zd _)) (hm4.up L4 (jh _) (by lia)) (px.up L (zd _) (zd _)) sx o ho
 exact cO0 (i:=j+1) (fb.trans f9) hw hm4 hl hr4 hy op.1 op.2
end
theorem eU6{r w:Nat}(hw:6<=w)(hw2:w<=900):∀(n k:Nat) (d:D) (G:DH),k<=2*n+2->M8 G r->Pd G.length w k d->Wp (R3 (aF2 n) [.ref r,d]) G (SpQ r G w k (szD d))
 |0,k,d,G,hk,h,hd=>cR2 (λh3=>by lia) h hw hw2 hd
 | n + 1, k, d, G, hk, h, hd => cR2 (λh3 p b G hG pp hc => by
    obtain⟨rows,m,rfl⟩:=aF3 hc
    obtain⟨i,e,_⟩:=cP4 pp
    rw[e]at pp ⊢
    exact fM5 (i:=i) (λx j G hG px hj=>eU6 hw hw2 n j x G (by lia) hG px) hG hw hw2 pp) h hw hw2 hd
theorem bW2{r w k:Nat}{d:D}{G:DH}{Q:DPP}(h:M8 G r)(hw:6<=w)(hw2:w<=900)(hk:k<=26)(hd:Pd G.length w k d)(q:∀x G',Fr r G G'->Pd G'.length (w+1) (k+4) x->szD x<=2*szD d+60->Q x G'):Wp (aB6 [.ref r,d]) G Q:=(eU6 hw hw2 12 k d G (by lia) h hd).mono λx G' ⟨f,p,s⟩=>q x G' f p s
theorem eZ5:dC9=j0 (K3 (v7 (q13 (v7 (q13 (v7 (q13 (cE .non) (q13 (cE .non) q14))) q14)) (q13 (v7 (q13 (cE (.str ("but" :Str))) (q13 (v7 q14) q14))) (q13 (v7 (q13 (cE (.bl false)) (q13 (cE (.bl true)) q14))) (q13 (v7 (q13 (v7 q14) (q13 (cE (.str ("any" :Str))) q14))) (q13 (v7 (q13 (v7 q14) (q13 (cE (.str ("any" :Str))) q14))) q14)))))) (q16 1)) (j0 (ifS LA0 (t8 (cE (.bl false))) u0) (j0 (ifS LA1 (t8 (cE (.bl false))) u0) (j0 (ifS LA2 (t8 (cE (.bl false))) u0) (j0 (aS1 (bQ2 (q13 (P0 (c7 0) (Q6) (T5 (cE (.int 42)))) q14)) (cB8 2 (aD9 (q16 2) (aD9 (q16 3) (cC6)))) LBo) (t8 (cE (.bl true))))))):=rfl
theorem dI3{a:Fe}{c e:Bool}{O:DSt}{G:DH}(h:Ev (a O) G c):Ev (d7 aC1 a (cE (.bl e)) O) G (c != e):=λQ q=>w6<| h _ λG' j=>d9 (a:=.bl e) (G':=G') rfl<| eH6.mpr (q G' j)
theorem dP0{x:D}:N5 x x=true:=aZ1.mpr rfl
theorem dI4{x y:D}(h:x≠y):N5 x y=false:=jr.mpr λe=>h (aZ1.mp e)
noncomputable def no3:D:=.tup [.tup [.tup [.non,.non]],.tup [.str aR9,.tup []],.tup [.bl false,.bl true],.non,.non]
noncomputable def bd3:D:=.tup [.tup [.tup [.non,.non]],.tup [.str aR9,.tup []],.tup [.int 0,.int 1],.tup [.tup [],.str V8],.tup [.tup [],.str V8]]
section
variable{n:Nat}
theorem fV2:Tg n 3 evS:=(T8 (w:=6) rfl:Pd n 6 3 evS).tg (by decide) (by simp[evS,mkS,stD,szD,szL])
theorem eV4:Tg n 3 noS:=(T8 (w:=6) rfl:Pd n 6 3 noS).tg (by decide) (by simp[noS,mkS,szD,szL])
theorem eT3:Tg n 3 no3:=(T8 (w:=6) rfl:Pd n 6 3 no3).tg (by decide) (by simp[no3,szD,szL])
theorem eS7:Tg n 3 bd3:=(T8 (w:=6) rfl:Pd n 6 3 bd3).tg (by decide) (by simp[bd3,szD,szL])
theorem eR9:Tg n 3 (.str V8):=(T8 (w:=6) rfl:Pd n 6 3 (.str V8)).tg (by decide) (by simp[szD])
end
theorem fV7:okS noS=true:=by
 have h:okS noS= (true&&((true&&true)&&((true&&true)&&!N5 noS evS))):=bM3 (n:=0) (k:=3) eV4 (by decide)
 rw[h,dI4 (λe=>by simp[noS,evS,mkS]at e)];rfl
theorem fU3:okS no3=true:=by
 have h:okS no3= (true&&((true&&true)&&((true&&true)&&!N5 no3 evS))):=bM3 (n:=0) (k:=3) eT3 (by decide)
 rw[h,dI4 (λe=>by simp[no3,evS,mkS]at e)];rfl
theorem fR7:okS bd3=false:=by
 have h:okS bd3= (bA4 (.tup [.tup [.non,.non]])&&((U3 (.tup [.str aR9,.tup []])&&U4 (.tup [.int 0,.int 1]))&&_)):=bM3 (n:=0) (k:=3) eS7 (by decide)
 rw[h,show U4 (.tup [.int 0,.int 1])=false from rfl,yw,jP,yw]
theorem eX2:okS (.str V8)=true:=by
 rw[dG6 (n:=0) (k:=3) eR9 (by decide)]
 show ((((V8:Str)==V8)&&true)&&true)=true
 rw[beq_self_eq_true];rfl
section
variable{s0 s2 s3 s4 s5 s6:Option D}
theorem fM3{G:DH}{s:Option D}:EvT (LA0 [s,some evS,none,none,none,none,none,none]) G false:=by
 have:false= (false||(!N5 noS noS||!true)):=by rw[dP0];rfl
 rw[this]
 exact aS0 (EvT.of rfl) λ_ G1 j1=>aS0 (T6 (dY3 (n:=1) (x:=noS) (y:=noS) rfl bP0 bR1 bR1 bR2 bR2)) λ_ G2 j2=>aB2 (R0 (aC2 (as:= [evS]) rfl rfl (dR8 fV2 (by decide))))
theorem fP9{G:DH}{s:Option D}:EvT (LA1 [s,some evS,none,none,none,none,none,none]) G false:=by
 have:false= (okS (.str V8) != true||(okS noS != true||okS no3 != true)):=by rw[eX2,fV7,fU3];rfl
 rw[this]
 exact aS0 (T6 (dI3 (aC2 (as:= [.str V8]) rfl rfl (bI1 eR9 (by decide))))) λ_ G1 j1=>aS0 (T6 (dI3 (aC2 (as:= [noS]) rfl rfl (bI1 eV4 (by decide))))) λ_ G2 j2=>T6 (dI3 (aC2 (as:= [no3]) rfl rfl (bI1 eT3 (by decide))))
theorem fX5{G:DH}{s:Option D}:EvT (LA2 [s,some evS,none,none,none,none,none,none]) G false:=by
 have:false= (okS bd3 != false):=by rw[fR7];rfl
 rw[this]
 exact T6 (dI3 (aC2 (as:= [bd3]) rfl rfl (bI1 eS7 (by decide))))
theorem cF4{q:Nat}{L:List D}:∀(items:List D) (u:Option D) (G:DH),(∀x∈items,Tg G.length 34 x)->G[q]? =some (.lst L)->
 Wp (aL0 (q16 7) LTo (ckO q (.lst L)) items [s0,some evS,s2,s3,s4,s5,s6,u]) G λfl G'=>Ap G G'/\∃u',fl= .nx [s0,some evS,s2,s3,s4,s5,s6,u']
 |[],u,G,_,e=>aM4.mpr ⟨dM7 e,Ap.refl,u,rfl⟩
 |d::r,u,G,h,e=>by
   refine aM3.mpr ⟨dM7 e,d9 (a:= [s0,some evS,s2,s3,s4,s5,s6,some d]) (G':=G) rfl<| aH1<| aB2 (R0 (aC2 (as:= [d]) rfl rfl (dR8 (h d (zc ..)) (by decide)))) _ λG1 j1=>⟨λz=>(nomatch z),λ_=>J1.mpr ?_⟩⟩
   refine(cF4 r (some d) G1 (λx hx=>(h x (zf _ hx)).up j1.len (zd _)) (j1.at e)).mono ?_
   rintro _ G2 ⟨j2,u',rfl⟩
   exact⟨j1.trans j2,u',rfl⟩
theorem Ap.fr{r:Nat}{G G':DH}(h:M8 G r)(j:Ap G G'):Fr r G G':=by
 obtain⟨t,rfl⟩:=j
 exact Fr.app h
theorem eU1{r k:Nat}{G:DH}{deep:Int}{Q:DPP}(h:M8 G r)(hk:k<=6)(hd:deep<=k+1)(q:∀x G',Fr r G G'->Dw (k+1) x->Q x G'):Wp (aN8 [.ref r,.int deep]) G Q:=(dR7 hk h (cN6 10 k deep hd (by lia) hk)).mono λx G' z=>q x G' z.2 z.1
theorem fX4{ns:List Int}{p:Nat}{k c:Int}{G:DH}(e:G[p]? =some (.rol (ns.map D.int)))(hk:0<=k/\k<64):Wp (LBo [some (.ref p),some evS,some (.int k),some (.int c),s4,s5,s6,s2]) G λfl G'=>Gr G G'/\∃a b c' d,fl= .nx [some (.ref p),some evS,some (.int k),some (.int c),a,b,c',d]:=by
 have b3:BZ 3=134840:=rfl
 have b2:BZ 2=14960:=rfl
 refine m9.mpr<| S7<| v9 (as:= [.ref p,.int c,.int k]) rfl rfl<| (eG0 e hk).mono ?_
 rintro _ G1 ⟨r,rfl,hr,hh,g1⟩
 refine m9.mpr<| S7<| v9 (as:= [.ref r,.int 4]) rfl rfl<| eU1 (k:=3) hh (by decide) (by decide) λsome' G2 f2 d2=>?_
 have p2:Pd G2.length 100 15 some':=d2.2.1.up (je _) (zd _) (zd _)
 have z2:szD some'<=134840:=d2.2.2
 refine m9.mpr<| S7<| v9 (as:= [.ref r,some']) rfl rfl<| bW2 f2.2.2 (by decide) (by decide) (by decide) p2 λbad G3 f3 p3 z3=>?_
 refine aL7.mpr<| wp_itW.mpr<| aI8.mpr<| J6 (x:=some') (G1:=G3) rfl<| J6 (x:=bad) (G1:=G3) rfl<| v8<| v9 (as:= [.ref r,.int 3]) rfl rfl<| (eI4 (k:=2) (deep:=3) (by decide) (by decide) f3.2.2).mono ?_
 rintro raw G4 ⟨ns',w,ts,tr,li,re,rfl,pt,f4⟩
 have d4:=cL7 pt
 refine v8<| aF5<| J6 (x:=.ref r) rfl<| v8<| v9 (as:= [.ref r,.int 3]) rfl rfl<| eU1 (k:=2) f4.2.2 (by decide) (by decide) λs3' G5 f5 d5=>o9.mpr<| aL2.mpr ⟨rfl,?_⟩
 have p5:Pd G5.length 100 11 s3':=d5.2.1.up (je _) (zd _) (zd _)
 have z5:szD s3'<=14960:=d5.2.2
 refine bW2 f5.2.2 (by decide) (by decide) (by decide) p5 λx6 G6 f6 p6 z6=>?_
 have f36:=f4.trans (f5.trans f6)
 refine v8<| v9 (as:= [.ref r,bad]) rfl rfl<| bW2 f6.2.2 (by decide) (by decide) (by decide) (p3.up f36.1 (zd _) (zd _)) λx7 G7 f7 p7 z7=>o9.mpr ⟨sz,(bM8 o5).mpr ?_⟩
 have f37:=f36.trans f7
 have fa:Fr r G7 (G7++[DO.lst [some',bad,mkS ns' w ts tr li re,x6,x7]]):=Fr.app f7.2.2
 refine(cF4 (q:=G7.length) [some',bad,mkS ns' w ts tr li re,x6,x7] s2 _ (λx hx=>?_) o5).mono ?_
 · have la:=fa.1
   have l3:=f37.1
   have l67:=f7.1
   have tg:∀ {m k v:Nat} {d:D},Pd m v k d->m<=G7.length->v<=200->k<=34->szD d<=1000000->Tg (G7++[DO.lst [some',bad,mkS ns' w ts tr li re,x6,x7]]).length 34 d:=λp hm hw hk hz=>(p.up (zv hm la) hw hk).tg (by decide) hz
   simp only[zi,zu,or_false]at hx
   rcases hx with rfl|rfl|rfl|rfl|rfl
   ·exact tg p2 (zv f3.1 l3) (by decide) (by decide) (by lia)
   ·exact tg p3 l3 (by decide) (by decide) (by lia)
   ·exact tg d4.2.1 (je _) (by decide) (by decide) (zv d4.2.2 (by decide))
   ·exact tg p6 l67 (by decide) (by decide) (by lia)
   ·exact tg p7 (zd _) (by decide) (by decide) (by lia)
 · rintro _ G8 ⟨j8,u',rfl⟩
   exact⟨Gr.of g1 (f2.trans (f3.trans (f37.trans (fa.trans (j8.fr fa.2.2))))) hr,_,_,_,_,rfl⟩
theorem dW3{ns:List Int}{p q:Nat}{L:List D}:∀(cs:List Int) (k:Nat) (u2 u3 u4 u5 u6 u7:Option D) (G:DH),G[p]? =some (.rol (ns.map D.int))->G[q]? =some (.lst L)->k+cs.length<=63->
 Wp (aL0 (cB8 2 (aD9 (q16 2) (aD9 (q16 3) cC6))) LBo (ckO q (.lst L)) (((cs.map D.int).zipIdx k).map λp=>.tup [.int ((p.2:Nat):Int),p.1]) [some (.ref p),some evS,u2,u3,u4,u5,u6,u7]) G λfl G'=>Gr G G'/\∃ O,fl= .nx O
 |[],k,u2,u3,u4,u5,u6,u7,G,e,et,hk=>by
   simp only[xT,ZZ]
   exact aM4.mpr ⟨dM7 et,Gr.refl,_,rfl⟩
 |c::r,k,u2,u3,u4,u5,u6,u7,G,e,et,hk=>by
   simp only[zS,ZM]
   simp only[zp]at hk
   refine aM3.mpr ⟨dM7 et,?_⟩
   refine d9 (a:= [some (.ref p),some evS,some (.int k),some (.int c),u4,u5,u6,u7]) (G':=G) rfl ?_
   refine(fX4 e ⟨by lia,by lia⟩).mono ?_
   rintro _ G1 ⟨g1,a,b,c',d,rfl⟩
   refine(dW3 r (k+1) _ _ _ _ _ _ G1 (g1.at e) (g1.at et) (by lia)).mono λfl G2 z=>⟨g1.trans z.1,z.2⟩
end
theorem eM9{G:DH}{p:Nat}{l:List D}{lo hi:Option Int}{Q:DPP}(e:G[p]? =some (.rol l)):Wp (slT (.ref p) lo hi) G Q↔Q (.ref G.length) (G++[.lst (DL.cutD l lo hi)]):=fH3 e
theorem fO6(ns:List Int):∃cs:List Int,DL.cutD (ns.map D.int) none (some 42)=cs.map D.int/\cs.length<=42:=by
 refine⟨ns.take 42,?_,by rw[yt];lia⟩
 have:=cA0 (ns.map D.int) 42
 rw[<-Jq]at this
 exact this
theorem eG7(ns:List Int)(hn:ns.length<=63):Wp (cS6 [.ref 0]) [.rol (ns.map D.int)] λd _=>d= .bl true:=by
 have e0:([DO.rol (ns.map D.int)]:DH)[0]? =some (.rol (ns.map D.int)):=rfl
 generalize hG:([DO.rol (ns.map D.int)]:DH)=G at *
 refine T4 (show Wp (dC9 [some (.ref 0),none,none,none,none,none,none,none]) G _ from ?_)
 rw[eZ5]
 refine K9 (X1:= [some (.ref 0),some evS,none,none,none,none,none,none]) (G':=G) rfl ?_
 refine bZ1 fM3 (λh=>(nomatch h)) λ_ G1 j1=>bZ1 fP9 (λh=>(nomatch h)) λ_ G2 j2=>bZ1 fX5 (λh=>(nomatch h)) λ_ G3 j3=>?_
 have e3:=(j1.trans (j2.trans j3)).at e0
 obtain⟨cs,ec,hc⟩:=fO6 ns
 refine m9.mpr<| aL7.mpr<| dY9.mpr<| v8<| aD5.mpr<| d9 (a:=.ref 0) (G':=G3) rfl<| d9 (a:=none) (G':=G3) rfl<| d9 (a:=some 42) (G':=G3) rfl<| (eM9 e3).mpr<| o9.mpr<| (dX4 o5).mpr ?_
 simp only[ec]
 refine(dW3 (ns:=ns) cs 0 _ _ _ _ _ _ _ (R4 e3) (by rw[<-ec];exact o5) (by lia)).mono ?_
 rintro _ G7 ⟨g7,O,rfl⟩
 exact d9 rfl (R6 rfl)
theorem pure_law:∀ns:List Int,ns.length<=63->∃G',cS6 [.ref 0] [.rol (ns.map D.int)]=some (.ok (.bl true),G'):=λns hn=>by
 obtain⟨d,G',e,rfl⟩:=eG7 ns hn
 exact⟨G',e⟩
end W
namespace PySem.W.Fast
def tw11432353298328916653:=()
def tw16031501676210679356:=()
def tw18425107582352643112:=()
def tw17322863795201409030:=()
def tw295502936533631305:=()
def tw7443477452856339593:=()
def tw11101181651504871372:=()
def tw11042453969269955705:=()
def tw1957648488776342727:=()
def tw5406712483620276618:=()
def tw10264397554368855906:=()
def tw5726403484173412593:=()
def tw13143221403205638289:=()
def tw16947849036351973484:=()
def tw10095356841103956631:=()
def tw15220328871612934512:=()
def tw720406728142740946:=()
def tw7140803507591801408:=()
def tw14076211771744024619:=()
def tw7993311089086061722:=()
def tw809493049111826568:=()
def tw166081547188407389:=()
def tw7627751807971394249:=()
def tw1937837147941803287:=()
def tw7744289949543491818:=()
def tw4102922251841615046:=()
def tw11902680732586458668:=()
def tw9610001334888150142:=()
def tw12996394260019881561:=()
def tw2890468274826529129:=()
def tw9641010245960846470:=()
def tw14745101394527609658:=()
def tw256928727962910772:=()
def tw13330712905405967725:=()
def tw15955230584771383306:=()
def tw6170517831092615901:=()
def tw605502353097488233:=()
def tw16494278451218131686:=()
def tw3202372794336547783:=()
def tw14193604064827388973:=()
def tw10787470557892555753:=()
def tw17930814779074192945:=()
def tw4536799087090436536:=()
def tw12260271590655317971:=()
end PySem.W.Fast
set_option maxRecDepth 100000 in
set_option maxHeartbeats 0 in
theorem PySem.Challenge.cw_allmeet_k14_what_is_a_set_holds : PySem.Challenge.rw_allmeet_k14_what_is_a_set.Holds := by
 w_on;o_law;k_head;(case hw=>w_witness2)
 k_fill
 refine W.walk (l := PySem.Challenge.rw_allmeet_k14_what_is_a_set) rfl rfl (fun w h Y => PySem.W.kIn_of Y) ?F
 case F=>
  intro w mg fa h KX G hmg
  refine' W.all_mk KX G hmg ?_ ?_ ?_ ?_ ?_ ?_ ?_ ?_ ?_ ?_ ?_ ?_ ?_ ?_ ?_ ?_ ?_ ?_ ?_ ?_ ?_ ?_ ?_ ?_ ?_ ?_ ?_ ?_ ?_ ?_ ?_ ?_ ?_ ?_ ?_ ?_ ?_ ?_ ?_ ?_ ?_ ?_ ?_ ?_ ?_ ?_ ?_ ?g_ANY ?g_NOTHING ?l_NOTHING ?l_NOTHING_0 ?l_NOTHING_1 ?l_NOTHING_1_1 ?l_NOTHING_2 ?g_ALL_PARTS ?l_ALL_PARTS ?l_ALL_PARTS_0 ?l_ALL_PARTS_0_0 ?l_ALL_PARTS_1 ?l_ALL_PARTS_1_1 ?l_ALL_PARTS_2 ?l_ALL_PARTS_3 ?l_ALL_PARTS_3_0 ?l_ALL_PARTS_4 ?l_ALL_PARTS_4_0 ?z W.pure_law
  (case g_ANY=>k_is)
  (case g_NOTHING=>k_is)
  (case l_NOTHING=>k_is)
  (case l_NOTHING_0=>k_is)
  (case l_NOTHING_1=>k_is)
  (case l_NOTHING_1_1=>k_is)
  (case l_NOTHING_2=>k_is)
  (case g_ALL_PARTS=>k_is)
  (case l_ALL_PARTS=>k_is)
  (case l_ALL_PARTS_0=>k_is)
  (case l_ALL_PARTS_0_0=>k_is)
  (case l_ALL_PARTS_1=>k_is)
  (case l_ALL_PARTS_1_1=>k_is)
  (case l_ALL_PARTS_2=>k_is)
  (case l_ALL_PARTS_3=>k_is)
  (case l_ALL_PARTS_3_0=>k_is)
  (case l_ALL_PARTS_4=>k_is)
  (case l_ALL_PARTS_4_0=>k_is)
  (case z=>intro b hb;simp only[DL.bltL,zi,zu,or_false]at hb;rcases hb with rfl|rfl|rfl|rfl|rfl|rfl|rfl|rfl|rfl|rfl|rfl|rfl|rfl|rfl|rfl|rfl|rfl|rfl|rfl|rfl<;>k_is)
  all_goals (refine' DL.FH.of ?a ?l ?e ?k;(case a=>k_is);(case l=>k_is);(case e=>k_is);(case k=>k_is))
