import PyProof.Rows.All
import Wide.All
import OpenK.AllK
import Wide.FinOn
import Lean
import PyProof.EqAt
import PyProof.EqKinds
import PyProof.TupleCall
import PyProof.NeKinds
import PyProof.ZipIter
import PyProof.EnumFor
import PyProof.EnumMake
import PyProof.EnumStmt
import PyProof.Draws
import KE.KDictSum
import PyProof.Rows.SortStr
import PyProof.StrWalks
import KE.KRevIter
import KE.KDictList
import PyProof.CollectIter
import PyProof.SliceStr2
import PyProof.StrBlockI
import KE.KListMore
import PyProof.DictWalks
import PyProof.TupleOfSeq
import PyProof.AttrMissHeap
import PyProof.AttrMissSeq
import KE.KDictOf
import PyProof.WalksMore
import KE.KSortTup
import KE.KSortKey
import PyProof.Rows.StrJoin2
import PyProof.ListMulRoad
import PyProof.FactsAll.tuple_2
import PyProof.Rows.SortShell
import PyProof.WalkInts
import KE.KMinBuiltin
import KE.KIntText
import PyProof.CallStr
import PyProof.PureStr
import PyProof.Rows.SetFrom
import KE.KMinKey
import PyProof.DictItems
import PyProof.DictItemsLoops
import PyProof.ReprRoads
import PyProof.WalksS
import PyProof.MeetsSeq2
import KE.KItemsList
import PySem.Challenge.RW_allmeet_k40_numbers_in_words
set_option Elab.async false
set_option linter.all false
set_option maxRecDepth 100000
open PySem renaming wpAny_bind→za,Value→zd,sizeLine→zi,wpAny_pure→zl,Shared→zm,wpAny→zp,model→zy,starEach→zF,compareOp→zH,Program→zI,bootBuiltins→zK,World→zR,mainGlobals→zZ,Around→jb,wpAny_loadPart'→jc,wpAny_mono→jf,sizeLine_eq→jh,wpAny_holding→ju,wpAny_field→jx,binaryOp→jF,wpAny_callSpecial?_slot→jL,IsPair→jX,sliceBounds→jZ,wpAny_seqItems→ya,mem_of_lookup→ye,wpAny_newObj_type→yf,foldedSetIterable→yg,wpAny_call_entry→yp,wpAny_setField_rec→yz,backTo→yA,assignEach→yB,FuncData→yF,wpAny_truthy_bool→yG,cLine→yH,sysModules→yO,letOwnedTupleGo→yR,Builtin→yT,wpAny_Call_Name_kw→yX,wpAny_eqBool_int→xh,wpAny_newList→xo,strIterType→xq,wpAny_execs_nil→xy,IsZip→xD,wpAny_rule→xL,wpAny_pyIter_list→xS,wpAny_standAt→xV,attributeBase→xW,wpAny_typeOf→Zk,valueAt→Zl,pyNext→Zm,assign→Zn,BindsTo→Zo,codeAny_builtin→Zt,wpAny_updateSeq_pair→ZG,wpAny_newTuple→ZH,keywordEach→ZI,holding→ZN,callerA→ZO,wpAny_onRaise→Yf,wpAny_attempt→Yg,plainId_quiet→Yh,behindInMarks→Yi,MulOk→Yk,tupleKind_room_in1→Yp,rawInt→Yq,wpAny_collect_seq→Yx,slot_list_getitem→Yy,getItem→Yz,codeAny→YA,tupleKind→YL,noFill_tuple_add→YM,wpAny_letGo→Xa,standAt→Xl,typeIs_str→Xp,sliceRange→Xq,merged→Xr,intText?→Xs,backToKw→Xt,wpAny_getItem_list_slice→XW,seq_tuple_add→XX,call→XY,swapsWith→Jh,slicePick→Ji,seqIndex?→Jj,fromIndex→Jk,field→Jl,bindL→Jm,bindC→Jn,atKey→Jo,PassesOwn→Js,seqIndex_neg→JC,richCompare_meets_room→JD,relabel→JE,concat_meets→JF,codeAny_mono→JG,cellOf→JH
open PySem.Heap renaming get?_push_of_some→zc,lt_size→zo,get?_push_size→zu,get?_update_ne→jq,size_push→yi,get?_push_ne→yC,SameBut→yS,get?_update_other→Xm,get?_update_self→Xv,size_update→JS
open PySem.W renaming Frag→ze,fnOf→jK,keepIn→jN,kas_ask→ym,kas_sort→yE,KatTups→yN,nsIn→yQ,findIn→xl,codeIn→xm,mg_of→xz,kat_cons→xF,kat_yes→xN,kat_no→xX,kat_go→xY,methodObj→Zv,kat_snds→ZJ,kat_kind→ZK,kas_item→ZL,kat_run→ZV,cellsFrom_some→YN,kat_lt_int→Xu,specialIn→XG,kitx_list→XH,kitx_dict→XI,plainGet→XZ,kat_one→Jp,kat_nil→Jq,instObj→Jr,kat_lt→JI,KatLex→JJ,WalkO→JQ
open List renaming length_append→zf,size_toArray→zg,getD_eq_getElem?_getD→zj,mem_cons_of_mem→zk,length_map→zn,getElem?_eq_getElem→zq,mem_cons_self→zr,getElem?_append_left→zt,length_cons→zw,mem_cons→zz,mem_singleton→zA,toArray→zB,mem_append_right→zC,append_assoc→zD,range→zJ,getElem?_cons_zero→zL,getElem?_eq_none→zM,map_cons→zN,not_mem_nil→zT,mem_append→zU,getElem?_cons_succ→zV,getElem?_set_ne→zY,getElem?_set_self→jg,filterMap_cons→ji,map_append→jk,append_cancel_left→jn,getElem?_map→jr,append_nil→jt,pairwise_append→jv,getElem?_append_right→jy,length_nil→jD,set_cons_succ→jI,mem_map→jJ,map_map→jM,any_cons→jO,all_cons→jP,lookup_cons→jR,set_cons_zero→jU,replicate→jV,mem_range→jW,mem_of_getElem?→yb,mem_append_left→yc,map_congr_left→yh,ext_getElem→yj,range_succ_eq_map→yn,filterMap_map→yo,find?_cons→yw,dropLast_concat_getLast→yx,length_singleton→yy,length_take→yI,length_drop→yJ,getElem?_eq_some_iff→yM,pairwise_cons→yP,take_of_length_le→yV,length_range→yW,length_set→xk,map_nil→xp,zip_cons_cons→xx,drop_eq_getElem_cons→xE,pairwise_map→xH,length→xI,getElem_inj→xO,drop_eq_nil_of_le→xU,nodup_cons→Zb,forIn_cons→Zc,length_pos_iff→Zu,reverse_cons→ZR,getElem?_set→ZS,eraseIdx_eq_take_drop_succ→Yb,prefix_refl→Yn,append_inj'→Yo,eq_nil_of_length_eq_zero→Ys,range_succ→Yu,of_mem_zip→Yv,forIn_nil→YJ,filterMap→YK,pairwise_iff_getElem→YZ,pairwise_singleton→Xj,getElem?_replicate→Xk,set_append_right→XD,cons_lt_cons_iff→XE,mem_of_mem_take→XS,mem_iff_getElem→XT,getElem?_of_mem→XU,toList_toArray→Jc,mergeSort_perm→Jd,instMembership→Je,prefix_append→Jw,ne_nil_of_mem→Jx,mem_filterMap→Jy,forIn_toArray→Jz,zipIdx_cons→JU,getElem_zip→JV,filter_cons→JW,drop_length→JX,cons_ne_nil→JY
open Nat renaming le_refl→zh,ne_of_lt→zE,le_trans→zP,lt_of_lt_of_le→zQ,zero_le→zW,lt_irrefl→jQ,lt_succ_of_lt→yd,le_add_right→yL,lt_trans→yZ,le_of_lt→xa,ne_of_gt→xt,sub_succ_lt_self→Zr,eq_zero_or_pos→ZM,toDigits→ZY,lt_or_ge→ZZ,le_of_eq→Ya,lt_succ_self→Yr,min_eq_left→YE,mod_lt→YY,add_sub_cancel_left→Xn,sub_self→XB,le_of_ble_eq_true→XQ,lt_or_eq_of_le→JP
open Bool renaming false_ne_true→zv,false_eq_true→zS,and_eq_true→jl,not_eq_true'→ZT,eq_false_iff→ZU,and_eq_true_iff→XV
open PyProof.Rows renaming seqObj→zG,slot_tuple_getitem→jj,arrOf→jB,Keyed→jC,listUpdate_at→yk,kindOf→yr,get?_update_seq→yU,callWith_type1→xc,failedOf→xj,SortSt→xn,pendingOf→xJ,seqEpoch_at→xT,envOfC→xZ,oneType'→Zh,IsTup→Zi,subscriptTail_builtinR→Zp,listItems_at→Zq,AllBare→ZQ,getElem?_bubble→Xh,entry_list_sort→Xi,wpS_pure→Xx,slot_list_sort→Xy,size_push'→Xz,keyLt'_oneType→XA,plain_sorted→JM,entry_sorted→JN,call_function_entry_kw→JO
open PySem.Obj renaming mapSeq→zO,data_mapFields→JL
open PySem.Builtin.SmallTypes renaming nextOf→zX,ownedTupleIsFree→jH,ownedTupleHandOut→xw
open Option.some renaming injEq→ja,inj→je
open PySem.Str renaming ofString→jd
open PySem.SetTable.layClean renaming free→jm
open Int renaming emod_nonneg→jo,emod_lt_of_pos→jY,toNat_natCast→xb,le_refl→xK,le_trans→Yc,toNat_of_nonneg→JA
open PySem.SeqAt renaming EqAt→jp,RcNeAt→xP,RcAt→Zw,ne_of_list_tuple→Xg,notIn_tupleAt→XJ,notIn_listAt→Ja,in_tupleAt→JK,in_listAt→JR
open Array renaming getElem?_toList→js,length_toList→jA,getElem?_eq_getElem→jE,perm_iff_toList_perm→jT,toList_inj→xf,forIn_toList→xu,getD→xR,toList_append→Zs,toList_map→Yd,getD_eq_getD_getElem?→Yw,append_assoc→Jg,size_push→JZ
open PySem.PyData renaming keyHash→jw,hasDictAll→Jb
open Classical renaming byContradiction→jz,choose→ZB
open List.cons renaming inj→jG
open False renaming elim→jS
open PySem.Paired renaming length→yq
open PySem.Builtin.Slice renaming slicePlaces→yt,sliceAdjust→xi,sliceApplied→Zz
open PySem.Builtin.Tuple renaming tupleExact→yD,tupleItemsOf→Zy
open PySem.F renaming slot_tuple_iterator_next→yK,args_tuple_add_2→xC,entry_tuple_add→xG,slot_tuple_add→xM,slot_list_getattribute→xQ,slot_zip_next→Zj,args_tuple_iterator_next_1→YX,slot_str_startswith→Xd,entry_tuple_iterator_next→Xe,slot_list_append→Xw,slot_list_pop→Jt
open PySem.SetTable renaming bits→yY,leap→Zf,runEnd→ZP,turns→Yj
open PySem.Around renaming under_plainId→xg
open PySem.Builtin.Str renaming occurrences→xr,subAt→Zg,strSliceIndices→ZD
open PySem.Txt renaming slice→xv,join→ZW
open PySem.W.Looks renaming of_pure→xA
open PySem.W.KatTups renaming cons→xB
open Prod.mk renaming inj→Za
open PySem.SeqAt.EqAt renaming str_int→Zd,int_str→Ze,same→ZC,none_bool→YF,bool_none→YG,bool_bool→YH,str_none→YO,str_bool→YQ,none_str→YR,none_int→YS,int_none→YT,int_bool→YU,bool_str→YV,bool_int→YW,str_str→Xb,int_int→Xc
open PySem.NumText renaming digitsVal→Zx
open Option renaming isSome_map→ZE,map_some→Ym,isSome_iff_exists→YI,getD_none→Ju,bind_some→Jv
open PySem.Builtin.Dict renaming updateFrom→ZX,pairItems→Yl
open StateT renaming run_pure→Ye
open PySem.Heap.IsSliceOf renaming new→Yt
open PySem.W.KIN renaming val_back→YB
open PySem.Heap.SameBut renaming update→YC
open PySem.Calls renaming Name_function_global→YD
open Sum.inr renaming inj→Xf
open ToString renaming toString→Xo
open Function renaming comp_def→XF
open PySem.PassesOwn renaming never→XL
open PyProof.Rows.SortSt renaming mk'→XM
open Prod renaming ext→XO
open Membership renaming mem→XR
open List.Perm renaming refl→Jf
open Nat.succ renaming inj→JT
noncomputable section
abbrev VSP:=zd->zm->Prop
abbrev PNS:=List (PySem.Addr×PySem.Obj)
namespace L2
open PySem PySem.Spec PyProof.Rows
theorem t6{a:α}{P:Prop}(h:none=some a):P:=nomatch h
theorem PC{a:α}{P:Prop}(h:some a=none):P:=nomatch h
theorem mE{P:Prop}(h:false=true):P:=nomatch h
theorem eD{a:α}{l:List α}{P:Prop}(h: []=a::l):P:=nomatch h
theorem IG{a:α}{l:List α}{P:Prop}(h:a::l= []):P:=nomatch h
abbrev Key:=Sum Int Str
def y8:Key->zd->Bool
 | .inl k,v=>Value.isInt k v
 | .inr x,v=>Value.isStrOf x v
def vb(w:zR):Key->Int
 | .inl k=>hashInt k
 | .inr x=>hashStr w x
theorem J0:∀ {k} {v},y8 k v=true->(∃i t,k=Sum.inl i/\v=Value.int i t)\/(∃x t,k=Sum.inr x/\v=Value.str x t)
 | .inl i,v,h=>by obtain⟨t,e⟩:=Value.isInt_shape (k:=i) (v:=v) h;exact .inl ⟨i,t,rfl,e⟩
 | .inr x,v,h=>by obtain⟨t,e⟩:=Value.isStrOf_shape (x:=x) (v:=v) h;exact .inr ⟨x,t,rfl,e⟩
theorem mY(i:Int)(t:Tok):y8 (.inl i) (.int i t)=true:=by simp[y8,Value.isInt]
theorem WE(x:Str)(t:Tok):y8 (.inr x) (.str x t)=true:=by simp[y8,Value.isStrOf]
theorem mQ(a b:Int):decide ((Sum.inl a:Key)=Sum.inl b)= (a==b):=by
 by_cases e:a=b
 ·subst e;simp
 ·have h:¬(Sum.inl a:Key)=Sum.inl b:=λq=>e (Sum.inl.inj q);rw[decide_eq_false h];exact(beq_eq_false_iff_ne.mpr e).symm
theorem oR(a b:Str):decide ((Sum.inr a:Key)=Sum.inr b)=decide (a=b):=by
 by_cases e:a=b
 ·subst e;simp
 ·have h:¬(Sum.inr a:Key)=Sum.inr b:=λq=>e (Xf q);rw[decide_eq_false h,decide_eq_false e]
theorem LY(a:Int)(b:Str):decide ((Sum.inl a:Key)=Sum.inr b)=false:=decide_eq_false (λq=>nomatch q)
theorem Dh(a:Str)(b:Int):decide ((Sum.inr a:Key)=Sum.inl b)=false:=decide_eq_false (λq=>nomatch q)
def v7(prog:zI)(w:zR):PySem.KeyKind prog w Key where
 is:=y8
 hash:=vb w
 inj:=λv a b ha hb=>by
  rcases J0 ha with⟨i,t,rfl,rfl⟩|⟨x,t,rfl,rfl⟩
  · rcases J0 hb with⟨j,u,rfl,e⟩|⟨y,u,rfl,e⟩
    ·injection e with e1 _;rw[e1]
    ·exact nomatch e
  · rcases J0 hb with⟨j,u,rfl,e⟩|⟨y,u,rfl,e⟩
    ·exact nomatch e
    ·injection e with e1 _;rw[e1]
 byValue:=λk v h=>by rcases J0 h with⟨i,t,rfl,rfl⟩|⟨x,t,rfl,rfl⟩<;>rfl
 pyHash:=λhv h=>by
  rcases J0 hv with⟨i,t,rfl,rfl⟩|⟨x,t,rfl,rfl⟩
  ·exact wpAny_pyHash_int h
  ·exact wpAny_pyHash_str h
 eqBool:=λhu hv h=>by
  rcases J0 hu with⟨i,t,rfl,rfl⟩|⟨x,t,rfl,rfl⟩
  · rcases J0 hv with⟨j,u,rfl,rfl⟩|⟨y,u,rfl,rfl⟩
    ·rw[mQ]at h;exact xh h
    ·rw[LY]at h;exact Ze i t y u _ _ _ _ h
  · rcases J0 hv with⟨j,u,rfl,rfl⟩|⟨y,u,rfl,rfl⟩
    ·rw[Dh]at h;exact Zd x t j u _ _ _ _ h
    ·rw[oR]at h;exact wpAny_eqBool_str h
 «strs»:=λk x t v h=>by
  rcases J0 h with⟨i,u,rfl,e⟩|⟨y,u,rfl,e⟩
  ·exact nomatch e
  · injection e with e1 _;subst e1
    cases v<;>rfl
theorem wq(prog:zI)(w:zR)(i:Int)(t:Tok):(v7 prog w).is (.inl i) (.int i t)=true:=mY i t
theorem Cg(prog:zI)(w:zR)(x:Str)(t:Tok):(v7 prog w).is (.inr x) (.str x t)=true:=WE x t
inductive V where
 |non|bl (b:Bool)|int (i:Int)|str (x:Str)|byt (b:Array UInt8)|flt (b:UInt64)|ref (a:Addr)|ty (n:String)
 deriving DecidableEq
def o5:V->zd->Prop
 | .non,u=>u=Value.none
 | .bl b,u=>u=Value.bool b
 | .int i,u=>∃t,u=Value.int i t
 | .str x,u=>∃t,u=Value.str x t
 | .byt b,u=>∃t,u=Value.bytes b t
 | .flt b,u=>∃t,u=Value.float b t
 | .ref a,u=>u=Value.ref a
 | .ty n,u=>u=Value.type n
abbrev j7:List V->List zd->Prop:=Paired o5
theorem j7.length(r:j7 xs us):xs.length=us.length:=yq r
theorem j7.get:∀ {xs} {us} {i:Nat} {x:V},j7 xs us->xs[i]? =some x->∃u,us[i]? =some u/\o5 x u
 |_,_,_,_,.nil,e=>by simp at e
 |_,_,0,_,.cons r _,e=>by simp at e;subst e;exact⟨_,rfl,r⟩
 |_,_,i+1,x,.cons _ t,e=>by obtain⟨u,h1,h2⟩:=j7.get (i:=i) (x:=x) t (by simpa using e);exact⟨u,by simpa using h1,h2⟩
theorem j7.set(r:o5 x u):∀ {xs} {us} i,j7 xs us->j7 (xs.set i x) (us.set i u)
 |_,_,_,.nil=>.nil
 |_,_,0,.cons _ t=>.cons r t
 |_,_,i+1,.cons q t=>.cons q (j7.set r i t)
theorem j7.append(h:j7 xs us)(k:j7 ys ws):j7 (xs++ys) (us++ws):=by
 induction h with
 |nil=>exact k
 |cons r t ih=>exact .cons r ih
theorem j7.take:∀ {xs} {us} n,j7 xs us->j7 (xs.take n) (us.take n)
 |_,_,0,_=>.nil
 |_,_,_+1,.nil=>.nil
 |_,_,n+1,.cons r t=>.cons r (j7.take n t)
theorem j7.drop:∀ {xs} {us} n,j7 xs us->j7 (xs.drop n) (us.drop n)
 |_,_,0,r=>r
 |_,_,_+1,.nil=>.nil
 |_,_,n+1,.cons _ t=>j7.drop n t
def l5:Option V->Option zd->Prop
 |some v,some u=>o5 v u
 |none,none=>True
 |_,_=>False
def KV{κ:Type}:List (κ×V)->List (κ×zd)->Prop:=Paired fun(p:κ×V) (q:κ×zd)=>p.1=q.1/\o5 p.2 q.2
def kV:Key->V
 | .inl i=>.int i
 | .inr x=>.str x
inductive HO where
 /-- a list -/
 |lst (xs:List V)
 /-- a tuple (never changes) -/
 |tup (xs:List V)
 /-- a dict whose keys are ints and texts;one whose keys are tuples of ints and texts (the empty one is both) -/
 |dK (Fk:List (Key×V))|dT (Fk:List (List Key×V))
 /-- a set of ints:Fj members,Fj size -/
 |set (S:Int->Bool) (n:Nat)
 /-- an instance of the class at C,Fj dict at dx,Fj attributes -/
 |ins (C dx:Addr) (fs:List (Str×V))
 /-- the dict of the instance at x -/
 |own (x:Addr)
 /-- the dict of an exception -/
 |xd (fs:List (Str×V))
 /-- a bound method,f of x -/
 |met (f x:Addr)
 /-- a range object lo,lo+1,.. below hi -/
 |rng (lo hi:Int)
 /-- a thing that is known to the object (the script;a dict while a loop walks it):read,never written while it is so -/
 |frz (o:Obj) (u:HO)
 /-- a code object's table -/
 |tbl (ps:Array zd)
 /-- any other thing,by what is true of Fj one object (a def of one's own:SetO a S n:=HO.ext λh=>..) -/
 |ext (φ:Heap->Prop)
abbrev Hp:=Addr->Option HO
def upd(H:Hp)(a:Addr)(o:HO):Hp:=λb=>if b=a then some o else H b
theorem J3:upd H a o a=some o:=by unfold upd;rw[if_pos rfl]
theorem m6(h:b≠a):upd H a o b=H b:=by unfold upd;rw[if_neg h]
theorem wf{H:Hp}(h:H a=some o)(h':H b=some u)(d:o≠u):a≠b:=by intro e;subst e;rw[h]at h';exact d (je h')
theorem m5{H:Hp}{o:HO}(h:H a=some o)(h':H b=none):a≠b:=by intro e;subst e;rw[h]at h';cases h'
section
variable(P:zI)(w:zR)
def W7(h:Heap)(a:Addr)(items:Array zd):Prop:=∃o,h.get? a=some o/\o.cls= .type "tuple"/\∃n,(o.data,o.dict)= (Data.seq items n,none)
theorem W7.tup(x:W7 h a items):Zi h a items:=by obtain⟨o,e,c,n,d⟩:=x;exact⟨o,e,c,n,(Za d).1⟩
theorem W7.new(h:Heap)(items:Array zd):W7 (h.push {cls:=.type "tuple",data:=.seq items}) h.objs.size items:=⟨_,zu _ rfl,rfl,_,rfl⟩
def K5(H:Hp)(h:Heap)(a:Addr):HO->Prop
 | .lst xs=>xs.length<=zi/\∃(Fj:List zd) (n:Nat),j7 xs Fj/\h.get? a=some {cls:=.type "list",data:=.seq Fj.toArray n}
 | .tup xs=>xs.length<=zi/\∃Fj:List zd,j7 xs Fj/\W7 h a Fj.toArray
 | .dK Fk=>Fk.length<=zi/\(a==yO)=false/\∃vs,KV Fk vs/\h.DictOf (v7 P w) a vs
 | .dT Fk=>Fk.length<=zi/\(a==yO)=false/\∃xs:List (List Key×Addr×zd),
    Paired (fun(p:List Key×V) (q:List Key×Addr×zd)=>p.1=q.1/\H q.2.1=some (.tup (p.1.map kV))/\o5 p.2 q.2.2) Fk xs/\
    ∃o es ep,h.get? a=some o/\o.ExactDict/\o.data= .dict es ep/\es.toList=xs.map (entryOfKey (YL (v7 P w)))/\(xs.map (·.1)).Nodup
 | .set S n=>h.SetOf (intKind P w) a S n
 | .ins C dx fs=>H dx=some (.own a)/\fs.length<=1000/\dx≠a/\h.get? a=some (Jr C dx)/\
    ∃mA,h.Ns1 dx mA/\(∀f,l5 (fs.lookup f) (mA f))/\PySem.Within mA (fs.map (·.1))
 | .own _=>∃o,h.get? a=some o
 | .xd fs=>∃mA,h.Ns1 a mA/\∀f,l5 (fs.lookup f) (mA f)
 | .rng lo hi=>∃t u v,h.get? a=some {cls:=.type "range",data:=.fields #[.int lo t,.int hi u,.int 1 v]}
 | .frz o u=>h.get? a=some o/\K5 H h a u
 | .tbl ps=>h.get? a=some {cls:=.none,data:=.fields ps}
 | .met f x=>h.get? a=some (Zv (.ref f) (.ref x))
 | .ext φ=>φ h/\(∃o,h.get? a=some o)/\∀h1 h2:Heap,φ h1->(∀o,h1.get? a=some o->h2.get? a=some o)->φ h2
def HOk(H:Hp)(h:Heap):Prop:=∀a o,H a=some o->K5 P w H h a o
end
section
theorem K5.lt(x:K5 P w H h a o):a<h.objs.size:=by
 cases o with
 |lst xs=>obtain⟨_,_,_,_,e⟩:=x;exact zo e
 |tup xs=>obtain⟨_,_,_,p⟩:=x;exact(W7.tup p).lt
 |dK Fk=>obtain⟨_,_,_,_,o,_,_,e,_⟩:=x;exact zo e
 |dT Fk=>obtain⟨_,_,_,_,o,_,_,e,_⟩:=x;exact zo e
 |set S n=>obtain⟨o,_,_,_,e,_⟩:=x;exact zo e
 |ins C dx fs=>obtain⟨_,_,_,e,_⟩:=x;exact zo e
 |own y=>obtain⟨_,e⟩:=x;exact zo e
 |xd fs=>obtain⟨_,⟨_,_,_,e,_⟩,_⟩:=x;exact zo e
 |rng lo hi=>obtain⟨_,_,_,e⟩:=x;exact zo e
 |frz ob u=>obtain⟨e,_⟩:=x;exact zo e
 |tbl ps=>exact zo (show h.get? a=some _ from x)
 |met f y=>exact zo (show h.get? a=some _ from x)
 |ext φ=>obtain⟨_,⟨_,e⟩,_⟩:=x;exact zo e
theorem Paired.mapP(h:Paired F l₁ l₂)(f:∀a b,F a b->G a b):Paired G l₁ l₂:=by
 induction h with
 |nil=>exact .nil
 |cons r t ih=>exact .cons (f _ _ r) ih
theorem K5.stay(x:K5 P w H h a o)(k:∀b u,(b=a\/H b=some (.own a))->h.get? b=some u->h'.get? b=some u)
 (ho:∀b,H b=some (.own a)->H' b=some (.own a)) (ht:∀b xs,H b=some (.tup xs)->H' b=some (.tup xs)):K5 P w H' h' a o:=by
 induction o with
 |lst xs=>obtain⟨z,Fj,n,r,e⟩:=x;exact⟨z,Fj,n,r,k _ _ (.inl rfl) e⟩
 |tup xs=>obtain⟨z,Fj,r,ob,e,c⟩:=x;exact⟨z,Fj,r,ob,k _ _ (.inl rfl) e,c⟩
 |dK Fk=>obtain⟨z,y,vs,r,ob,es,ep,e,c⟩:=x;exact⟨z,y,vs,r,ob,es,ep,k _ _ (.inl rfl) e,c⟩
 |dT Fk=>
   obtain⟨z,y,xs,r,ob,es,ep,e,c⟩:=x;exact⟨z,y,xs,Paired.mapP r λp q z=>⟨z.1,ht _ _ z.2.1,z.2.2⟩,ob,es,ep,k _ _ (.inl rfl) e,c⟩
 |set S n=>obtain⟨ob,es,ep,t,e,c⟩:=x;exact⟨ob,es,ep,t,k _ _ (.inl rfl) e,c⟩
 |ins C dx fs=>
   obtain⟨d,z,ne,e,mA,⟨od,es,ep,e2,c⟩,r⟩:=x;exact⟨ho _ d,z,ne,k _ _ (.inl rfl) e,mA,⟨od,es,ep,k _ _ (.inr d) e2,c⟩,r⟩
 |own y=>obtain⟨ob,e⟩:=x;exact⟨ob,k _ _ (.inl rfl) e⟩
 |xd fs=>obtain⟨mA,⟨od,es,ep,e,c⟩,r⟩:=x;exact⟨mA,⟨od,es,ep,k _ _ (.inl rfl) e,c⟩,r⟩
 |rng lo hi=>obtain⟨t,u,v,e⟩:=x;exact⟨t,u,v,k _ _ (.inl rfl) e⟩
 |frz ob u ih=>obtain⟨e,q⟩:=x;exact⟨k _ _ (.inl rfl) e,ih q⟩
 |tbl ps=>
   have e:h.get? a=some {cls:=.none,data:=.fields ps}:=x;show h'.get? a=some {cls:=.none,data:=.fields ps};exact k a _ (.inl rfl) e
 |met f y=>
   have e:h.get? a=some (Zv (.ref f) (.ref y)):=x;show h'.get? a=some (Zv (.ref f) (.ref y));exact k a _ (.inl rfl) e
 |ext φ=>obtain⟨p,⟨o,e⟩,st⟩:=x;exact⟨st _ _ p λo q=>k _ _ (.inl rfl) q,⟨o,k _ _ (.inl rfl) e⟩,st⟩
theorem HOk.lt(x:HOk P w H h)(e:H a=some o):a<h.objs.size:=(x a o e).lt
theorem HOk.fresh(x:HOk P w H h)(e:h.objs.size<=a):H a=none:=by
 cases q:H a with
 |none=>rfl
 |some u=>exact absurd (zQ (x.lt q) e) (jQ _)
theorem HOk.kept(x:HOk P w H h)(k:∀b u,h.get? b=some u->h'.get? b=some u):HOk P w H h':=λa o e=>
 (x a o e).stay (λb u _ q=>k b u q) (λ_ q=>q) λ_ _ q=>q
theorem HOk.laid(x:HOk P w H h)(k:∀b u,h.get? b=some u->h'.get? b=some u)(hp:h.objs.size<=a)(new:K5 P w (upd H a o) h' a o):HOk P w (upd H a o) h':=λb u e=>by
 have hn:=x.fresh hp;by_cases hb:b=a
 ·subst hb;rw[J3]at e;cases e;exact new
 ·rw[m6 hb]at e;exact(x b u e).stay (λc v _ q=>k c v q) (λc q=>by rw[m6 (m5 q hn)];exact q) λc xs q=>by rw[m6 (m5 q hn)];exact q
end
def Rd(H:Hp)(a:Addr)(u:HO):Prop:=H a=some u\/∃o,H a=some (.frz o u)
theorem Rd.of(h:H a=some u):Rd H a u:=.inl h
theorem Rd.ok(r:Rd H a u)(x:HOk P w H h):K5 P w H h a u:=by
 rcases r with r|⟨o,r⟩
 ·exact x a u r
 ·obtain⟨_,q⟩:=x a _ r;exact q
def Mut:Option HO->Prop
 |some (.lst _)=>True
 |some (.dK _)=>True
 |some (.dT _)=>True
 |some (.set _ _)=>True
 |some (.ins _ _ _)=>True
 |some (.ext _)=>True
 |_=>False
section
theorem HOk.write(ok:HOk P w H h)(mu:Mut (H x))(he:e=x\/H e=some (.own x))(k:∀b u,b≠e->h.get? b=some u->h'.get? b=some u)(heo:∃u,h'.get? e=some u)
 (new:K5 P w (upd H x o') h' x o'):HOk P w (upd H x o') h':=λb u q=>by
 have nown:∀c y,H c=some (.own y)->c≠x:=λc y r z=>by subst z;rw[r]at mu;exact mu
 have ntup:∀c xs,H c=some (.tup xs)->c≠x:=λc xs r z=>by subst z;rw[r]at mu;exact mu
 by_cases hb:b=x
 ·subst hb;rw[J3]at q;cases q;exact new
 · rw[m6 hb]at q;by_cases hbe:b=e
   · have q':H b=some (.own x):=by
      rcases he with z|z
      ·exact absurd (hbe.trans z) hb
      ·rw[hbe];exact z
     rw[q]at q';cases q';obtain⟨v,hv⟩:=heo;exact⟨v,by rw[hbe];exact hv⟩
   · refine(ok b u q).stay (λc v hc r=>k c v ?_ r) (λc r=>by rw[m6 (nown c b r)];exact r) λc xs r=>by rw[m6 (ntup c xs r)];exact r
     rcases hc with rfl|hc
     ·exact hbe
     · rintro rfl;rcases he with z|z
       ·exact nown c b hc z
       ·rw[hc]at z;cases z;exact hb rfl
end
structure Un(fs ex:List Addr)(H H':Hp)(h h':Heap):Prop where
 keep:∀b o,h.get? b=some o->H b=none->b∉fs->b∉ex->h'.get? b=some o
 slot:∀b o,h.get? b=some o->H b=none->b∈fs->b∉ex->∃sl,h'.get? b=some {o with slots:=sl}
 free:∀b o,h.get? b=some o->H b=none->b∉ex->H' b=none
 there:∀b o,h.get? b=some o->b∉ex->∃o',h'.get? b=some o'
 tups:∀b xs,H b=some (.tup xs)->H' b=some (.tup xs)
 frzs:∀b o u,H b=some (.frz o u)->H' b=some (.frz o u)
 tbls:∀b ps,H b=some (.tbl ps)->∃more,H' b=some (.tbl (ps++more))
section
theorem Un.any(u:Un fs ex H H1 h h1)(q:h.get? b=some ob)(n:H b=none)(hx:b∉ex):∃sl,h1.get? b=some {ob with slots:=sl}:=by
 by_cases hb:b∈fs
 ·exact u.slot b ob q n hb hx
 ·exact⟨ob.slots,u.keep b ob q n hb hx⟩
theorem Un.trans(a:Un fs ex H H1 h h1)(b:Un fs ex H1 H2 h1 h2):Un fs ex H H2 h h2 where
 keep:=λc ob q n hc hx=>b.keep c ob (a.keep c ob q n hc hx) (a.free c ob q n hx) hc hx
 slot:=λc ob q n hc hx=>by obtain⟨sl,e1⟩:=a.slot c ob q n hc hx;obtain⟨sl',e2⟩:=b.slot c _ e1 (a.free c ob q n hx) hc hx;exact⟨sl',e2⟩
 free:=λc ob q n hx=>by obtain⟨o',e1⟩:=a.there c ob q hx;exact b.free c o' e1 (a.free c ob q n hx) hx
 there:=λc ob q hx=>by obtain⟨o',e1⟩:=a.there c ob q hx;exact b.there c o' e1 hx
 tups:=λc xs q=>b.tups c xs (a.tups c xs q)
 frzs:=λc ob xs q=>b.frzs c ob xs (a.frzs c ob xs q)
 tbls:=λc ps q=>by obtain⟨m1,e1⟩:=a.tbls c ps q;obtain⟨m2,e2⟩:=b.tbls c _ e1;exact⟨m1++m2,by rw[e2,Jg]⟩
theorem Un.kept(k:∀b u,h.get? b=some u->h'.get? b=some u):Un fs ex H H h h':=
 ⟨λb ob q _ _ _=>k b ob q,λb ob q _ _ _=>⟨ob.slots,k b ob q⟩,λ_ _ _ n _=>n,λb ob q _=>⟨ob,k b ob q⟩,λ_ _ q=>q,λ_ _ _ q=>q,λ_ ps q=>⟨#[],by rw[q];simp⟩⟩
theorem Un.refl:Un fs ex H H h h:=Un.kept λ_ _ q=>q
theorem Un.laid(k:∀b u,h.get? b=some u->h'.get? b=some u)(hp:h.objs.size<=a)(hn:H a=none):Un fs ex H (upd H a o) h h' where
 keep:=λb u q _ _ _=>k b u q
 slot:=λb u q _ _ _=>⟨u.slots,k b u q⟩
 free:=λb u q n _=>by rw[m6 (zE (zQ (zo q) hp))];exact n
 there:=λb u q _=>⟨u,k b u q⟩
 tups:=λb xs q=>by rw[m6 (m5 q hn)];exact q
 frzs:=λb u xs q=>by rw[m6 (m5 q hn)];exact q
 tbls:=λb ps q=>⟨#[],by rw[m6 (m5 q hn),q];simp⟩
theorem Un.write(mu:Mut (H x))(he:e=x\/H e=some (.own x))(k:∀b u,b≠e->h.get? b=some u->h'.get? b=some u)(heo:∃u,h'.get? e=some u):Un fs ex H (upd H x o) h h':=by
 have hx:∀b,H b=none->b≠x:=λb n z=>by subst z;rw[n]at mu;exact mu
 have hb:∀b,H b=none->b≠e:=λb n z=>by
  subst z;rcases he with r|r
  ·exact hx b n r
  ·rw[n]at r;cases r
 have hm:∀b u,H b=some u->¬Mut (some u)->b≠x:=λb u q nm z=>by subst z;rw[q]at mu;exact nm mu
 refine⟨λb u q n _ _=>k b u (hb b n) q,λb u q n _ _=>⟨u.slots,k b u (hb b n) q⟩,λb u q n _=>by rw[m6 (hx b n)];exact n,λb u q _=>?_,
  λb xs q=>by rw[m6 (hm b _ q λz=>z)];exact q,λb u xs q=>by rw[m6 (hm b _ q λz=>z)];exact q,λb ps q=>⟨#[],by rw[m6 (hm b _ q λz=>z),q];simp⟩⟩
 by_cases hbe:b=e
 ·subst hbe;exact heo
 ·exact⟨u,k b u hbe q⟩
theorem Un.mono(u:Un fs ex H H1 h h1)(hs:∀b∈fs,b∈fs')(hx:∀b∈ex,b∈ex'):Un fs' ex' H H1 h h1:=
 ⟨λb ob q n hb he=>u.keep b ob q n (λz=>hb (hs b z)) λz=>he (hx b z),λ_ _ q n _ he=>u.any q n λz=>he (hx _ z),λb ob q n he=>u.free b ob q n λz=>he (hx b z),λb ob q he=>u.there b ob q λz=>he (hx b z),u.tups,u.frzs,u.tbls⟩
end
def trk(h:Heap)(H:Hp):List Addr:=(zJ h.objs.size).filter λa=>(H a).isSome
def F6(h:Heap)(H:Hp):Heap:=PySem.W.hideAll h (trk h H)
theorem vZ(h:Heap)(H:Hp):(F6 h H).objs.size=h.objs.size:=PySem.W.hideAll_size _ _
theorem QU(e:h.get? b=some o)(n:H b=none):(F6 h H).get? b=some o:=
 PySem.W.hideAll_get _ e λhm=>by have q:(H b).isSome=true:=(List.mem_filter.mp hm).2;rw[n]at q;simp at q
theorem FO(e:(F6 h H).get? b=some o):h.get? b=some o/\H b=none:=by
 have e':h.get? b=some o:=PySem.W.of_hideAll (trk h H) e;refine⟨e',?_⟩
 cases q:H b with
 |none=>rfl
 |some x=>
   have hm:b∈trk h H:=List.mem_filter.mpr ⟨jW.mpr (zo e'),by simp[q]⟩;have z:(F6 h H).get? b=none:=PySem.W.hideAll_none (trk h H) hm;rw[z]at e;cases e
def nP(g h:Heap)(L:Addr):PNS:=(zJ h.objs.size).filterMap λa=>if a=L\/(g.get? a).isSome=true then none else (h.get? a).map λo=>(a,o)
def rest(g h:Heap)(L d:Addr):PNS:=(nP g h L).filter λp=>decide (p.1≠d)
structure Mod(K:ze)(mg:Str->Option zd)(base:Heap):Prop where
 kin:K.In base
 glob:base.Ns zZ mg
 blt:∃mb,base.Ns builtinsNs mb/\∀x:Str,x≠ "__name__"->mb x=zK x
 nolimit:base.NoLimit
structure Cx where
 prog:zI
 w:zR
 K:ze
 mg:Str->Option zd
 base:Heap
 A:jb
 N:List Str
 WX:zm
 H₀:Hp
 env:Env
 outer:List Env
 stack:List Env
 ex:List Addr
 fn:Str->Bool
 calm:Bool
 pn:PNS
 xe:VSP
def frs(l:List Env):List Addr:=l.filterMap (·.frame)
abbrev Cx.fs(X:Cx):List Addr:=frs X.outer
def Vis(sc:Scope)(x:Str):Prop:=sc.names.lookup x=some .local\/sc.names.lookup x=some .cell\/sc.names.lookup x=some .free
def Loc(sc:Scope)(x:Str):Prop:=sc.names.lookup x=some .local\/sc.names.lookup x=some .cell
def AR(env:Env)(h:Heap)(m:Str->Option zd)(x:Str)(u:zd):Prop:=
 (env.kindOf x=some .local/\m x=some u)\/((env.kindOf x=some .cell\/env.kindOf x=some .free)/\∃c,env.cells.lookup x=some c/\h.IsCell c (some u))
structure Cx.Ok(X:Cx):Prop where
 mod:Mod X.K X.mg X.base
 kind:X.env.scope.kind= .function
 glob:X.env.globals=zZ
 blt:X.env.builtins=builtinsNs
 above:X.WX.heap.objs.size<=X.env.locals
 inj:∀x y c,X.env.cells.lookup x=some c->X.env.cells.lookup y=some c->x=y
 has:∀x,(X.env.kindOf x=some .cell\/X.env.kindOf x=some .free)->∃c,X.env.cells.lookup x=some c
 cab:∀x c,X.fn x=true->X.env.cells.lookup x=some c->X.WX.heap.objs.size<=c
 hd:X.calm=true->X.A.handled=none
 frames:X.A.frames=some X.stack
 stk:X.stack=X.outer\/(X.stack=X.env::X.outer/\X.env.frame=some X.env.locals)
 exf:∀b∈X.ex,b≠X.env.locals/\∀x c,X.env.cells.lookup x=some c->c≠b
 bs:∀b o,X.base.get? b=some o->X.WX.heap.get? b=some o/\X.H₀ b=none
 bsz:X.base.objs.size<=X.WX.heap.objs.size
 noex:∀b o,X.base.get? b=some o->b∉X.ex
 exfs:∀b∈X.ex,b∉X.fs
 funs:X.WX.heap.FunFrames X.base X.outer
 frf:∀b∈X.fs,X.H₀ b=none
 gd:X.A.guards=some []
structure Inv(X:Cx)(pins:PNS)(σ:List (Option V))(H:Hp)(s:zm):Prop where
 ok:X.Ok
 os:s.os=X.WX.os
 bare:ZQ s.gens
 base:Un X.fs X.ex X.H₀ H X.WX.heap s.heap
 loc:∃m,s.heap.Ns X.env.locals m/\∀(i:Nat) (x:Str) (v:V),X.N[i]? =some x->σ[i]? =some (some v)->Vis X.env.scope x->∃u,o5 v u/\AR X.env s.heap m x u
 cell:∀x c,X.env.cells.lookup x=some c->∃v,s.heap.IsCell c v
 free:H X.env.locals=none
 freeC:∀x c,X.env.cells.lookup x=some c->H c=none
 pin:∀p∈X.pn++pins,s.heap.get? p.1=some p.2/\H p.1=none/\p.1≠X.env.locals/\p.1∉X.fs/\∀v,p.2.data≠ .cell v
 hok:HOk X.prog X.w H s.heap
 len:σ.length=X.N.length
section
variable{X:Cx}{pins:PNS}{σ:List (Option V)}{H H':Hp}{s:zm}
theorem Cx.Ok.nofr(ok:X.Ok)(e:X.base.get? b=some o):b∉X.fs:=λhb=>by have:=(ok.funs.mem hb).1;rw[e]at this;cases this
theorem Inv.bs(I:Inv X pins σ H s):∀b o,X.base.get? b=some o->s.heap.get? b=some o/\H b=none:=λb o e=>
 ⟨I.base.keep b o (I.ok.bs b o e).1 (I.ok.bs b o e).2 (I.ok.nofr e) (I.ok.noex b o e),I.base.free b o (I.ok.bs b o e).1 (I.ok.bs b o e).2 (I.ok.noex b o e)⟩
theorem Inv.bk(I:Inv X pins σ H s):∀b o,X.base.get? b=some o->s.heap.get? b=some o:=λb o e=>(I.bs b o e).1
theorem Inv.mod(I:Inv X pins σ H s):Mod X.K X.mg X.base:=I.ok.mod
theorem Inv.kIn(I:Inv X pins σ H s):X.K.In s.heap:=I.ok.mod.kin.keeps I.bk
theorem Inv.nolimit(I:Inv X pins σ H s):s.heap.NoLimit:=I.ok.mod.nolimit.keeps I.bk
theorem Inv.lt(I:Inv X pins σ H s):X.env.locals<s.heap.objs.size:=let ⟨_,hn,_⟩:=I.loc;hn.lt
theorem Inv.sz(I:Inv X pins σ H s):X.WX.heap.objs.size<=s.heap.objs.size:=zP I.ok.above (xa I.lt)
theorem Inv.nofs(I:Inv X pins σ H s)(h:s.heap.objs.size<=a):a∉X.fs:=λhb=>by obtain⟨_,o,ho,_⟩:=I.ok.funs.mem hb;exact absurd (zQ (zo ho) (zP I.sz h)) (jQ _)
theorem Inv.cne(I:Inv X pins σ H s):∀x c,X.env.cells.lookup x=some c->c≠X.env.locals:=λx c e z=>by obtain⟨v,o,ho,hd⟩:=I.cell x c e;obtain⟨m,⟨o',es,ep,ho',Hk,_⟩,_⟩:=I.loc;rw[z,ho']at ho;cases ho;rw[Hk]at hd;cases hd
theorem Inv.funs(I:Inv X pins σ H s):s.heap.FunFrames X.base X.outer:=by
 have all:∀(l:List Env),(∀b∈frs l,b∈X.fs)->X.WX.heap.FunFrames X.base l->s.heap.FunFrames X.base l:=by
  intro l
  induction l with
  |nil=>intro _ _;trivial
  |cons env r ih=>
    intro hs hl;obtain⟨hk,⟨L,o,hf,hn,ho,hd⟩,hr⟩:=hl;have hL:L∈X.fs:=hs L (by unfold frs;rw[ji,hf];exact zr);obtain⟨sl,e⟩:=I.base.slot L o ho (I.ok.frf L hL) hL λz=>I.ok.exfs L z hL;exact⟨hk,⟨L,_,hf,hn,e,hd⟩,ih (λb hb=>hs b (by unfold frs;rw[ji,hf];exact zk _ hb)) hr⟩
 exact all X.outer (λ_ hb=>hb) I.ok.funs
theorem Inv.stack(I:Inv X pins σ H s):s.heap.FunFrames X.base X.stack:=by
 rcases I.ok.stk with e|⟨e,hf⟩
 ·rw[e];exact I.funs
 ·rw[e];obtain⟨m,hn,_⟩:=I.loc;refine .cons (by rw[I.ok.kind];decide) hf hn ?_ I.funs;exact Heap.get?_none_of_le (zP I.ok.bsz I.ok.above)
theorem Inv.stkSub(I:Inv X pins σ H s):∀b∈frs X.stack,b∈X.env.locals::X.fs:=λb hb=>by
 rcases I.ok.stk with e|⟨e,hf⟩
 ·rw[e]at hb;exact zk _ hb
 ·rw[e]at hb;unfold frs at hb;rw[ji,hf]at hb;exact hb
theorem Inv.stkFree(I:Inv X pins σ H s):∀b∈frs X.stack,H b=none:=λb hb=>by
 rcases zz.mp (I.stkSub b hb)with e|hb
 ·rw[e];exact I.free
 ·obtain⟨_,o,ho,_⟩:=I.ok.funs.mem hb;exact I.base.free b o ho (I.ok.frf b hb) λz=>I.ok.exfs b z hb
theorem Inv.step{t':Nat}{d':Drawn}{ch:List Addr}(I:Inv X pins σ H s)
 (hch:∀b∈ch,(b∈X.ex\/X.WX.heap.objs.size<=b)/\b≠X.env.locals/\(∀x c,X.env.cells.lookup x=some c->c≠b)/\∀p∈X.pn++pins,p.1≠b)
 (keep:∀b o,b≠X.env.locals->b∉X.fs->b∉ch->s.heap.get? b=some o->H b=none->h'.get? b=some o)
 (slot:∀b o,b≠X.env.locals->b∈X.fs->b∉ch->s.heap.get? b=some o->H b=none->∃sl,h'.get? b=some {o with slots:=sl}) (free:∀b o,b∉ch->s.heap.get? b=some o->H b=none->H' b=none)
 (there:∀b o,b∉ch->s.heap.get? b=some o->∃o',h'.get? b=some o')
 (tups:∀b xs,H b=some (.tup xs)->H' b=some (.tup xs)) (frzs:∀b o u,H b=some (.frz o u)->H' b=some (.frz o u)) (tbls:∀b ps,H b=some (.tbl ps)->∃more,H' b=some (.tbl (ps++more)))
 (ns:∀m,s.heap.Ns X.env.locals m->h'.Ns X.env.locals m) (hok:HOk X.prog X.w H' h') (hg:ZQ g'):
 Inv X pins σ H' {s with heap:=h',gens:=g',drawn:=d',toks:=t'}:=by
 have neL:∀b o,X.WX.heap.get? b=some o->b≠X.env.locals:=λb o e=>zE (zQ (zo e) I.ok.above);have neC:∀b o,X.WX.heap.get? b=some o->b∉X.ex->b∉ch:=λb o e hx hb=>by
  rcases (hch b hb).1 with z|z
  ·exact hx z
  ·exact absurd (zQ (zo e) z) (jQ _)
 have cellK:∀x c,X.env.cells.lookup x=some c->∀v,s.heap.IsCell c v->h'.IsCell c v:=λx c e v ⟨o,ho,hd⟩=>by
  have nch:c∉ch:=λz=>(hch c z).2.2.1 x c e rfl;by_cases hc:c∈X.fs
  ·obtain⟨sl,q⟩:=slot c o (I.cne x c e) hc nch ho (I.freeC x c e);exact⟨_,q,hd⟩
  ·exact⟨o,keep c o (I.cne x c e) hc nch ho (I.freeC x c e),hd⟩
 refine⟨I.ok,I.os,hg,⟨λb o e n hb hx=>?_,λb o e n hb hx=>?_,λb o e n hx=>?_,λb o e hx=>?_,λb xs e=>tups b xs (I.base.tups b xs e),λb o xs e=>frzs b o xs (I.base.frzs b o xs e),λb ps e=>?_⟩,?_,λx c e=>?_,?_,λx c e=>?_,λp hp=>?_,hok,I.len⟩
 ·exact keep b o (neL b o e) hb (neC b o e hx) (I.base.keep b o e n hb hx) (I.base.free b o e n hx)
 ·obtain⟨sl,e1⟩:=I.base.slot b o e n hb hx;obtain⟨sl',e2⟩:=slot b _ (neL b o e) hb (neC b o e hx) e1 (I.base.free b o e n hx);exact⟨sl',e2⟩
 ·obtain⟨o',e1⟩:=I.base.there b o e hx;exact free b o' (neC b o e hx) e1 (I.base.free b o e n hx)
 ·obtain⟨o',e1⟩:=I.base.there b o e hx;exact there b o' (neC b o e hx) e1
 ·obtain⟨m1,e1⟩:=I.base.tbls b ps e;obtain⟨m2,e2⟩:=tbls b _ e1;exact⟨m1++m2,by rw[e2,Jg]⟩
 · obtain⟨m,hn,hl⟩:=I.loc;refine⟨m,ns m hn,λi x v e1 e2 e3=>?_⟩;obtain⟨u,r,l⟩:=hl i x v e1 e2 e3;refine⟨u,r,?_⟩;rcases l with l|⟨k,c,e,z⟩
   ·exact .inl l
   ·exact .inr ⟨k,c,e,cellK x c e _ z⟩
 ·obtain⟨v,z⟩:=I.cell x c e;exact⟨v,cellK x c e v z⟩
 ·obtain⟨m,⟨o,_,_,ho,_⟩,_⟩:=I.loc;exact free _ o (λz=>(hch _ z).2.1 rfl) ho I.free
 ·obtain⟨v,o,ho,hd⟩:=I.cell x c e;exact free c o (λz=>(hch c z).2.2.1 x c e rfl) ho (I.freeC x c e)
 ·obtain⟨e,n,ne,nf,d⟩:=I.pin p hp;have nch:p.1∉ch:=λz=>(hch p.1 z).2.2.2 p hp rfl;exact⟨keep p.1 p.2 ne nf nch e n,free p.1 p.2 nch e n,ne,nf,d⟩
theorem Inv.un(I:Inv X pins σ H s)(u:Un X.fs [] H H' s.heap h')(hok:HOk X.prog X.w H' h'):Inv X pins σ H' {s with heap:=h',toks:=t'}:=by
 obtain⟨m,⟨o,es,ep,ho,r⟩,_⟩:=id I.loc;obtain⟨sl,hL⟩:=u.any ho I.free (by simp);exact I.step (g':=s.gens) (d':=s.drawn) (ch:= []) (λ_ z=>nomatch z) (λb o _ hb _ e n=>u.keep b o e n hb (by simp)) (λb o _ hb _ e n=>u.slot b o e n hb (by simp)) (λb o _ e n=>u.free b o e n (by simp)) (λb o _ e=>u.there b o e (by simp)) u.tups u.frzs u.tbls (λm' hm=>by obtain⟨o',es',ep',ho',r'⟩:=hm;rw[ho]at ho';cases ho';exact⟨_,es',ep',hL,r'⟩) hok I.bare
theorem Inv.call{t':Nat}{d':Drawn}{ch:List Addr}(I:Inv X pins σ H s)(u:Un (frs X.stack) ch H H' s.heap h')(hok:HOk X.prog X.w H' h')(hg:ZQ g')
 (hch:∀b∈ch,(b∈X.ex\/X.WX.heap.objs.size<=b)/\b≠X.env.locals/\(∀x c,X.env.cells.lookup x=some c->c≠b)/\∀p∈X.pn++pins,p.1≠b):
 Inv X pins σ H' {s with heap:=h',gens:=g',drawn:=d',toks:=t'}:=by
 obtain⟨m,⟨o,es,ep,ho,r⟩,_⟩:=id I.loc;obtain⟨sl,hL⟩:=u.any ho I.free λz=>(hch _ z).2.1 rfl;exact I.step (ch:=ch) hch (λb o hL hb hc e n=>u.keep b o e n (λz=>(zz.mp (I.stkSub b z)).elim hL hb) hc) (λb o _ _ hc e n=>u.any e n hc) (λb o hc e n=>u.free b o e n hc) (λb o hc e=>u.there b o e hc) u.tups u.frzs u.tbls (λm' hm=>by obtain⟨o',es',ep',ho',r'⟩:=hm;rw[ho]at ho';cases ho';exact⟨_,es',ep',hL,r'⟩) hok hg
theorem Inv.turned{t':Nat}(I:Inv X pins σ H s)(k:∀b o,b≠it->s.heap.get? b=some o->h'.get? b=some o)(hn:H it=none)(hL:it≠X.env.locals)
 (h1:it∈X.ex\/X.WX.heap.objs.size<=it) (h2:∀x c,X.env.cells.lookup x=some c->c≠it) (h3:∀p∈X.pn++pins,p.1≠it):Inv X pins σ H {s with heap:=h',toks:=t'}:=by
 have nit:∀b u,H b=some u->b≠it:=λb u e z=>by rw[z,hn]at e;cases e
 refine I.step (g':=s.gens) (d':=s.drawn) (ch:= [it]) (λb hb=>?_) (λb o _ _ hc e _=>k b o (λz=>hc (by simp[z])) e) (λb o _ _ hc e _=>⟨o.slots,k b o (λz=>hc (by simp[z])) e⟩) (λ_ _ _ _ n=>n)
  (λb o hc e=>⟨o,k b o (λz=>hc (by simp[z])) e⟩) (λ_ _ e=>e) (λ_ _ _ e=>e) (λb ps e=>⟨#[],by rw[e];simp⟩) (λm hm=>?_) (λb u e=>?_) I.bare
 · have e:b=it:=by simpa using hb
   subst e;exact⟨h1,hL,h2,h3⟩
 ·obtain⟨o,es,ep,ho,r⟩:=hm;exact⟨o,es,ep,k _ o (Ne.symm hL) ho,r⟩
 · refine(I.hok b u e).stay (λc v hc q=>k c v ?_ q) (λ_ q=>q) λ_ _ q=>q;rcases hc with z|z
   ·rw[z];exact nit b u e
   ·exact nit c _ z
theorem Inv.tok(I:Inv X pins σ H s)(t:Nat):Inv X pins σ H {s with toks:=t}:=I.un (h':=s.heap) (t':=t) Un.refl I.hok
theorem Inv.kept(I:Inv X pins σ H s)(k:∀b u,s.heap.get? b=some u->h'.get? b=some u):Inv X pins σ H {s with heap:=h',toks:=t'}:=I.un (Un.kept k) (I.hok.kept k)
theorem Inv.laid(I:Inv X pins σ H s)(k:∀b u,s.heap.get? b=some u->h'.get? b=some u)(hp:s.heap.objs.size<=a)(new:K5 X.prog X.w (upd H a o) h' a o):
 Inv X pins σ (upd H a o) {s with heap:=h',toks:=t'}:=I.un (Un.laid k hp (I.hok.fresh hp)) (I.hok.laid k hp new)
theorem Inv.write(I:Inv X pins σ H s)(mu:Mut (H x))(he:e=x\/H e=some (.own x))(k:∀b u,b≠e->s.heap.get? b=some u->h'.get? b=some u)(heo:∃u,h'.get? e=some u)
 (new:K5 X.prog X.w (upd H x o) h' x o):Inv X pins σ (upd H x o) {s with heap:=h',toks:=t'}:=I.un (Un.write mu he k heo) (I.hok.write mu he k heo new)
theorem Inv.pins_of(I:Inv X pins σ H s)(h:∀p∈pins',s.heap.get? p.1=some p.2/\H p.1=none/\p.1≠X.env.locals/\p.1∉X.fs/\∀v,p.2.data≠ .cell v):Inv X pins' σ H s:=
 ⟨I.ok,I.os,I.bare,I.base,I.loc,I.cell,I.free,I.freeC,λp hp=>(zU.mp hp).elim (λz=>I.pin p (yc _ z)) (h p),I.hok,I.len⟩
theorem fJ{N:List Str}(hN:N.Nodup){i j:Nat}{x:Str}(a:N[i]? =some x)(b:N[j]? =some x):i=j:=by obtain⟨h1,e1⟩:=yM.mp a;obtain⟨h2,e2⟩:=yM.mp b;exact(xO hN).mp (e1.trans e2.symm)
theorem kQ{M:Model}{A:jb}{E:VSP}{i:Nat}{x:Str}{v:V}{u:zd}{Q:Unit->zm->Prop}(I:Inv X pins σ H s)(hN:X.N.Nodup)(hi:X.N[i]? =some x)(hx:Loc X.env.scope x)(r:o5 v u)
 (h:∀s',Inv X pins (σ.set i (some v)) H s'->(∃a,yS a s.heap s'.heap/\(a=X.env.locals\/X.env.cells.lookup x=some a))->Q () s') (hf:X.fn x=true\/X.env.scope.names.lookup x=some .local):zp M A (storeName X.env x u) Q E s:=by
 obtain⟨m,hn,hl⟩:=id I.loc;have hcls:(X.env.scope.kind == .class||(X.env.scope.kind == .module&&X.env.locals != X.env.globals))=false:=by rw[I.ok.kind];rfl
 have hiσ:i<σ.length:=by rw[I.len];exact(yM.mp hi).1
 have cne:=I.cne;have tracked:∀ {a:Addr} {h':Heap},(∃o,s.heap.get? a=some o/\H a=none)->yS a s.heap h'->HOk X.prog X.w H h':=λ{a h'} ha hs b ob e=>by
  obtain⟨_,_,hfree⟩:=ha;refine(I.hok b ob e).stay (λc w' hc q=>(hs.2 c ?_).trans q) (λ_ q=>q) λ_ _ q=>q;rintro rfl;rcases hc with rfl|hc
  ·rw[hfree]at e;cases e
  ·rw[hfree]at hc;cases hc
 rcases hx with hk|hk
 · refine wpAny_storeName_local hk hn (λh' hn' hs=>?_) hcls;obtain⟨oL,_,_,hoL,_⟩:=id hn;refine h _ ⟨I.ok,I.os,I.bare,⟨λb o e n hb hx=>?_,λb o e n hb hx=>?_,I.base.free,λb o e hx=>?_,I.base.tups,I.base.frzs,I.base.tbls⟩,⟨_,hn',λj y v' e1 e2 e3=>?_⟩,λy c e=>?_,I.free,I.freeC,λp hp=>?_,tracked ⟨oL,hoL,I.free⟩ hs,by simpa using I.len⟩ ⟨_,hs,.inl rfl⟩
   ·exact(hs.2 b (zE (zQ (zo e) I.ok.above))).trans (I.base.keep b o e n hb hx)
   ·obtain⟨sl,e1⟩:=I.base.slot b o e n hb hx;exact⟨sl,(hs.2 b (zE (zQ (zo e) I.ok.above))).trans e1⟩
   ·obtain⟨o',e1⟩:=I.base.there b o e hx;exact⟨o',(hs.2 b (zE (zQ (zo e) I.ok.above))).trans e1⟩
   · by_cases hj:j=i
     · subst hj;rw[hi]at e1;cases e1;rw[jg hiσ]at e2
       cases e2
       exact⟨u,r,.inl ⟨hk,by simp⟩⟩
     · rw[zY (Ne.symm hj)]at e2;obtain⟨u',r',q⟩:=hl j y v' e1 e2 e3;refine⟨u',r',?_⟩;rcases q with⟨k,e⟩|⟨k,c,e,z⟩
       ·refine .inl ⟨k,?_⟩;have:y≠x:=λe=>hj (fJ hN e1 (e▸hi));simp[this,e]
       ·exact .inr ⟨k,c,e,z.sameBut hs (cne y c e)⟩
   ·obtain⟨w',z⟩:=I.cell y c e;exact⟨w',z.sameBut hs (cne y c e)⟩
   ·obtain⟨e,n,ne,nf,d⟩:=I.pin p hp;exact⟨(hs.2 p.1 ne).trans e,n,ne,nf,d⟩
 · have hfn:X.fn x=true:=by
    rcases hf with z|z
    ·exact z
    ·rw[z]at hk;cases hk
   obtain⟨c,hc⟩:=I.ok.has x (.inl hk);obtain⟨w',z⟩:=I.cell x c hc;refine wpAny_storeName_cell I.ok.kind hk hc z (λh' hc' hs=>?_);obtain⟨oc,hoc,hocd⟩:=id z;refine h {s with heap:=h'} ⟨I.ok,I.os,I.bare,⟨λb o e n hb hx=>?_,λb o e n hb hx=>?_,I.base.free,λb o e hx=>?_,I.base.tups,I.base.frzs,I.base.tbls⟩,⟨m,hn.sameBut hs (Ne.symm (cne x c hc)),λj y v' e1 e2 e3=>?_⟩,λy c' e=>?_,I.free,I.freeC,λp hp=>?_,tracked ⟨oc,hoc,I.freeC x c hc⟩ hs,by simpa using I.len⟩ ⟨c,hs,.inr hc⟩
   ·exact(hs.2 b (zE (zQ (zo e) (I.ok.cab x c hfn hc)))).trans (I.base.keep b o e n hb hx)
   ·obtain⟨sl,e1⟩:=I.base.slot b o e n hb hx;exact⟨sl,(hs.2 b (zE (zQ (zo e) (I.ok.cab x c hfn hc)))).trans e1⟩
   ·obtain⟨o',e1⟩:=I.base.there b o e hx;exact⟨o',(hs.2 b (zE (zQ (zo e) (I.ok.cab x c hfn hc)))).trans e1⟩
   · by_cases hj:j=i
     · subst hj;rw[hi]at e1;cases e1;rw[jg hiσ]at e2
       cases e2
       exact⟨u,r,.inr ⟨.inl hk,c,hc,hc'⟩⟩
     · rw[zY (Ne.symm hj)]at e2;obtain⟨u',r',q⟩:=hl j y v' e1 e2 e3;refine⟨u',r',?_⟩;rcases q with q|⟨k,c',e,z'⟩
       ·exact .inl q
       ·refine .inr ⟨k,c',e,z'.sameBut hs ?_⟩;rintro rfl;exact hj (fJ hN e1 (I.ok.inj _ _ _ e hc▸hi))
   · by_cases hcc:c'=c
     ·subst hcc;exact⟨_,hc'⟩
     ·obtain⟨w2,z2⟩:=I.cell y c' e;exact⟨w2,z2.sameBut hs hcc⟩
   ·obtain⟨e,n,ne,nf,d⟩:=I.pin p hp;refine⟨(hs.2 p.1 ?_).trans e,n,ne,nf,d⟩;intro q;rw[q,hoc]at e;have q':oc=p.2:=je e;exact d w' (by rw[<-q'];exact hocd)
theorem vW(I:Inv X pins σ H s)(hN:X.N.Nodup)(hi:X.N[i]? =some x)(hx:Loc X.env.scope x)(r:o5 v u)
 (h:∀s',Inv X pins (σ.set i (some v)) H s'->Q () s') (hf:X.fn x=true\/X.env.scope.names.lookup x=some .local):zp M A (storeName X.env x u) Q E s:=
 kQ I hN hi hx r (λs' I' _=>h s' I') hf
end
abbrev XK:=zd->Option Addr->Hp->Prop
abbrev St:=List (Option V)
abbrev VK:=V->Hp->Prop
abbrev TE:=St->Hp->VK->Prop
abbrev TT:=St->Hp->(Bool->Hp->Prop)->Prop
abbrev TA:=St->Hp->(List V->Hp->Prop)->Prop
structure m7 where
 nx:St->Hp->Prop
 rt:VK
 bk:St->Hp->Prop:=λ_ _=>False
 ct:St->Hp->Prop:=λ_ _=>False
abbrev TS:=m7->St->Hp->Prop
def EP(X:Cx)(pins:PNS)(σ:St)(Q:VK)(u:zd)(s':zm):Prop:=∃v H',Inv X pins σ H' s'/\o5 v u/\Q v H'
def TP(X:Cx)(pins:PNS)(σ:St)(Q:Bool->Hp->Prop)(b:Bool)(s':zm):Prop:=∃H',Inv X pins σ H' s'/\Q b H'
def AP(X:Cx)(pins:PNS)(σ:St)(Q:List V->Hp->Prop)(us:List zd)(s':zm):Prop:=∃vs H',Inv X pins σ H' s'/\j7 vs us/\Q vs H'
theorem EP.elim{X:Cx}{σ:St}{Q:VK}{u:zd}{P:Prop}(h:EP X pins σ Q u s)(k:∀v H,Inv X pins σ H s->o5 v u->Q v H->P):P:=by obtain⟨a,b,c,d,e⟩:=h;exact k a b c d e
theorem TP.elim{X:Cx}{σ:St}{u:Bool}{s:zm}{P:Prop}(h:TP X pins σ Q u s)(k:∀H,Inv X pins σ H s->Q u H->P):P:=by obtain⟨b,c,e⟩:=h;exact k b c e
theorem AP.elim{X:Cx}{σ:St}{u:List zd}{s:zm}{P:Prop}(h:AP X pins σ Q u s)(k:∀v H,Inv X pins σ H s->j7 v u->Q v H->P):P:=by obtain⟨a,b,c,d,e⟩:=h;exact k a b c d e
def SP(X:Cx)(pins:PNS)(D:m7)(f:Flow)(s':zm):Prop:=
 match f with
 | .next=>∃ X1 H',Inv X pins X1 H' s'/\D.nx X1 H'
 | .brk=>∃ X1 H',Inv X pins X1 H' s'/\D.bk X1 H'
 | .cont=>∃ X1 H',Inv X pins X1 H' s'/\D.ct X1 H'
 | .ret u=>∃v X1 H',Inv X pins X1 H' s'/\o5 v u/\D.rt v H'
def PE(X:Cx)(e:Expr)(t:TE):Prop:=
 ∀(pins:PNS) (s:zm) (σ:St) (H:Hp) (Q:VK),Inv X pins σ H s->t σ H Q->zp (zy X.prog X.w) X.A (eval e X.env) (EP X pins σ Q) X.xe s
def PT(X:Cx)(e:Expr)(t:TT):Prop:=
 ∀(pins:PNS) (s:zm) (σ:St) (H:Hp) (Q:Bool->Hp->Prop),Inv X pins σ H s->t σ H Q->zp (zy X.prog X.w) X.A (isTrue e X.env (eval e X.env)) (TP X pins σ Q) X.xe s
def PW(X:Cx)(e:Expr)(t:TT):Prop:=
 ∀(whole:Sem zd) (pins:PNS) (s:zm) (σ:St) (H:Hp) (Q:Bool->Hp->Prop),Inv X pins σ H s->t σ H Q->zp (zy X.prog X.w) X.A (isTrue e X.env whole) (TP X pins σ Q) X.xe s
def PA(X:Cx)(es:List Expr)(t:TA):Prop:=
 ∀(pos:Pos) (pins:PNS) (s:zm) (σ:St) (H:Hp) (Q:List V->Hp->Prop),Inv X pins σ H s->t σ H Q->zp (zy X.prog X.w) X.A (spliced (yA pos (zF es X.env))) (AP X pins σ Q) X.xe s
def PS(X:Cx)(st:Stmt)(t:TS):Prop:=
 ∀(pins:PNS) (s:zm) (σ:St) (H:Hp) (D:m7),Inv X pins σ H s->t D σ H->zp (zy X.prog X.w) X.A (exec st X.env) (SP X pins D) X.xe s
def PSs(X:Cx)(st:List Stmt)(t:TS):Prop:=
 ∀(pins:PNS) (s:zm) (σ:St) (H:Hp) (D:m7),Inv X pins σ H s->t D σ H->zp (zy X.prog X.w) X.A (execs st X.env) (SP X pins D) X.xe s
theorem thn(h:zp M A t Q E s)(hQ:∀a s,Q a s->Q' a s):zp M A t Q' E s:=jf h hQ λ_ _ x=>x
section
variable{X:Cx}
def SL(i:Nat):TE:=λσ H Q=>∃v,σ[i]? =some (some v)/\Q v H
def tC(v:V):TE:=λ_ H Q=>Q v H
theorem aP(hN:X.N[i]? =some x)(hv:Vis X.env.scope x)(hd:(x==("__debug__" :Str))=false)(hcd:(x==("__classdict__" :Str))=false):PE X (.Name x pos) (SL i):=by
 intro pins s σ H Q I h;obtain⟨v,e,h⟩:=h;obtain⟨m,hn,hl⟩:=I.loc;obtain⟨u,r,l⟩:=hl i x v hN e hv;have fin:EP X pins σ Q u s:=⟨v,H,I,r,h⟩;rcases l with⟨hk,hm⟩|⟨hk,c,hc,hcell⟩
 ·exact wpAny_Name (wpAny_loadName_local I.ok.kind hk hn hm fin) hd
 · rcases hk with hk|hk
   ·exact wpAny_Name (wpAny_loadName_cell I.ok.kind hk hc hcell fin) hd
   ·exact wpAny_Name (wpAny_loadName_free I.ok.kind hk hc hcell fin hcd) hd
theorem uK{i j pos}:PE X (.Constant (.int i) j pos) (tC (.int i)):=λ_ _ _ H _ I h=>wpAny_Constant_int ⟨.int i,H,I.tok _,⟨_,rfl⟩,h⟩
theorem wm{b j pos}:PE X (.Constant (.bool b) j pos) (tC (.bl b)):=λ_ _ _ H _ I h=>Constant_bool ⟨.bl b,H,I,rfl,h⟩
theorem wP{j pos}:PE X (.Constant .none j pos) (tC .non):=λ_ _ _ H _ I h=>Constant_none ⟨.non,H,I,rfl,h⟩
theorem KP{x j pos}:PE X (.Constant (.str x) j pos) (tC (.str x)):=λ_ _ _ H _ I h=>Calls.Constant_str ⟨.str x,H,I.tok _,⟨_,rfl⟩,h⟩
def Gl(X:Cx)(x:Str):Prop:=X.env.kindOf x=some .globalImplicit
theorem sB(I:Inv X pins σ H s)(hg:Gl X x)(hm:X.mg x=some u)(h:Q u s)
 (hd:(x==("__debug__" :Str))=false):zp (zy X.prog X.w) X.A (eval (.Name x pos) X.env) Q E s:=
 YD I.ok.kind hg (Calls.loadGlobal_global (by rw[I.ok.glob];exact I.mod.glob.keeps I.bk) hm h) hd
theorem P8(I:Inv X pins σ H s)(hg:Gl X x)(hm:X.mg x=none)(hv:zK x=some u)(h:Q u s)
 (hn:x≠ "__name__":=by decide) (hd:(x==("__debug__" :Str))=false:=by decide):zp (zy X.prog X.w) X.A (eval (.Name x pos) X.env) Q E s:=by
 obtain⟨mb,h1,h2⟩:=I.mod.blt;exact YD I.ok.kind hg (Calls.loadGlobal_builtin (by rw[I.ok.glob];exact I.mod.glob.keeps I.bk) hm (by rw[I.ok.blt];exact h1.keeps I.bk) ((h2 x hn).trans hv) h) hd
theorem MX(hg:Gl X x)(hm:X.mg x=none)(hv:zK x=some u)(r:o5 v u)(hn:x≠ "__name__")(hd:(x==("__debug__" :Str))=false):PE X (.Name x pos) (tC v):=
 λ_ _ _ H _ I h=>P8 I hg hm hv ⟨v,H,I,r,h⟩ hn hd
variable{a b:Expr}{ta tb:TE}{pos:Pos}
variable{tA tB':TT}{rest:List Expr}
def Dm(t u:TT):TT:=λσ H Q=>t σ H λc H1=>if c=true then u σ H1 Q else Q false H1
def tOr(t u:TT):TT:=λσ H Q=>t σ H λc H1=>if c=true then Q true H1 else u σ H1 Q
def Df(t:TT):TT:=λσ H Q=>t σ H λc H1=>Q (!c) H1
theorem dU(ha:PT X a tA):PW X (.BoolOp .And [a] pos) tA:=by
 intro wh pins s σ H Q I h;refine isTrue_and (thn (ha pins s σ H Q I h) λc s1 e=>?_)
 cases c with
 |true=>exact isTrue_and_nil e
 |false=>exact e
theorem OT(ha:PT X a tA):PW X (.BoolOp .Or [a] pos) tA:=by
 intro wh pins s σ H Q I h;refine isTrue_or (thn (ha pins s σ H Q I h) λc s1 e=>?_)
 cases c with
 |false=>exact isTrue_or_nil e
 |true=>exact e
theorem Dg(ha:PT X a tA)(hb:PW X (.BoolOp .And (b::rest) pos) tB'):PW X (.BoolOp .And (a::b::rest) pos) (Dm tA tB'):=by
 intro wh pins s σ H Q I h;refine isTrue_and (thn (ha pins s σ H _ I h) λc s1 Gc=>Gc.elim λH1 I1 q1=>?_)
 cases c with
 |true=>exact hb wh pins s1 σ H1 Q I1 q1
 |false=>exact⟨H1,I1,q1⟩
theorem GY(ha:PT X a tA)(hb:PW X (.BoolOp .Or (b::rest) pos) tB'):PW X (.BoolOp .Or (a::b::rest) pos) (tOr tA tB'):=by
 intro wh pins s σ H Q I h;refine isTrue_or (thn (ha pins s σ H _ I h) λc s1 Gc=>Gc.elim λH1 I1 q1=>?_)
 cases c with
 |true=>exact⟨H1,I1,q1⟩
 |false=>exact hb wh pins s1 σ H1 Q I1 q1
theorem Bb(ha:PT X a tA):PT X (.UnaryOp .Not a pos) (Df tA):=by intro pins s σ H Q I h;exact isTrue_not (ha pins s σ H (λc H1=>Q (!c) H1) I h)
def Cj(ta:TE):TE:=λσ H Q=>ta σ H λx H1=>∃c,x= .bl c/\Q (.bl (!c)) H1
theorem VO{op}(h:PE X a t):PE X (.BoolOp op [a] pos) t:=λpins s σ H Q I hw=>BoolOp_one (h pins s σ H Q I hw)
theorem NQ(ha:PE X a ta):PE X (.UnaryOp .Not a pos) (Cj ta):=by
 intro pins s σ H Q I h;refine UnaryOp_ (thn (ha pins s σ H _ I h) λv s1 Gc=>Gc.elim λx H1 I1 r1 q1=>?_);obtain⟨c,rfl,q1⟩:=q1
 cases r1
 exact not_of (yG ⟨.bl (!c),H1,I1,rfl,q1⟩)
def tIf(t:TT)(ta tb:TE):TE:=λσ H Q=>t σ H λc H1=>if c=true then ta σ H1 Q else tb σ H1 Q
theorem qz(hc:PT X c tA)(ha:PE X a ta)(hb:PE X b tb):PE X (.IfExp c a b pos) (tIf tA ta tb):=by
 intro pins s σ H Q I h;refine wpAny_IfExp (thn (hc pins s σ H _ I h) λd s1 Gc=>Gc.elim λH1 I1 q1=>?_)
 cases d with
 |true=>exact ha pins s1 σ H1 Q I1 q1
 |false=>exact hb pins s1 σ H1 Q I1 q1
end
def SqL(K:ze)(H:Hp)(a:Addr)(xs:List V):Prop:=
 Rd H a (.lst xs)\/
  ∃(o:Obj) (Fj:Array zd) (n:Nat),K.lookup a=some o/\o.cls= .type "list"/\o.dict=none/\o.data= .seq Fj n/\Fj.size<=zi/\j7 xs Fj.toList
def SqT(K:ze)(H:Hp)(a:Addr)(xs:List V):Prop:=
 Rd H a (.tup xs)\/
  ∃(o:Obj) (Fj:Array zd) (n:Nat),K.lookup a=some o/\o.cls= .type "tuple"/\(o.data,o.dict)= (Data.seq Fj n,none)/\Fj.size<=zi/\j7 xs Fj.toList
def TR:zd->Option V
 | .none=>some .non
 | .bool b=>some (.bl b)
 | .int i _=>some (.int i)
 | .str x _=>some (.str x)
 | .bytes b _=>some (.byt b)
 | .float b _=>some (.flt b)
 | .ref a=>some (.ref a)
 | .type n=>some (.ty n)
 |_=>none
theorem o5.abs(r:o5 x u):TR u=some x:=by
 cases x with
 |non=>cases r;rfl
 |bl _=>cases r;rfl
 |int _=>obtain⟨t,rfl⟩:=r;rfl
 |str _=>obtain⟨t,rfl⟩:=r;rfl
 |byt _=>obtain⟨t,rfl⟩:=r;rfl
 |flt _=>obtain⟨t,rfl⟩:=r;rfl
 |ref _=>cases r;rfl
 |ty _=>cases r;rfl
theorem o5.inj(r:o5 x u)(q:o5 y u):x=y:=je (r.abs.symm.trans q.abs)
theorem j7.inj(h:j7 xs us)(k:j7 ys us):xs=ys:=by
 induction h generalizing ys with
 |nil=>cases k;rfl
 |cons r t ih=>cases k with
   |cons r' t'=>rw[r.inj r',ih t']
section
theorem SqL.of{K:ze}(h:H a=some (.lst xs)):SqL K H a xs:=.inl (.inl h)
theorem SqT.of{K:ze}(h:H a=some (.tup xs)):SqT K H a xs:=.inl (.inl h)
theorem Inv.list(I:Inv X pins σ H s)(h:SqL X.K H a xs):∃Fj:List zd,j7 xs Fj/\PlainL s.heap a Fj.toArray/\xs.length<=zi:=by
 rcases h with h|⟨o,Fj,n,hk,hc,hd,hs,hz,r⟩
 ·obtain⟨z,Fj,n,r,e⟩:=h.ok I.hok;exact⟨Fj,r,⟨_,n,e,rfl,rfl,rfl⟩,z⟩
 ·refine⟨Fj.toList,r,⟨o,n,I.kIn a o hk,hc,hd,by simpa using hs⟩,?_⟩;have e:=r.length;simp only[jA]at e;lia
theorem Inv.tuple(I:Inv X pins σ H s)(h:SqT X.K H a xs):∃Fj:List zd,j7 xs Fj/\Zi s.heap a Fj.toArray/\xs.length<=zi:=by
 rcases h with h|⟨o,Fj,n,hk,hc,hs,hz,r⟩
 ·obtain⟨z,Fj,r,p⟩:=h.ok I.hok;exact⟨Fj,r,W7.tup p,z⟩
 ·refine⟨Fj.toList,r,⟨o,I.kIn a o hk,hc,n,by simpa using (Za hs).1⟩,?_⟩;have e:=r.length;simp only[jA]at e;lia
theorem Inv.list_inj(I:Inv X pins σ H s)(h:SqL X.K H a xs)(h':SqL X.K H a ys):xs=ys:=by
 obtain⟨Fj,r,⟨o,n,e,_,_,d⟩,_⟩:=I.list h;obtain⟨its',r',⟨o',n',e',_,_,d'⟩,_⟩:=I.list h';rw[e]at e';cases e';rw[d]at d';injection d' with d1 _;have:Fj=its':=by simpa using congrArg Array.toList d1
 subst this;exact r.inj r'
theorem Inv.tuple_inj(I:Inv X pins σ H s)(h:SqT X.K H a xs)(h':SqT X.K H a ys):xs=ys:=by
 obtain⟨Fj,r,⟨o,e,_,n,d⟩,_⟩:=I.tuple h;obtain⟨its',r',⟨o',e',_,n',d'⟩,_⟩:=I.tuple h';rw[e]at e';cases e';rw[d]at d';injection d' with d1 _;have:Fj=its':=by simpa using congrArg Array.toList d1
 subst this;exact r.inj r'
end
abbrev Cx.wish(X:Cx)(E:VSP):Cx:={X with xe:=E}
abbrev Cx.nox(X:Cx):Cx:=X.wish λ_ _=>False
theorem Cx.Ok.wish{X:Cx}(ok:X.Ok)(E:VSP):(X.wish E).Ok:=
 ⟨ok.mod,ok.kind,ok.glob,ok.blt,ok.above,ok.inj,ok.has,ok.cab,ok.hd,ok.frames,ok.stk,ok.exf,ok.bs,ok.bsz,ok.noex,ok.exfs,ok.funs,ok.frf,ok.gd⟩
theorem Cx.Ok.unwish{X:Cx}(ok:(X.wish E).Ok):X.Ok:=
 ⟨ok.mod,ok.kind,ok.glob,ok.blt,ok.above,ok.inj,ok.has,ok.cab,ok.hd,ok.frames,ok.stk,ok.exf,ok.bs,ok.bsz,ok.noex,ok.exfs,ok.funs,ok.frf,ok.gd⟩
section
theorem Inv.wish(I:Inv X pins σ H s)(E:VSP):Inv (X.wish E) pins σ H s:=⟨I.ok.wish E,I.os,I.bare,I.base,I.loc,I.cell,I.free,I.freeC,I.pin,I.hok,I.len⟩
theorem Inv.unwish(I:Inv (X.wish E) pins σ H s):Inv X pins σ H s:=⟨I.ok.unwish,I.os,I.bare,I.base,I.loc,I.cell,I.free,I.freeC,I.pin,I.hok,I.len⟩
theorem SP.unwish(h:SP (X.wish E) pins D f s'):SP X pins D f s':=by
 cases f with
 |next=>obtain⟨X1,H',I,q⟩:=h;exact⟨X1,H',I.unwish,q⟩
 |brk=>obtain⟨X1,H',I,q⟩:=h;exact⟨X1,H',I.unwish,q⟩
 |cont=>obtain⟨X1,H',I,q⟩:=h;exact⟨X1,H',I.unwish,q⟩
 |ret u=>obtain⟨v,X1,H',I,r,q⟩:=h;exact⟨v,X1,H',I.unwish,r,q⟩
theorem PE.nox(h:PE X.nox e t):PE X e t:=λpins s σ H Q I hw=>
 jf (h pins s σ H Q (I.wish _) hw) (λ_ _ ⟨v,H',I',r,q⟩=>⟨v,H',I'.unwish,r,q⟩) λ_ _ z=>jS z
theorem PT.nox(h:PT X.nox e t):PT X e t:=λpins s σ H Q I hw=>
 jf (h pins s σ H Q (I.wish _) hw) (λ_ _ ⟨H',I',q⟩=>⟨H',I'.unwish,q⟩) λ_ _ z=>jS z
theorem PSs.nox{st:List Stmt}(h:PSs X.nox st t):PSs X st t:=λpins s σ H D I hw=>
 jf (h pins s σ H D (I.wish _) hw) (λ_ _ q=>q.unwish) λ_ _ z=>jS z
end
section
variable{X:Cx}{st:Stmt}{rest:List Stmt}{t u:TS}
def uX:TS:=λD σ H=>D.nx σ H
def UV(t u:TS):TS:=λD σ H=>t {D with nx:=u D} σ H
theorem EV:PSs X [] uX:=λ_ _ σ H _ I h=>xy ⟨σ,H,I,h⟩
theorem LO(h1:PS X st t)(h2:PSs X rest u):PSs X (st::rest) (UV t u):=by
 intro pins s σ H D I h;refine wpAny_execs_cons (thn (h1 pins s σ H {D with nx:=u D} I h) λf s1 q=>?_)
 cases f with
 |next=>
   obtain⟨X1,H',I',q⟩:=q;exact h2 pins s1 X1 H' D I' q
 |ret v=>exact q
 |brk=>exact q
 |cont=>exact q
theorem UQ(h1:PS X st t):PSs X [st] t:=by
 intro pins s σ H D I h;refine wpAny_execs_cons (thn (h1 pins s σ H D I h) λf s1 q=>?_)
 cases f with
 |next=>exact xy q
 |ret v=>exact q
 |brk=>exact q
 |cont=>exact q
theorem Inv.quiet(I:Inv X pins σ H s):interactive X.env=false:=by simp[interactive,I.ok.kind]
def vg(te:TE):TS:=λD σ H=>te σ H λ_ H1=>D.nx σ H1
theorem VX(he:PE X e te)(hs:Jh e none pos.line X.env=pure false):PS X (.Expr e pos) (vg te):=by intro pins s σ H D I h;exact wpAny_Expr_any (thn (he pins s σ H _ I h) λv s1 Gc=>Gc.elim λx H1 I1 r1 q1=>⟨σ,H1,I1,q1⟩) I.quiet hs
def Cf(te:TE):TS:=λD σ H=>te σ H D.rt
theorem BN(he:PE X e te):PS X (.Return (some e) pos) (Cf te):=by intro pins s σ H D I h;exact wpAny_Return_some (thn (he pins s σ H _ I h) λv s1 Gc=>Gc.elim λx H1 I1 r1 q1=>⟨x,σ,H1,I1,r1,q1⟩)
def dO(c:TT)(t u:TS):TS:=λD σ H=>c σ H λb H1=>if b=true then t D σ H1 else u D σ H1
theorem BW{tc:TT}(hc:PT X c tc)(ha:PSs X a t)(hb:PSs X b u):PS X (.If c a b pos) (dO tc t u):=by
 intro pins s σ H D I h;refine wpAny_If (thn (hc pins s σ H _ I h) λd s1 Gc=>Gc.elim λH1 I1 q1=>?_)
 cases d with
 |true=>exact ha pins s1 σ H1 D I1 q1
 |false=>exact hb pins s1 σ H1 D I1 q1
end
abbrev TG:=V->St->Hp->(St->Hp->Prop)->Prop
abbrev TGs:=List V->St->Hp->(St->Hp->Prop)->Prop
def PG(X:Cx)(target:Expr)(t:TG):Prop:=
 ∀(pins:PNS) (s:zm) (σ:St) (H:Hp) (v:V) (u:zd) (Q:St->Hp->Prop),Inv X pins σ H s->o5 v u->t v σ H Q->
  zp (zy X.prog X.w) X.A (Zn target X.env u) (λ_ s'=>∃ X1 H',Inv X pins X1 H' s'/\Q X1 H') X.xe s
def PGs(X:Cx)(ts:List Expr)(t:TGs):Prop:=
 ∀(pins:PNS) (s:zm) (σ:St) (H:Hp) (vs:List V) (us:List zd) (Q:St->Hp->Prop),Inv X pins σ H s->j7 vs us->t vs σ H Q->
  zp (zy X.prog X.w) X.A (assignInOrder ((yB ts X.env).map (·.2)) us) (λ_ s'=>∃ X1 H',Inv X pins X1 H' s'/\Q X1 H') X.xe s
abbrev TSet:=V->V->V->Hp->(Hp->Prop)->Prop
def kH(X:Cx)(t:TSet):Prop:=
 ∀(pins:PNS) (s:zm) (σ:St) (H:Hp) (o i v:V) (ov iv u:zd) (Q:Hp->Prop),Inv X pins σ H s->o5 o ov->o5 i iv->o5 v u->t o i v H Q->
  zp (zy X.prog X.w) X.A (setItem ov iv u) (λ_ s'=>∃H',Inv X pins σ H' s'/\Q H') X.xe s
section
def qZ(i:Nat):TG:=λv σ H Q=>Q (σ.set i (some v)) H
theorem Cq(hN:X.N.Nodup)(hi:X.N[i]? =some x)(hx:Loc X.env.scope x)(hf:X.fn x=true\/X.env.scope.names.lookup x=some .local):PG X (.Name x pos) (qZ i):=by intro pins s σ H v u Q I r h;exact wpAny_assign_Name (vW I hN hi hx r (λs' I'=>⟨_,H,I',h⟩) hf)
def lZ:TGs:=λvs σ H Q=>vs= []/\Q σ H
def wk(t:TG)(u:TGs):TGs:=λvs σ H Q=>∃v r,vs=v::r/\t v σ H λX1 H'=>u r X1 H' Q
theorem gW:PGs X [] lZ:=by
 intro pins s σ H vs us Q I r h;obtain⟨e,h⟩:=h;subst e
 cases r
 exact assignInOrder_nil ⟨σ,H,I,h⟩
theorem hX(h1:PG X e t)(h2:PGs X es u)
 (hs:(yB (e::es) X.env).map (·.2)=Zn e X.env::(yB es X.env).map (·.2)):PGs X (e::es) (wk t u):=by
 intro pins s σ H vs us Q I r h;obtain⟨v,vr,e1,h⟩:=h;subst e1
 cases r with
 |cons r rr=>
   rw[hs];refine assignInOrder_cons (thn (h1 pins s σ H _ _ _ I r h) λ_ s1 ⟨WV,H1,I1,q1⟩=>?_);exact h2 pins s1 WV H1 _ _ Q I1 rr q1
def fZ(K:ze)(n:Nat)(t:TGs):TG:=λv σ H Q=>∃a xs,v= .ref a/\SqT K H a xs/\xs.length=n/\t xs σ H Q
theorem LR(hc:X.calm=true)(h:PGs X es t)
 (hn:(yB es X.env).length=n) (hst:(yB es X.env).findIdx? (·.1)=none):PG X (.Tuple es k pos) (fZ X.K n t):=by
 intro pins s σ H v u Q I r hw;obtain⟨a,xs,e1,hq,hl,hw⟩:=hw;subst e1
 cases r
 obtain⟨Fj,rv,ht,hz⟩:=I.tuple hq;refine assign_Tuple_tuple (I.ok.hd hc) ht (by simp[hn,<-hl,rv.length]) hst λh' hx=>?_;have I1:Inv X pins σ H {s with heap:=h'}:=I.kept (t':=s.toks) λb o e=>hx b o (zE (zo e)) e;exact h pins _ σ H xs _ Q I1 (by simpa using rv) hw
def SR(to ti:TE)(t:TSet):TG:=λv σ H Q=>to σ H λo H1=>ti σ H1 λi H2=>t o i v H2 λH3=>Q σ H3
theorem BP(ho:PE X o to)(hi:PE X i ti)(hs:kH X t)
 (ha:∀v,Zn (.Subscript o i pos) X.env v= (do
   let ov <-ZN [v] (eval o X.env)
   let iv <-ZN [v,ov] (eval i X.env)
   Xl pos
   ZN [v,ov,iv] (setItem ov iv v)
   release [v,ov,iv] [])):PG X (.Subscript o i pos) (SR to ti t):=by
 intro pins s σ H v u Q I r h;rw[ha];refine za (ju (thn (ho pins s σ H _ I h) λov s1 ⟨x,H1,I1,r1,q1⟩=>?_));refine za (ju (thn (hi pins s1 σ H1 _ I1 q1) λiv s2 ⟨y,H2,I2,r2,q2⟩=>?_));refine za (xV (za (ju (thn (hs pins s2 σ H2 x y v ov iv u _ I2 r1 r2 r q2) λ_ s3 ⟨H3,I3,q3⟩=>?_))));exact wpAny_release ⟨σ,H3,I3,q3⟩
def OX(te:TE)(g:TG):TS:=λD σ H=>te σ H λx H1=>g x σ H1 D.nx
theorem cP{g:TG}(he:PE X e te)(hg:PG X tg g)(hs:swapsWithSole [tg] e pos.line X.env=pure false)(hw:swappedStores [tg] e X.env=pure none)
 (h1:(yB [tg] X.env).map (·.2)= [Zn tg X.env]):PS X (.Assign [tg] e pos) (OX te g):=by
 intro pins s σ H D I h;refine wpAny_Assign_stores (thn (he pins s σ H _ I h) λv s1 Gc=>Gc.elim λx H1 I1 r1 q1=>?_) hs hw;rw[h1];exact thn (hg pins s1 σ H1 x v _ I1 r1 q1) λ_ s2 q=>q
end
section
def QX(c:TT)(tb:TS):TS:=λD σ H=>∃W:Nat->St->Hp->Prop,(∃m,W m σ H)/\∀m σ H,W m σ H->
 c σ H λb H1=>if b=true then ∃N:St->Hp->Prop,(∀ X1 H',N X1 H'->∃m',m'<m/\W m' X1 H')/\tb {D with nx:=N,ct:=N,bk:=D.nx} σ H1 else D.nx σ H1
theorem UU{tc:TT}{tb:TS}(hp:Js (zy X.prog X.w) X.A X.env X.xe)(hc:PT X c tc)(hb:PSs X body tb):PS X (.While c body [] pos) (QX tc tb):=by
 intro pins s σ H D I h;obtain⟨W,⟨m0,w0⟩,turn⟩:=h;refine wpAny_While (codeAny_whileLoop (λn s'=>∃ X1 H',Inv X pins X1 H' s'/\W n X1 H') ?_ m0 ⟨σ,H,I,w0⟩);rintro n s1 ⟨WV,H1,I1,w1⟩;refine wpAny_passesOwn hp (thn (hc pins s1 WV H1 _ I1 (turn n WV H1 w1)) λb s2 Gc=>Gc.elim λH2 I2 q2=>?_)
 cases b with
 |true=>
   obtain⟨N,hN,q2⟩:=q2;rw[if_pos rfl];refine wpAny_passesOwn hp (thn (hb pins s2 WV H2 _ I2 q2) λf s3 q3=>?_)
   cases f with
   |next=>
     obtain⟨WJ,H3,I3,n3⟩:=q3;obtain⟨m',hm,w3⟩:=hN WJ H3 n3;exact⟨m',hm,WJ,H3,I3,w3⟩
   |cont=>
     obtain⟨WJ,H3,I3,n3⟩:=q3;obtain⟨m',hm,w3⟩:=hN WJ H3 n3;exact⟨m',hm,WJ,H3,I3,w3⟩
   |brk=>exact q3
   |ret v=>exact q3
 |false=>
   rw[if_neg zv];exact xy ⟨WV,H2,I2,q2⟩
end
structure It where
 go:Nat->Hp->Prop
 yld:Nat->Hp->V->Hp->Prop
 stop:Nat->Hp->Prop
def W0(X:Cx)(pins:PNS)(H:Hp)(b:Addr):Prop:=
 H b=none/\b≠X.env.locals/\b∉X.fs/\(b∈X.ex\/X.WX.heap.objs.size<=b)/\(∀x c,X.env.cells.lookup x=some c->c≠b)/\∀p∈X.pn++pins,p.1≠b
theorem Inv.fpOk(I:Inv X pins σ H s)(hb:s.heap.objs.size<=b)(hn:H' b=none):W0 X pins H' b:=by
 refine⟨hn,xt (zQ I.lt hb),I.nofs hb,.inr (zP I.sz hb),λx c e z=>?_,λp hp z=>?_⟩
 ·obtain⟨v,q⟩:=I.cell x c e;exact absurd (zQ q.lt (by rw[z];exact hb)) (jQ _)
 ·exact absurd (zQ (zo (I.pin p hp).1) (by rw[z];exact hb)) (jQ _)
inductive TIt(X:Cx)(pins:PNS)(σ:St)(J:It)(fp:List Addr)(tn:Nat->Heap->Prop)(i:Nat)(H:Hp)(u:zd)(s2:zm):Prop
 |mk (x:V) (H':Hp) (I:Inv X pins σ H' s2) (r:o5 x u) (y:J.yld i H x H') (st:tn (i+1) s2.heap) (fr:∀b∈fp,H' b=none)
structure c5(P:zI)(w:zR)(K:ze)(tg:Expr)(J:It)(fp:List Addr)(it:Addr)(tn:Nat->Heap->Prop):Prop where
 mem:it∈fp
 obj:∀i h,tn i h->∀b∈fp,∃o,h.get? b=some o/\∀v,o.data≠ .cell v
 keep:∀i h h',tn i h->(∀b∈fp,∀o,h.get? b=some o->h'.get? b=some o)->tn i h'
 item:∀(X:Cx),X.prog=P->X.w=w->X.K=K->X.calm=true->∀(i:Nat) (pins:PNS) (s:zm) (σ:St) (H:Hp) (E:VSP),Inv X pins σ H s->(∀b∈fp,W0 X pins H b)->tn i s.heap->J.go i H->
  zp (zy P w) X.A (Zm (.ref it)) (λr s1=>∃u,r=some u/\
   zp (zy P w) X.A (yR tg (.ref it) u) (λ_ s2=>TIt X pins σ J fp tn i H u s2) E s1) E s
 done:∀(X:Cx),X.prog=P->X.w=w->X.K=K->X.calm=true->∀(i:Nat) (pins:PNS) (s:zm) (σ:St) (H:Hp) (E:VSP),Inv X pins σ H s->(∀b∈fp,W0 X pins H b)->tn i s.heap->J.stop i H->
  zp (zy P w) X.A (Zm (.ref it)) (λr s1=>r=none/\Inv X pins σ H s1) E s
 self:∀(A:jb) (i:Nat) (s:zm) (Q:VSP) (E:VSP),tn i s.heap->Q (.ref it) s->zp (zy P w) A (pyIter (.ref it)) Q E s
abbrev TI:=St->Hp->(It->Hp->Prop)->Prop
inductive PIE(X:Cx)(pins:PNS)(σ:St)(tg:Expr)(R:It->Hp->Prop)(itv:zd)(s2:zm):Prop
 |mk (it:Addr) (fp:List Addr) (tn:Nat->Heap->Prop) (J:It) (H':Hp) (e:itv= .ref it) (I:Inv X pins σ H' s2) (T:c5 X.prog X.w X.K tg J fp it tn) (st:tn 0 s2.heap) (f:∀b∈fp,W0 X pins H' b) (r:R J H')
def PI(X:Cx)(tg iter:Expr)(wi:TI):Prop:=
 ∀(pins:PNS) (s:zm) (σ:St) (H:Hp) (R:It->Hp->Prop),Inv X pins σ H s->wi σ H R->
  zp (zy X.prog X.w) X.A (eval iter X.env) (λv s1=>zp (zy X.prog X.w) X.A (pyIter v) (PIE X pins σ tg R) X.xe s1) X.xe s
theorem MA(ho:s.heap.get? it=some o)(hc:o.cls= .type n)(hd:o.data= .fields vs)
 (hn: ["enumerate", "zip", "dict_itemiterator", "dict_reverseitemiterator", "odict_iterator", "itertools.zip_longest", "itertools.pairwise"].contains n=false) (hQ:Q () s):zp M A (yR tg (.ref it) u) Q E s:=by
 unfold yR
 cases tg<;>first
  |exact zl hQ
  | (cases u <;> first
      |exact zl hQ
      | (refine za (wpAny_load ho ?_)
         rw[hc,hd];show zp M A (if (["enumerate", "zip", "dict_itemiterator", "dict_reverseitemiterator", "odict_iterator", "itertools.zip_longest", "itertools.pairwise"].contains n&&vs[0]? == some (Yq _))=true then _ else _) Q E s;rw[if_neg (by intro h;rw[hn,Bool.false_and]at h;cases h)];exact zl hQ))
def Itl(K:ze)(a:Addr):It:=
 ⟨λi H=>∃xs x,SqL K H a xs/\xs[i]? =some x,λi H x H'=>H'=H/\∀xs,SqL K H a xs->xs[i]? =some x,λi H=>∃xs,SqL K H a xs/\xs.length<=i⟩
def Itt(K:ze)(a:Addr):It:=
 ⟨λi H=>∃xs x,SqT K H a xs/\xs[i]? =some x,λi H x H'=>H'=H/\∀xs,SqT K H a xs->xs[i]? =some x,λi H=>∃xs,SqT K H a xs/\xs.length<=i⟩
def Itr(lo:Int)(n:Nat):It:=⟨λi _=>i<n,λi H x H'=>H'=H/\x= .int (lo+i),λi _=>n<=i⟩
theorem bR{w:zR}{K:ze}{tg:Expr}(a it:Addr):c5 P w K tg (Itl K a) [it] it (λi h=>h.IsListIter it a i) where
 mem:=by simp
 obj:=λi h st b hb=>by
  have e:b=it:=by simpa using hb
  subst e;obtain⟨o,e,c,d⟩:=st;exact⟨o,e,λv z=>by rw[d]at z;cases z⟩
 keep:=λi h h' st k=>st.at λo e=>k it (by simp) o e
 item:=by intro X hP hw hK hc i pins s σ H E I hf st hg;subst hP hw hK;obtain⟨xs,x,hq,hx⟩:=hg;obtain⟨Fj,rv,p,hz⟩:=I.list hq;obtain⟨u,hu,ru⟩:=rv.get hx;obtain⟨f0,f1,f2,f3,f4,f5⟩:=hf it (by simp);refine wpAny_pyNext_list_item st p.isList (x:=u) (by simpa using hu) λh' Fx sb=>?_;have I1:Inv X pins σ H {s with heap:=h'}:=I.turned (t':=s.toks) (λb o hb e=>(sb.2 b hb).trans e) f0 f1 f3 f4 f5;obtain⟨o,e,c,d⟩:=id Fx;exact⟨u,rfl,MA (s:={s with heap:=h'}) e c d (by decide) ⟨x,H,I1,ru,⟨rfl,λys hy=>by rw[I.list_inj hy hq];exact hx⟩,Fx,λb hb=>(hf b hb).1⟩⟩
 done:=by intro X hP hw hK hc i pins s σ H E I hf st hg;subst hP hw hK;obtain⟨xs,hq,hx⟩:=hg;obtain⟨Fj,rv,p,hz⟩:=I.list hq;obtain⟨f0,f1,f2,f3,f4,f5⟩:=hf it (by simp);have hl:=rv.length;exact wpAny_pyNext_list_end (I.ok.hd hc) st p.isList (by simp;lia) λh' eb=>⟨rfl,I.turned (t':=s.toks) (λb o hb e=>eb b o hb e) f0 f1 f3 f4 f5⟩
 self:=λ_ _ _ _ _ st h=>wpAny_pyIter_listiter st h
theorem qp{w:zR}{K:ze}{tg:Expr}(a it:Addr):c5 P w K tg (Itt K a) [it] it (λi h=>h.IsTupleIter it a i) where
 mem:=by simp
 obj:=λi h st b hb=>by
  have e:b=it:=by simpa using hb
  subst e;obtain⟨o,e,c,d⟩:=st;exact⟨o,e,λv z=>by rw[d]at z;cases z⟩
 keep:=λi h h' st k=>st.at λo e=>k it (by simp) o e
 item:=by intro X hP hw hK hc i pins s σ H E I hf st hg;subst hP hw hK;obtain⟨xs,x,hq,hx⟩:=hg;obtain⟨Fj,rv,p,hz⟩:=I.tuple hq;obtain⟨u,hu,ru⟩:=rv.get hx;obtain⟨f0,f1,f2,f3,f4,f5⟩:=hf it (by simp);refine wpAny_pyNext_tuple_item st (show s.heap.IsTuple a Fj.toArray from p) (x:=u) (by simpa using hu) λh' Fx sb=>?_;have I1:Inv X pins σ H {s with heap:=h'}:=I.turned (t':=s.toks) (λb o hb e=>(sb.2 b hb).trans e) f0 f1 f3 f4 f5;obtain⟨o,e,c,d⟩:=id Fx;exact⟨u,rfl,MA (s:={s with heap:=h'}) e c d (by decide) ⟨x,H,I1,ru,⟨rfl,λys hy=>by rw[I.tuple_inj hy hq];exact hx⟩,Fx,λb hb=>(hf b hb).1⟩⟩
 done:=by intro X hP hw hK hc i pins s σ H E I hf st hg;subst hP hw hK;obtain⟨xs,hq,hx⟩:=hg;obtain⟨Fj,rv,p,hz⟩:=I.tuple hq;obtain⟨f0,f1,f2,f3,f4,f5⟩:=hf it (by simp);have hl:=rv.length;exact wpAny_pyNext_tuple_end (I.ok.hd hc) st (show s.heap.IsTuple a Fj.toArray from p) (by simp;lia) λh' eb=>⟨rfl,I.turned (t':=s.toks) (λb o hb e=>eb b o hb e) f0 f1 f3 f4 f5⟩
 self:=λ_ _ _ _ _ st h=>wpAny_pyIter_tupleiter st h
theorem nS{w:zR}{K:ze}{tg:Expr}(it:Addr)(lo:Int)(n:Nat):c5 P w K tg (Itr lo n) [it] it (λi h=>IsRangeIter h it (lo+(i:Nat)*1) ((n:Int)-(i:Nat)) 1) where
 mem:=by simp
 obj:=λi h st b hb=>by
  have e:b=it:=by simpa using hb
  subst e;exact⟨_,st,λv z=>by
   have z':Data.fields _=Data.cell v:=z
   cases z'⟩
 keep:=λi h h' st k=>k it (by simp) _ st
 item:=by intro X hP hw hK hc i pins s σ H E I hf st hg;subst hP hw hK;obtain⟨f0,f1,f2,f3,f4,f5⟩:=hf it (by simp);have W:=Walks.range (prog:=X.prog) (w:=X.w) (I.ok.hd hc) it lo 1 n;refine W.item i s _ _ hg st λv h' tk hv Fx kk=>?_;obtain⟨t,rfl⟩:=hv;have I1:Inv X pins σ H {s with heap:=h',toks:=tk}:=I.turned (λb o hb e=>kk b o (by simpa using hb) e) f0 f1 f3 f4 f5;refine⟨_,rfl,MA (s:={s with heap:=h',toks:=tk}) (n:= "range_iterator") Fx rfl rfl (by decide) ⟨.int (lo+i),H,I1,⟨t,?_⟩,⟨rfl,rfl⟩,Fx,λb hb=>(hf b hb).1⟩⟩;rw[Int.mul_one]
 done:=by intro X hP hw hK hc i pins s σ H E I hf st hg;subst hP hw hK;obtain⟨f0,f1,f2,f3,f4,f5⟩:=hf it (by simp);exact wpAny_pyNext_range_end (I.ok.hd hc) st (by have:n<=i:=hg;lia) λh' eb=>⟨rfl,I.turned (t':=s.toks) (λb o hb e=>eb b o hb e) f0 f1 f3 f4 f5⟩
 self:=λ_ _ _ _ _ st h=>wpAny_pyIter_rangeiter st h
section
theorem eT{σ:St}{H:Hp}{s:zm}{R:It->Hp->Prop}{lo hi:Int}{t u v:Tok}{tk:Nat}(I:Inv X pins σ H s)(h1: -(2 ^ 62)<=lo)(h2:lo<2 ^ 62)(h3: -(2 ^ 62)<=hi)(h4:hi<2 ^ 62)
 (q:R (Itr lo (hi-lo).toNat) H):zp (zy X.prog X.w) X.A (pyIter (.ref s.heap.objs.size)) (PIE X pins σ tg R) E {s with heap:=s.heap.push {cls:=.type "range",data:=.fields #[.int lo t,.int hi u,.int 1 v]},toks:=tk}:=by
 refine wpAny_pyIter_range (IsRange.new ..) (small_one h1 h2 h3 h4) ?_;have I1:Inv X pins σ H {s with heap:=s.heap.push {cls:=.type "range",data:=.fields #[.int lo t,.int hi u,.int 1 v]},toks:=tk}:=I.kept λb o e=>zc _ e;refine⟨(s.heap.push {cls:=.type "range",data:=.fields #[.int lo t,.int hi u,.int 1 v]}).objs.size, [(s.heap.push {cls:=.type "range",data:=.fields #[.int lo t,.int hi u,.int 1 v]}).objs.size],_,_,H,rfl,
  I1.kept (t':=tk) λb o e=>zc _ e,nS _ lo (hi-lo).toNat,?_,λb hb=>?_,q⟩
 · have e1:lo+((0:Nat):Int)*1=lo:=by simp
   have e2:(((hi-lo).toNat:Nat):Int)-((0:Nat):Int)=Builtin.Range.rangeSize lo hi 1:=by rw[rangeSize_one];split<;>lia
   show IsRangeIter _ _ (lo+((0:Nat):Int)*1) ((((hi-lo).toNat:Nat):Int)-((0:Nat):Int)) 1;rw[e1,e2];exact zu _ rfl
 · have e:b= (s.heap.push {cls:=.type "range",data:=.fields #[.int lo t,.int hi u,.int 1 v]}).objs.size:=by simpa using hb
   subst e;exact I1.fpOk (zh _) (I1.hok.fresh (zh _))
def FT(ta:TA):TI:=λσ H R=>ta σ H λvs H1=>∃j:Int,vs= [.int j]/\ -(2 ^ 62)<=j/\j<2 ^ 62/\R (Itr 0 j.toNat) H1
theorem Dz{ta:TA}(hg:Gl X "range")(hm:X.mg "range" =none)(ha:PA X [a] ta)(hs:zF [a] X.env= [(false,eval a X.env)]):PI X tg (.Call (.Name "range" p) [a] [] pos) (FT ta):=by
 intro pins s σ H R I h;refine Call_ (P8 I hg hm boot_range (xc (thn (ha pos pins s σ H _ I h) λus s1 Gc=>Gc.elim λvs H1 I1 r1 q1=>?_) hs rfl));obtain⟨j,e,q1,q2,q⟩:=q1;subst e
 cases r1 with
 |cons r rr=>
   cases rr
   obtain⟨t,rfl⟩:=r;exact call_range_1 (eT I1 (by lia) (by lia) q1 q2 (by simpa using q))
def qX(wi:TI)(g:TG)(tb:TS):TS:=λD σ H=>wi σ H λJ H1=>∃W:Nat->Nat->St->Hp->Prop,(∃m,W 0 m σ H1)/\∀i m σ H,W i m σ H->
 (J.stop i H/\D.nx σ H)\/(J.go i H/\∃N:St->Hp->Prop,(∀ X1 H',N X1 H'->∃m',m'<m/\W (i+1) m' X1 H')/\∀x H',J.yld i H x H'->g x σ H' λσ2 H2=>tb {D with nx:=N,ct:=N,bk:=D.nx} σ2 H2)
def uB(fp:List Addr)(h:Heap):PNS:=fp.filterMap λb=>(h.get? b).map λo=>(b,o)
theorem R8(hb:b∈fp)(e:h.get? b=some o):(b,o)∈uB fp h:=Jy.mpr ⟨b,hb,by rw[e];rfl⟩
theorem wR(hp:p∈uB fp h):p.1∈fp/\h.get? p.1=some p.2:=by
 obtain⟨b,hb,e⟩:=Jy.mp hp
 cases q:h.get? b with
 |none=>rw[q]at e;cases e
 |some o=>
   rw[q]at e;have e':(b,o)=p:=je e;subst e';exact⟨hb,q⟩
theorem Inv.pinned(I:Inv X pins σ H s)(hf:∀b∈fp,W0 X pins H b)(ho:∀b∈fp,∃o,s.heap.get? b=some o/\∀v,o.data≠ .cell v):Inv X (pins++uB fp s.heap) σ H s:=
 I.pins_of λp hp=>(zU.mp hp).elim (λz=>I.pin p (zC _ z)) λz=>by obtain⟨hb,e⟩:=wR z;obtain⟨f0,f1,f2,_⟩:=hf p.1 hb;obtain⟨o,e',d⟩:=ho p.1 hb;rw[e]at e';cases e';exact⟨e,f0,f1,f2,d⟩
theorem Inv.unpinned(I:Inv X (pins++pl) σ H s):Inv X pins σ H s:=I.pins_of λp hp=>I.pin p (zC _ (yc _ hp))
inductive GE(X:Cx)(pins:PNS)(fp:List Addr)(tn:Nat->Heap->Prop)(W:Nat->Nat->St->Hp->Prop)(n:Nat)(s':zm):Prop
 |mk (i:Nat) (X1:St) (H':Hp) (I:Inv X pins X1 H' s') (st:tn i s'.heap) (fr:∀b∈fp,H' b=none) (w:W i n X1 H')
theorem RV{body:List Stmt}{g:TG}{tb:TS}{pins:PNS}{D:m7}{it:Addr}{fp:List Addr}{tn:Nat->Heap->Prop}{J:It}(hp:∀e s,X.xe e s->EE e s)(hc:X.calm=true)(hg:PG X tg g)(hb:PSs X body tb)
 (T:c5 X.prog X.w X.K tg J fp it tn) (stat:∀ {H':Hp},(∀b∈fp,H' b=none)->∀b∈fp,W0 X pins H' b)
 (turn:∀i m σ H,W i m σ H->
 (J.stop i H/\D.nx σ H)\/(J.go i H/\∃N:St->Hp->Prop,(∀ X1 H',N X1 H'->∃m',m'<m/\W (i+1) m' X1 H')/\∀x H',J.yld i H x H'->g x σ H' λσ2 H2=>tb {D with nx:=N,ct:=N,bk:=D.nx} σ2 H2))
   {n:Nat} {s3:zm} (h3:GE X pins fp tn W n s3) {NX:zm->Prop} (nx:∀m s,m<n->GE X pins fp tn W m s->NX s):
   zp (zy X.prog X.w) X.A (Zm (.ref it)) (λr s1=>match r with
    |none=>zp (zy X.prog X.w) X.A (execs [] X.env) (λf s2=>SP X pins D f s2) EE s1
    | some v => zp (zy X.prog X.w) X.A (yR tg (.ref it) v) (λ_ s2 => zp (zy X.prog X.w) X.A (Zn tg X.env v) (λ_ s4 => zp (zy X.prog X.w) X.A (execs body X.env) (λf s5 => match f with
       | .next| .cont=>NX s5
       | .brk=>SP X pins D .next s5
       | .ret v=>SP X pins D (.ret v) s5) EE s4) EE s2) EE s1) EE s3:=by
 obtain⟨i,WJ,H3,I3,st3,fr3,w3⟩:=h3;rcases turn i n WJ H3 w3 with⟨stop,qn⟩|⟨go,N,hN,step⟩
 ·refine jf (T.done X rfl rfl rfl hc i pins s3 WJ H3 X.xe I3 (stat fr3) st3 stop) (λr s4 z1=>?_) hp;obtain⟨hr,I4⟩:=z1;subst hr;exact xy ⟨WJ,H3,I4,qn⟩
 · refine jf (T.item X rfl rfl rfl hc i pins s3 WJ H3 X.xe I3 (stat fr3) st3 go) (λr s4 z2=>?_) hp;obtain⟨u,hr,h4⟩:=z2;subst hr;refine jf h4 (λ_ s5 z3=>?_) hp;obtain⟨x,H5,I5,r5,y5,st5,fr5⟩:=z3;have I5':=I5.pinned (stat fr5) (T.obj _ _ st5);refine jf (hg _ s5 WJ H5 x u _ I5' r5 (step x H5 y5)) (λ_ s6 z4=>?_) hp;obtain⟨WQ,H6,I6,q6⟩:=z4;refine jf (hb _ s6 WQ H6 _ I6 q6) (λf s7 q7=>?_) hp;have again:∀ {WP:St} {H7:Hp},Inv X (pins++uB fp s5.heap) WP H7 s7->N WP H7->NX s7:=λ{WP H7} I7 n7=>by
    obtain⟨m',hm,w7⟩:=hN WP H7 n7;refine nx m' _ hm ⟨i+1,WP,H7,I7.unpinned,T.keep _ _ _ st5 λb hb o e=>(I7.pin (b,o) (zC _ (zC _ (R8 hb e)))).1,λb hb=>?_,w7⟩;obtain⟨o,e,d⟩:=T.obj _ _ st5 b hb;exact(I7.pin (b,o) (zC _ (zC _ (R8 hb e)))).2.1
   cases f with
   |next=>obtain⟨WP,H7,I7,n7⟩:=q7;exact again I7 n7
   |cont=>obtain⟨WP,H7,I7,n7⟩:=q7;exact again I7 n7
   |brk=>obtain⟨WP,H7,I7,q7⟩:=q7;exact⟨WP,H7,I7.unpinned,q7⟩
   |ret v=>obtain⟨x7,WP,H7,I7,r7,q7⟩:=q7;exact⟨x7,WP,H7,I7.unpinned,r7,q7⟩
theorem nU(hp:Js (zy X.prog X.w) X.A X.env X.xe)(hc:X.calm=true)(hi:PI X tg iter wi)(hg:PG X tg g)(hb:PSs X body tb)
 (hs:∀x,yg iter X.env x=pure x):PS X (.For tg iter body [] pos) (qX wi g tb):=by
 intro pins s σ H D I h;refine wpAny_For (thn (hi pins s σ H _ I h) λv s1 h1=>thn h1 λitv s2 h2=>?_) hs;obtain⟨it,fp,tn,J,H2,e,I2,T,st2,f2,W,⟨m0,w0⟩,turn⟩:=h2;subst e
 -- what stays true of the iterator's objects through the loop
 have stat:∀ {H':Hp},(∀b∈fp,H' b=none)->∀b∈fp,W0 X pins H' b:=λhn b hb=>⟨hn b hb,(f2 b hb).2⟩;exact codeAny_forLoop_any (GE X pins fp tn W) (λn s3 h3=>RV hp hc hg hb T stat turn h3 λm s h1 h2=>⟨m,h1,h2⟩) m0 ⟨0,σ,H2,I2,st2,λb hb=>(f2 b hb).1,w0⟩
end
abbrev R2:=V->V->Hp->VK->Prop
def OpR(X:Cx)(f:zd->zd->Sem zd)(r:R2):Prop:=
 ∀(pins:PNS) (s:zm) (σ:St) (H:Hp) (x y:V) (v u:zd) (Q:VK),Inv X pins σ H s->o5 x v->o5 y u->r x y H Q->
  zp (zy X.prog X.w) X.A (f v u) (EP X pins σ Q) X.xe s
def UnR(X:Cx)(f:zd->Sem zd)(r:V->Hp->VK->Prop):Prop:=
 ∀(pins:PNS) (s:zm) (σ:St) (H:Hp) (x:V) (v:zd) (Q:VK),Inv X pins σ H s->o5 x v->r x H Q->
  zp (zy X.prog X.w) X.A (f v) (EP X pins σ Q) X.xe s
def N7(X:Cx)(f:zd)(r:List V->Hp->VK->Prop):Prop:=
 ∀(pins:PNS) (s:zm) (σ:St) (H:Hp) (xs:List V) (us:List zd) (Q:VK),Inv X pins σ H s->j7 xs us->r xs H Q->
  zp (zy X.prog X.w) X.A (call f us) (EP X pins σ Q) X.xe s
def eS(X:Cx)(r:V->Hp->(Bool->Hp->Prop)->Prop):Prop:=
 ∀(pins:PNS) (s:zm) (σ:St) (H:Hp) (x:V) (v:zd) (Q:Bool->Hp->Prop),Inv X pins σ H s->o5 x v->r x H Q->
  zp (zy X.prog X.w) X.A (truthy v) (TP X pins σ Q) X.xe s
def tOp(r:R2)(ta tb:TE):TE:=λσ H Q=>ta σ H λx H1=>tb σ H1 λy H2=>r x y H2 Q
def tUn(r:V->Hp->VK->Prop)(ta:TE):TE:=λσ H Q=>ta σ H λx H1=>r x H1 Q
def rI(C:Int->Int->Prop)(g:Int->Int->V):R2:=λx y H Q=>∃i j,x= .int i/\y= .int j/\C i j/\Q (g i j) H
def g6(g:Int->Int->V):R2:=λx y H Q=>∃i j,x= .int i/\y= .int j/\Q (g i j) H
def rU(g:Int->V):V->Hp->VK->Prop:=λx H Q=>∃i,x= .int i/\Q (g i) H
section
theorem wH(ha:PE X a ta)(hb:PE X b tb){pins:PNS}{s:zm}{σ:St}{H:Hp}{R:V->V->Hp->Prop}(I:Inv X pins σ H s)
 (h:ta σ H λx H1=>tb σ H1 λy H2=>R x y H2) {f:zd->zd->Sem zd}
 (hf:∀v u s2 x y H2,Inv X pins σ H2 s2->o5 x v->o5 y u->R x y H2->zp (zy X.prog X.w) X.A (f v u) Q X.xe s2):
 zp (zy X.prog X.w) X.A (eval a X.env) (λv W1=>zp (zy X.prog X.w) X.A (eval b X.env) (λu s₂=>zp (zy X.prog X.w) X.A (f v u) Q X.xe s₂) X.xe W1) X.xe s:=by
 refine thn (ha pins s σ H _ I h) λv s1 Gc=>Gc.elim λx H1 I1 r1 q1=>?_;refine thn (hb pins s1 σ H1 _ I1 q1) λu s2 Gc=>Gc.elim λy H2 I2 r2 q2=>?_;exact hf v u s2 x y H2 I2 r1 r2 q2
theorem UG(ho:OpR X (jF op) r)(ha:PE X a ta)(hb:PE X b tb):PE X (.BinOp a op b pos) (tOp r ta tb):=by intro pins s σ H Q I h;exact wpAny_BinOp (wH ha hb I h λv u s2 x y H2 I2 rx ry q=>ho pins s2 σ H2 x y v u Q I2 rx ry q)
theorem vm(ho:UnR X (unaryOp op) r)(ha:PE X a ta):PE X (.UnaryOp op a pos) (tUn r ta):=by intro pins s σ H Q I h;exact UnaryOp_ (thn (ha pins s σ H _ I h) λv s1 Gc=>Gc.elim λx H1 I1 r1 q1=>ho pins s1 σ H1 x v Q I1 r1 q1)
theorem opI{C:Int->Int->Prop}{g:Int->Int->Int}
 (rule:∀(i j:Int) (t u:Tok) (s:zm) Q (E:VSP),C i j->Q (.int (g i j) s.toks) {s with toks:=s.toks+1}->zp (zy X.prog X.w) X.A (f (.int i t) (.int j u)) Q E s):
 OpR X f (rI C λi j=>.int (g i j)):=by
 intro pins s σ H x y v u Q I rx ry h;obtain⟨i,j,rfl,rfl,hc,q⟩:=h;obtain⟨t,rfl⟩:=rx;obtain⟨t',rfl⟩:=ry;exact rule i j t t' s _ _ hc ⟨.int (g i j),H,I.tok _,⟨_,rfl⟩,q⟩
theorem iM{g:Int->Int->Int}
 (rule:∀(i j:Int) (t u:Tok) (s:zm) Q (E:VSP),Q (.int (g i j) s.toks) {s with toks:=s.toks+1}->zp (zy X.prog X.w) X.A (f (.int i t) (.int j u)) Q E s):
 OpR X f (g6 λi j=>.int (g i j)):=by
 intro pins s σ H x y v u Q I rx ry h;obtain⟨i,j,rfl,rfl,q⟩:=h;obtain⟨t,rfl⟩:=rx;obtain⟨t',rfl⟩:=ry;exact rule i j t t' s _ _ ⟨.int (g i j),H,I.tok _,⟨_,rfl⟩,q⟩
theorem nH{g:Int->Int->Bool}
 (rule:∀(i j:Int) (t u:Tok) (s:zm) Q (E:VSP),Q (.bool (g i j)) s->zp (zy X.prog X.w) X.A (f (.int i t) (.int j u)) Q E s):
 OpR X f (g6 λi j=>.bl (g i j)):=by
 intro pins s σ H x y v u Q I rx ry h;obtain⟨i,j,rfl,rfl,q⟩:=h;obtain⟨t,rfl⟩:=rx;obtain⟨t',rfl⟩:=ry;exact rule i j t t' s _ _ ⟨.bl (g i j),H,I,rfl,q⟩
def y4(i j:Int):Prop:=0<=j/\j<=1000000/\i.natAbs<2 ^ 64
def j5(i j:Int):Prop:=(-(2 ^ 64)<i/\i<2 ^ 64)\/(-(2 ^ 64)<j/\j<2 ^ 64)
theorem j5.ok(h:j5 i j):IntMulOk i j:=by
 rcases h with⟨h1,h2⟩|⟨h1,h2⟩
 ·exact .of_left (intBits_le_64 h1 h2)
 ·exact .of_right (intBits_le_64 h1 h2)
theorem vw:OpR X (jF .Add) (g6 λi j=>.int (i+j)):=iM λ_ _ _ _ _ _ _ q=>add_int q
theorem NM:OpR X (jF .Sub) (g6 λi j=>.int (i-j)):=iM λ_ _ _ _ _ _ _ q=>sub_int q
theorem sY:OpR X (jF .Mult) (rI j5 λi j=>.int (i*j)):=opI λ_ _ _ _ _ _ _ hc q=>mul_int q hc.ok
theorem gU:OpR X (jF .Mod) (rI (λ_ j=>0<j) λi j=>.int (i % j)):=opI λi j _ _ _ _ _ hc q=>by have h1:(0:Int)<j:=hc;exact mod_int' (by lia) (by rw[Int.fmod_eq_emod_of_nonneg i (by lia)];exact q)
theorem GK:OpR X (jF .Pow) (rI y4 λi j=>.int (i ^ j.toNat)):=opI λ_ _ _ _ _ _ _ hc q=>pow_int_small hc.1 hc.2.1 hc.2.2 q
theorem unI{f:zd->Sem zd}{g:Int->Int}
 (rule:∀(i:Int) (t:Tok) (s:zm) Q E,Q (.int (g i) s.toks) {s with toks:=s.toks+1}->zp (zy X.prog X.w) X.A (f (.int i t)) Q E s):
 UnR X f (rU λi=>.int (g i)):=by
 intro pins s σ H x v Q I rx h;obtain⟨i,rfl,q⟩:=h;obtain⟨t,rfl⟩:=rx;exact rule i t s _ _ ⟨.int (g i),H,I.tok _,⟨_,rfl⟩,q⟩
theorem MY:UnR X (unaryOp .USub) (rU λi=>.int (-i)):=unI λ_ _ _ _ _ q=>neg_int q
end
section
theorem uH(I:Inv X pins σ H s)(q:Q (.bl k) H)(e:k=k'):EP X pins σ Q (.bool k') s:=by subst e;exact⟨.bl k,H,I,rfl,q⟩
theorem lO:OpR X (zH .LtE) (g6 λi j=>.bl (decide (i<=j))):=nH λ_ _ _ _ _ _ _ q=>le_int q
theorem vp:OpR X (zH .Gt) (g6 λi j=>.bl (decide (j<i))):=nH λ_ _ _ _ _ _ _ q=>gt_int q
theorem pZ:OpR X (zH .GtE) (g6 λi j=>.bl (decide (j<=i))):=nH λ_ _ _ _ _ _ _ q=>ge_int q
theorem DN:OpR X (zH .In) (λx y H Q=>∃i j,x= .str i/\y= .str j/\Q (.bl (!(xr j i 0 j.length 1).isEmpty)) H):=by intro pins s σ H x y v u Q I rx ry h;obtain⟨i,j,rfl,rfl,q⟩:=h;obtain⟨t,rfl⟩:=rx;obtain⟨t',rfl⟩:=ry;exact in_str (uH I q rfl)
theorem fU:OpR X (zH .Is) (λx y H Q=>y= .non/\Q (.bl (decide (x= .non))) H):=by
 intro pins s σ H x y v u Q I rx ry h;obtain⟨rfl,q⟩:=h
 cases ry
 refine is_none_gen (uH I q ?_)
 cases x<;>first
  |(cases rx;rfl)
  |(obtain⟨t,rfl⟩:=rx;rfl)
theorem eX:OpR X (zH .IsNot) (λx y H Q=>y= .non/\Q (.bl (!decide (x= .non))) H):=by
 intro pins s σ H x y v u Q I rx ry h;obtain⟨rfl,q⟩:=h
 cases ry
 refine isnot_none_gen (uH I q ?_)
 cases x<;>first
  |(cases rx;rfl)
  |(obtain⟨t,rfl⟩:=rx;rfl)
theorem OpR.or(h:OpR X f r)(h':OpR X f r'):OpR X f (λx y H Q=>r x y H Q\/r' x y H Q):=by
 intro pins s σ H x y v u Q I rx ry q;rcases q with q|q
 ·exact h pins s σ H x y v u Q I rx ry q
 ·exact h' pins s σ H x y v u Q I rx ry q
theorem MO(ho:OpR X (zH op) r)(ha:PE X a ta)(hb:PE X b tb)(hm:Yi op b=false):PE X (.Compare a [op] [b] pos) (tOp r ta tb):=by intro pins s σ H Q I h;exact wpAny_Compare1 (wH ha hb I h λv u s2 x y H2 I2 rx ry q=>ho pins s2 σ H2 x y v u Q I2 rx ry q) hm
def RI(t:TE):TT:=λσ H Q=>t σ H λx H'=>∃k,x= .bl k/\Q k H'
theorem AS(ho:OpR X (zH op) r)(ha:PE X a ta)(hb:PE X b tb)(hm:Yi op b=false):PT X (.Compare a [op] [b] pos) (RI (tOp r ta tb)):=by
 intro pins s σ H Q I h;refine wpAny_isTrue_Compare1 (thn (ha pins s σ H _ I h) λv s1 Gc=>Gc.elim λx H1 I1 r1 q1=>thn (hb pins s1 σ H1 _ I1 q1) λu s2 Gc=>Gc.elim λy H2 I2 r2 q2=>
  thn (ho pins s2 σ H2 x y v u _ I2 r1 r2 q2) λc s3 ⟨z,H3,I3,r3,k,e,q3⟩=>?_) hm
 subst e
 cases r3
 exact yG ⟨H3,I3,q3⟩
def EI(r r':R2)(ta tb tc:TE):TE:=λσ H Q=>ta σ H λx H1=>tb σ H1 λy H2=>r x y H2 λz H3=>∃k,z= .bl k/\
 (if k=true then tc σ H3 λw' H4=>r' y w' H4 Q else Q (.bl false) H3)
theorem RQ(ho:OpR X (zH op) r)(ho':OpR X (zH op') r')(ha:PE X a ta)(hb:PE X b tb)(hc:PE X c tc)
 (hm:lastMarks [op,op'] [b,c]=false):PT X (.Compare a [op,op'] [b,c] pos) (RI (EI r r' ta tb tc)):=by
 intro pins s σ H Q I h;refine isTrue_chain (thn (ha pins s σ H _ I h) λv s1 Gc=>Gc.elim λx H1 I1 r1 q1=>test_link (thn (hb pins s1 σ H1 _ I1 q1) λu s2 Gc=>Gc.elim λy H2 I2 r2 q2=>
  thn (ho pins s2 σ H2 x y v u _ I2 r1 r2 q2) λd s3 ⟨z,H3,I3,r3,k,e,q3⟩=>?_)) hm
 subst e
 cases r3
 refine yG ?_
 cases k with
 |false=>
   obtain⟨k',e',q'⟩:=q3
   cases e'
   exact ite_ff ⟨H3,I3,q'⟩
 |true=>
   refine ite_tt (test_last (thn (hc pins s3 σ H3 _ I3 q3) λw' s4 ⟨z',H4,I4,r4,q4⟩=>thn (ho' pins s4 σ H4 y z' u w' _ I4 r2 r4 q4) λd' s5 ⟨z2,H5,I5,r5,k2,e2,q5⟩=>?_));subst e2
   cases r5
   exact yG ⟨H5,I5,q5⟩
def fH(K:ze)(x:V)(H:Hp)(k:Bool):Prop:=
 match x with
 | .non=>k=false
 | .bl b=>k=b
 | .int i=>k= (i != 0)
 | .str y=>y.length<=zi/\k= ((y.length:Int) != 0)
 | .byt y=>y.size<=zi/\k= ((y.size:Int) != 0)
 | .ref p=>(∃xs,SqL K H p xs/\k= !xs.isEmpty)\/(∃xs,SqT K H p xs/\k= !xs.isEmpty)\/∃Fk,H p=some (.dK Fk)/\k= !Fk.isEmpty
 |_=>False
theorem GZ(r:KV Fk vs):(!vs.isEmpty)= !Fk.isEmpty:=by
 cases r<;>rfl
theorem TJ(r:j7 xs Fj):(!Fj.toArray.isEmpty)= !xs.isEmpty:=by
 cases r<;>simp
theorem c9:(zi:Nat)<2 ^ 63:=by rw[jh];decide
theorem kF:eS X (λx H Q=>∃k,fH X.K x H k/\Q k H):=by
 intro pins s σ H x v Q I rx h;obtain⟨k,e,q⟩:=h;have hl:=c9;have hs:zi=16777216:=jh
 cases x with
 |non=>
   cases rx
   have e':k=false:=e;subst e';exact truthy_none ⟨H,I,q⟩
 |bl b=>
   cases rx
   have e':k=b:=e;subst e';exact yG ⟨H,I,q⟩
 |int i=>
   obtain⟨t,rfl⟩:=rx;have e':k= (i != 0):=e;subst e';exact PySem.P.truthy_int ⟨H,I,q⟩
 |str y=>
   obtain⟨t,rfl⟩:=rx;obtain⟨hy,e'⟩:y.length<=zi/\k= ((y.length:Int) != 0):=e;subst e';exact PySem.P.truthy_str (by lia) ⟨H,I.tok _,q⟩
 |byt y=>
   obtain⟨t,rfl⟩:=rx;obtain⟨hy,e'⟩:y.size<=zi/\k= ((y.size:Int) != 0):=e;subst e';exact PySem.W.truthy_bytes (by lia) ⟨H,I.tok _,q⟩
 |ref p=>
   cases rx
   have e':(∃xs,SqL X.K H p xs/\k= !xs.isEmpty)\/(∃xs,SqT X.K H p xs/\k= !xs.isEmpty)\/∃Fk,H p=some (.dK Fk)/\k= !Fk.isEmpty:=e;rcases e' with⟨xs,hx,e'⟩|⟨xs,hx,e'⟩|⟨Fk,hx,e'⟩
   ·subst e';obtain⟨Fj,r,pl,hz⟩:=I.list hx;have Fp:=r.length;exact wpAny_truthy_list pl.isList (by simp only[zg];lia) ⟨H,I.tok _,by rw[TJ r];exact q⟩
   ·subst e';obtain⟨Fj,r,pl,hz⟩:=I.tuple hx;have Fp:=r.length;exact truthy_tuple pl (by simp only[zg];lia) ⟨H,I.tok _,by rw[TJ r];exact q⟩
   ·subst e';obtain⟨hz,hS,vs,r,m⟩:Fk.length<=zi/\(p==yO)=false/\∃vs,KV Fk vs/\s.heap.DictOf (v7 X.prog X.w) p vs:=I.hok p _ hx;have Fp:Fk.length=vs.length:=yq r;exact wpAny_truthy_dict hS m (by lia) ⟨H,I.tok _,by rw[GZ r];exact q⟩
 |_=>exact(show False from e).elim
theorem PY(ha:PE X a ta)(he:∀whole,isTrue a X.env whole= (do let v <-whole;Xl a.pos;ZN [v] (truthy v))):
 PT X a (λσ H Q=>ta σ H λx H'=>∃k,fH X.K x H' k/\Q k H'):=by
 intro pins s σ H Q I h;exact isTrue_plain (thn (ha pins s σ H _ I h) λv s1 Gc=>Gc.elim λx H1 I1 r1 q1=>kF pins s1 σ H1 x v Q I1 r1 q1) (he _)
theorem UN:OpR X (jF .Add) (λx y H Q=>∃i j,x= .str i/\y= .str j/\i.length+j.length<=zi/\Q (.str (i++j)) H):=by intro pins s σ H x y v u Q I rx ry h;obtain⟨i,j,rfl,rfl,hz,q⟩:=h;obtain⟨t,rfl⟩:=rx;obtain⟨t',rfl⟩:=ry;exact add_str (λt' tk=>⟨.str (i++j),H,I.tok _,⟨_,rfl⟩,q⟩) hz
theorem W2(r:j7 [x] us):∃u,us= [u]/\o5 x u:=by
 cases r with
 |cons r1 r2=>cases r2;exact⟨_,rfl,r1⟩
theorem wA(r:j7 [x,y] us):∃u w',us= [u,w']/\o5 x u/\o5 y w':=by
 cases r with
 |cons r1 r2=>
   cases r2 with
   |cons r3 r4=>cases r4;exact⟨_,_,rfl,r1,r3⟩
theorem RP:N7 X (.builtin "abs") (λxs H Q=>∃i,xs= [.int i]/\Q (.int (if i<0 then -i else i)) H):=by intro pins s σ H xs us Q I r h;obtain⟨i,rfl,q⟩:=h;obtain⟨u,rfl,t,rfl⟩:=W2 r;exact call_abs_int λu tk=>⟨.int (if i<0 then -i else i),H,I.tok _,⟨_,rfl⟩,q⟩
theorem mS(hc:X.calm=true):N7 X (.builtin "max") (λxs H Q=>∃i j,xs= [.int i,.int j]/\Q (.int (if j>i then j else i)) H):=by
 intro pins s σ H xs us Q I r h;obtain⟨i,j,rfl,q⟩:=h;obtain⟨u,w',rfl,⟨t,rfl⟩,⟨t',rfl⟩⟩:=wA r;refine max_two_ints (I.ok.hd hc) λh' tk k=>⟨_,H,I.kept k,?_,q⟩;by_cases hj:j>i
 ·rw[if_pos hj,if_pos hj];exact⟨_,rfl⟩
 ·rw[if_neg hj,if_neg hj];exact⟨_,rfl⟩
theorem qc(hc:X.calm=true):N7 X (.builtin "min") (λxs H Q=>∃i j,xs= [.int i,.int j]/\Q (.int (if j<i then j else i)) H):=by
 intro pins s σ H xs us Q I r h;obtain⟨i,j,rfl,q⟩:=h;obtain⟨u,w',rfl,⟨t,rfl⟩,⟨t',rfl⟩⟩:=wA r;refine min_two_ints (I.ok.hd hc) λh' tk k=>⟨_,H,I.kept k,?_,q⟩;by_cases hj:j<i
 ·rw[if_pos hj,if_pos hj];exact⟨_,rfl⟩
 ·rw[if_neg hj,if_neg hj];exact⟨_,rfl⟩
theorem CS:N7 X (.type "int") (λxs H Q=>(∃i,xs= [.int i]/\Q (.int i) H)\/∃k,xs= [.bl k]/\Q (.int (if k then 1 else 0)) H):=by
 intro pins s σ H xs us Q I r h;rcases h with⟨i,rfl,q⟩|⟨k,rfl,q⟩
 ·obtain⟨u,rfl,t,rfl⟩:=W2 r;exact call_int_int ⟨.int i,H,I,⟨_,rfl⟩,q⟩
 · obtain⟨u,rfl,r1⟩:=W2 r
   cases r1
   exact call_int_bool ⟨.int (if k then 1 else 0),H,I.tok _,⟨_,rfl⟩,q⟩
end
structure ObjM(h:Heap)(x dx C:Addr)(mA:Str->Option zd):Prop where
 obj:h.get? x=some (Jr C dx)
 ns:h.Ns1 dx mA
 ne:dx≠x
section
variable{prog:zI}{w:zR}{A:jb}{E:VSP}{s:zm}{K:ze}{x dx C f:Addr}{mA:Str->Option zd}{name:Str}{v:zd}
end
theorem l5.some_of(r:l5 (some v) o):∃u,o=some u/\o5 v u:=by
 cases o with
 |none=>exact(show False from r).elim
 |some u=>exact⟨u,rfl,r⟩
section
end
structure Cls(K:ze)(C:Addr):Prop where
 pg:XZ K C Str.empty=true
 hd:PySem.W.hasDictIn K C=true
 po:PySem.W.plainOver K C=true
 sa:xl K (.ref C) "__setattr__" =some (some (.builtin "object.__setattr__"))
theorem Cls.get{K:ze}(c:Cls K C)(f:Str):XZ K C f=true:=c.pg
structure Con(K:ze)(C:Addr)(f:Str)(v:V)(u:zd):Prop where
 at_:xl K (.ref C) f=some (some u)
 rel:o5 v u
 get:XG K u "__get__" =some none
 cp:PySem.W.copiedNames.contains f=false
structure Meth(K:ze)(C:Addr)(m:Str)(f:Addr):Prop where
 at_:xl K (.ref C) m=some (some (.ref f))
 fn:PySem.W.isFn K (.ref f)=true
 kp:jN K (.ref f)=true
section
end
section
end
section
inductive l4(K:ze)(H:Hp):V->zd->Prop where
 |non:l4 K H .non (.type "NoneType")
 |bl (x:Bool):l4 K H (.bl x) (.type "bool")
 |int (i:Int):l4 K H (.int i) (.type "int")
 |str (x:Str):l4 K H (.str x) (.type "str")
 |flt (x:UInt64):l4 K H (.flt x) (.type "float")
 |lst {a:Addr} {xs:List V} (e:H a=some (.lst xs)):l4 K H (.ref a) (.type "list")
 |frz {a:Addr} {o:Obj} {xs:List V} (e:H a=some (.frz o (.lst xs))):l4 K H (.ref a) (.type "list")
 |tup {a:Addr} {xs:List V} (e:H a=some (.tup xs)):l4 K H (.ref a) (.type "tuple")
 |dK {a:Addr} {Fk:List (Key×V)} (e:H a=some (.dK Fk)):l4 K H (.ref a) (.type "dict")
 |dT {a:Addr} {Fk:List (List Key×V)} (e:H a=some (.dT Fk)):l4 K H (.ref a) (.type "dict")
 |ins {a C dx:Addr} {fs:List (Str×V)} (e:H a=some (.ins C dx fs)) (cl:Cls K C) (ha:xl K (.ref C) "__class__" =some (some (.builtin "object.__class__")))
    (hn:XG K (.builtin "object.__class__") "__get__" =some (some (.builtin "getset_descriptor.__get__"))) (htk:PySem.W.takesIn K (.builtin "object.__class__")=some true)
    (hm:PySem.W.mroIn K C (.type "object")=some true):l4 K H (.ref a) (.ref C)
end
structure K8(k:Nat)(A:jb):Prop where
 hd:A.handled=none
 dp:A.depth+3*k+5<recursionLimit
 un:A.units+16*k+200<yH
 gd:A.guards=some []
theorem K8.mono(r:K8 k A)(h:j<=k):K8 j A:=⟨r.hd,by have:=r.dp;lia,by have:=r.un;lia,r.gd⟩
theorem K8.deeper(r:K8 (k+1) A)(env:Env):K8 k (A.deeper env):=
 ⟨r.hd,by have:=r.dp;show A.depth+1+3*k+5<_;lia,by have:=r.un;show A.units+3+16*k+200<_;lia,r.gd⟩
theorem K8.in1(r:K8 (k+1) A):K8 k A.in1:=
 ⟨r.hd,by have:=r.dp;show A.depth+3*k+5<_;lia,by have:=r.un;show A.units+1+16*k+200<_;lia,r.gd⟩
theorem K8.depth(r:K8 k A):A.depth<recursionLimit:=by have:=r.dp;lia
theorem K8.units(r:K8 k A):A.units+64<yH:=by have:=r.un;lia
def EO:TA:=λ_ H Q=>Q [] H
def vf(ta:TE)(tr:TA):TA:=λσ H Q=>ta σ H λx H1=>tr σ H1 λxs H2=>Q (x::xs) H2
section
theorem IS:PA X [] EO:=λ_ _ _ _ H Q I h=>Calls.spliced_nil ⟨[],H,I,.nil,h⟩
theorem bP(ha:PE X e te)(hr:PA X es t)(hs:zF (e::es) X.env= (false,eval e X.env)::zF es X.env):PA X (e::es) (vf te t):=by intro pos pins s σ H Q I h;rw[hs];show zp _ _ (spliced ((false,eval e X.env)::yA pos (zF es X.env))) _ _ s;refine Calls.spliced_cons (thn (ha pins s σ H _ I h) λu s1 Gc=>Gc.elim λx H1 I1 r1 q1=>?_);exact thn (hr pos pins s1 σ H1 _ I1 q1) λus s2 Gc=>Gc.elim λxs H2 I2 r2 q2=>⟨x::xs,H2,I2,.cons r1 r2,q2⟩
def wd(t:TA):TE:=λσ H Q=>t σ H λxs H1=>xs.length<=zi/\∀p,H1 p=none->Q (.ref p) (upd H1 p (.tup xs))
def uS(t:TA):TE:=λσ H Q=>t σ H λxs H1=>xs.length<=zi/\∀p,H1 p=none->Q (.ref p) (upd H1 p (.lst xs))
theorem rT{x1}(h:PA X es t):PE X (.Tuple es x1 pos) (wd t):=by intro pins s σ H Q I hq;refine wpAny_Tuple_spliced (thn (h pos pins s σ H _ I hq) λus s1 ⟨xs,H1,I1,r,z,q⟩=>⟨by rw[<-r.length];exact z,?_⟩);have hf:H1 s1.heap.objs.size=none:=I1.hok.fresh (zh _);refine⟨.ref s1.heap.objs.size,upd H1 s1.heap.objs.size (.tup xs),I1.laid (t':=s1.toks) (λb u e=>zc _ e) (zh _) ?_,rfl,q _ hf⟩;exact⟨z,us,r,⟨_,zu _ rfl,rfl,_,rfl⟩⟩
theorem Bw(h:PA X es t):PE X (.List es pos) (uS t):=by intro pins s σ H Q I hq;refine wpAny_List_spliced (thn (h pos pins s σ H _ I hq) λus s1 ⟨xs,H1,I1,r,z,q⟩=>⟨by rw[<-r.length];exact z,?_⟩);have hf:H1 s1.heap.objs.size=none:=I1.hok.fresh (zh _);refine⟨.ref s1.heap.objs.size,upd H1 s1.heap.objs.size (.lst xs),I1.laid (t':=s1.toks) (λb u e=>zc _ e) (zh _) ?_,rfl,q _ hf⟩;exact⟨z,us,0,r,zu _ rfl⟩
end
abbrev Sp:=List V->Hp->VK->XK->Prop
abbrev CXT:=List Env->Hp->zm->XK->VSP
structure N9(P:zI)(w:zR)(K:ze)(mg:Str->Option zd)(base:Heap)(A:jb)(outer:List Env)(s:zm)(H:Hp):Prop where
 frames:A.frames=some outer
 mod:Mod K mg base
 bs:∀b o,base.get? b=some o->s.heap.get? b=some o/\H b=none
 bsz:base.objs.size<=s.heap.objs.size
 funs:s.heap.FunFrames base outer
 frf:∀b∈frs outer,H b=none
 hok:HOk P w H s.heap
 bare:ZQ s.gens
def CE(outer:List Env)(P:zI)(w:zR)(H:Hp)(s:zm)(Q:VK)(u:zd)(s':zm):Prop:=
 ∃v H',s'.os=s.os/\ZQ s'.gens/\Un (frs outer) [] H H' s.heap s'.heap/\HOk P w H' s'.heap/\o5 v u/\Q v H'
def CR(CX:CXT)(outer:List Env)(P:zI)(w:zR)(H:Hp)(s:zm)(Q:VK)(E:XK)(r:Result)(s':zm):Prop:=
 match r with
 | .ok (.ret u)=>CE outer P w H s Q u s'
 | .ok _=>False
 | .error e=>CX outer H s E e s'
structure V1(P:zI)(w:zR)(K:ze)(mg:Str->Option zd)(base:Heap)(CX:CXT)(k:Nat)(f:Addr)(fd:yF)(ps:List Str)(sp:Sp):Prop where
 len:∀vs H Q E,sp vs H Q E->vs.length=ps.length
 run:∀(A:jb) (outer:List Env) (s:zm) (H:Hp) (args:Args) (us:List zd) (vs:List V) (Q:VK) (E:XK),K8 k A->N9 P w K mg base A outer s H->Zo s fd args (ps.zip us)->j7 vs us->sp vs H Q E->
  YA (zy P w) A (.call (.ref f) args) (CR CX outer P w H s Q E) s
theorem V1.mono{P:zI}{w:zR}{K:ze}{base:Heap}{CX:CXT}{j k:Nat}{f:Addr}{fd:yF}{ps:List Str}{sp:Sp}(F:V1 P w K mg base CX j f fd ps sp)(h:j<=k):
 V1 P w K mg base CX k f fd ps sp:=⟨F.len,λA outer s H args us vs Q E hr=>F.run A outer s H args us vs Q E (hr.mono h)⟩
theorem V1.imp{P:zI}{w:zR}{K:ze}{base:Heap}{CX:CXT}{k:Nat}{f:Addr}{fd:yF}{ps:List Str}{sp sp':Sp}(F:V1 P w K mg base CX k f fd ps sp)
 (h:∀vs H Q E,sp' vs H Q E->sp vs H Q E):V1 P w K mg base CX k f fd ps sp':=
 ⟨λvs H Q E q=>F.len vs H Q E (h _ _ _ _ q),λA outer s H args us vs Q E hr he hb hv hs=>F.run A outer s H args us vs Q E hr he hb hv (h _ _ _ _ hs)⟩
theorem N9.in1{P:zI}{w:zR}{K:ze}{base:Heap}{A:jb}{outer:List Env}{s:zm}{H:Hp}(e:N9 P w K mg base A outer s H):
 N9 P w K mg base A.in1 outer s H:=⟨e.frames,e.mod,e.bs,e.bsz,e.funs,e.frf,e.hok,e.bare⟩
section
theorem Inv.env0(I:Inv X pins σ H s):N9 X.prog X.w X.K X.mg X.base X.A X.stack s H:=
 ⟨I.ok.frames,I.ok.mod,I.bs,zP I.ok.bsz I.sz,I.stack,I.stkFree,I.hok,I.bare⟩
theorem Inv.after(I:Inv X pins σ H s)(h:CE X.stack X.prog X.w H s Q u s'):EP X pins σ Q u s':=by obtain⟨v,H',os,bare,un,hok,r,q⟩:=h;obtain⟨hh,g,d,t,os'⟩:=s';obtain rfl:os'=s.os:=os;exact⟨v,H',I.call (h':=hh) (g':=g) (d':=d) (t':=t) (ch:= []) un hok bare (λb z=>absurd z (by simp)),r,q⟩
end
def kc(sp:Sp)(dvs:List V)(E:XK)(t:TA):TE:=λσ H Q=>t σ H λvs H1=>sp (vs++dvs) H1 Q E
def v3(K:ze)(fd:yF)(ps:List Str)(ds:List zd):Prop:=
 ∀(s:zm) (us:List zd),K.In s.heap->(us++ds).length=ps.length->Zo s fd ⟨us, []⟩ (ps.zip (us++ds))
theorem v3.all{K:ze}{ps:List Str}(h:∀us:List zd,us.length=ps.length->bindArgs fd ⟨us, []⟩=pure (ps.zip us)):v3 K fd ps []:=λs us _ hl=>by rw[jt]at hl ⊢;exact .of_eq (h us hl)
def PF(CX:CXT)(X:Cx)(E:XK):Prop:=∀(pins:PNS) (σ:St) (H:Hp) (s:zm) (e:zd) (s':zm),Inv X pins σ H s->CX X.stack H s E e s'->X.xe e s'
section
theorem dM(F:V1 X.prog X.w X.K X.mg X.base CX k f fd ps sp)(hr:K8 k X.A)(hb:v3 X.K fd ps ds)(hd:j7 dvs ds)(hx:PF CX X E)
 (I:Inv X pins σ H s) (r:j7 vs us) (h:sp (vs++dvs) H Q E):zp (zy X.prog X.w) X.A (call (.ref f) us) (EP X pins σ Q) X.xe s:=by
 have r2:j7 (vs++dvs) (us++ds):=r.append hd;have hl:(us++ds).length=ps.length:=by rw[<-r2.length];exact F.len _ _ _ _ h
 refine wpAny_call (JG (F.run X.A X.stack s H ⟨us, []⟩ (us++ds) (vs++dvs) Q E hr I.env0 (hb s us I.kIn hl) r2 h) λr s' hq=>?_)
 cases r with
 |error e=>exact hx pins σ H s e s' I hq
 |ok fl=>
   cases fl with
   |ret u=>exact I.after hq
   |next=>exact jS hq
   |brk=>exact jS hq
   |cont=>exact jS hq
theorem NR(F:V1 X.prog X.w X.K X.mg X.base CX k f fd ps sp)(hr:K8 k X.A)(hg:Gl X x)(hm:X.mg x=some (.ref f))(hk:jN X.K (.ref f)=true)(hb:v3 X.K fd ps ds)(hd:j7 dvs ds)(hx:PF CX X E)
 (ha:PA X (e::es) t) (hdb:(x==("__debug__" :Str))=false) (he:zF (e::es) X.env= (false,eval e X.env)::zF es X.env) (Hh:(yA pos (zF es X.env)).any (·.1)=false):
 PE X (.Call (.Name x p) (e::es) [] pos) (kc sp dvs E t):=by
 intro pins s σ H Q I h;refine yX (sB I hg hm ?_ hdb);refine PySem.W.callWith_K (h₀:=X.base) I.ok.mod.kin hk (thn (ha pos pins s σ H _ I h) λus s1 Gc=>Gc.elim λvs H1 I1 r q=>⟨I1.kIn,?_⟩) he Hh;exact dM F hr hb hd hx I1 r q
structure Mk(K:ze)(C f:Addr):Prop where
 makes:PySem.W.makesIn K C=true
 init:xl K (.ref C) "__init__" =some (some (.ref f))
 fn:PySem.W.isFn K (.ref f)=true
 kp:jN K (.ref C)=true
end
section
structure KBinds(K:ze)(fd:yF)(ps ks:List Str)(g:List zd->List zd->List zd)(gV:List V->List V->List V):Prop where
 to:∀(s:zm) (us ws:List zd),K.In s.heap->(g us ws).length=ps.length->Zo s fd ⟨us,ks.zip ws⟩ (ps.zip (g us ws))
 rel:∀ {vs:List V} {us:List zd} {zs:List V} {ws:List zd},j7 vs us->j7 zs ws->j7 (gV vs zs) (g us ws)
end
structure R3(N P:List Str)(sc:Scope):Prop where
 kind:sc.kind= .function
 co:sc.isCoroutine=false
 gen:sc.isGenerator=false
 nd:N.Nodup
 pre:N.take P.length=P
 par:∀x∈P,sc.names.lookup x=some .local\/sc.names.lookup x=some .cell
 nofree:∀y∈sc.names,y.2≠ .free
theorem sL{yr:Str->Option NameKind}{x:Str}:∀ {binds} {m:Str->Option zd},(∀v,(x,v)∉binds)->Jm yr binds m x=m x
 |[],_,_=>rfl
 |(n,v)::r,m,h=>by
  unfold Jm;rw[sL λw hw=>h w (zk _ hw)];split
  · have:x≠n:=by rintro rfl;exact h v zr
    simp[this]
  ·rfl
theorem EH{yr:Str->Option NameKind}{x:Str}:∀ {binds} {m:Str->Option zd},(∀v,(x,v)∉binds)->Jn yr binds m x=m x
 |[],_,_=>rfl
 |(n,v)::r,m,h=>by
  unfold Jn;rw[EH λw hw=>h w (zk _ hw)];split
  ·rfl
  · have:x≠n:=by rintro rfl;exact h v zr
    simp[this]
theorem MH{yr:Str->Option NameKind}{x:Str}{v:zd}:∀ {P:List Str} {vs:List zd} {i:Nat} {m},P.Nodup->P[i]? =some x->vs[i]? =some v->yr x=some .local->
 Jm yr (P.zip vs) m x=some v
 |[],_,_,_,_,h,_,_=>by simp at h
 |_::_, [],_,_,_,_,h,_=>by simp at h
 |p::P,w::vs,0,m,nd,h1,h2,hk=>by simp at h1 h2;subst h1;subst h2;show Jm yr ((p,w)::P.zip vs) m p=_;unfold Jm;rw[sL λv hv=>(Zb.mp nd).1 (Yv hv).1,if_pos hk];simp
 |p::P,w::vs,i+1,m,nd,h1,h2,hk=>by show Jm yr ((p,w)::P.zip vs) m x=_;unfold Jm;exact MH (i:=i) (Zb.mp nd).2 (by simpa using h1) (by simpa using h2) hk
theorem kI{yr:Str->Option NameKind}{x:Str}{v:zd}:∀ {P:List Str} {vs:List zd} {i:Nat} {m},P.Nodup->P[i]? =some x->vs[i]? =some v->yr x≠some .local->
 Jn yr (P.zip vs) m x=some v
 |[],_,_,_,_,h,_,_=>by simp at h
 |_::_, [],_,_,_,_,h,_=>by simp at h
 |p::P,w::vs,0,m,nd,h1,h2,hk=>by simp at h1 h2;subst h1;subst h2;show Jn yr ((p,w)::P.zip vs) m p=_;unfold Jn;rw[EH λv hv=>(Zb.mp nd).1 (Yv hv).1,if_neg hk];simp
 |p::P,w::vs,i+1,m,nd,h1,h2,hk=>by show Jn yr ((p,w)::P.zip vs) m x=_;unfold Jn;exact kI (i:=i) (Zb.mp nd).2 (by simpa using h1) (by simpa using h2) hk
def start(N:List Str)(vs:List V):St:=vs.map some++jV (N.length-vs.length) none
def t5(CX:CXT)(P:zI)(w:zR)(K:ze)(mg:Str->Option zd)(base:Heap)(N:List Str)(qual:Str)(scope:Scope)(f:Addr)(cd:zd)(A:jb)(outer:List Env)(s:zm)(H:Hp)(E:XK):Cx where
 prog:=P
 w:=w
 K:=K
 mg:=mg
 base:=base
 A:=A.deeper (xZ qual scope s.heap.objs.size f cd)
 N:=N
 WX:=s
 H₀:=H
 env:=xZ qual scope s.heap.objs.size f cd
 outer:=outer
 stack:=xZ qual scope s.heap.objs.size f cd::outer
 ex:= []
 calm:=true
 fn:=λ_=>true
 pn:= []
 xe:=λe s'=>zp (zy P w) (A.deeper (xZ qual scope s.heap.objs.size f cd)) (leaving (xZ qual scope s.heap.objs.size f cd) e) (λ_ s''=>CX outer H s E e s'') (λe' s''=>CX outer H s E e' s'') s'
theorem oN{sc:Scope}{x:Str}(h:sc.names.lookup x=some .cell):∃c,(cellsFrom n sc.names []).lookup x=some c:=by have q:=YN sc.names n [] (.inl h);exact YI.mp q
theorem tT{CX:CXT}{P:zI}{w:zR}{K:ze}{mg:Str->Option zd}{base:Heap}{N ps:List Str}{qual:Str}{scope:Scope}{f:Addr}{cd:zd}{A:jb}{outer:List Env}{s s1:zm}{H:Hp}{E:XK}{us:List zd}{vs:List V}
 (S:R3 N ps scope) (hd:A.handled=none) (gd:A.guards=some []) (e0:N9 P w K mg base A outer s H) (hl:vs.length=ps.length) (r:j7 vs us)
 (x:InCallC s s.heap.objs.size (Jm (xZ qual scope s.heap.objs.size f cd).kindOf (ps.zip us) λ_=>none) (cellsFrom (s.heap.objs.size+1) scope.names []) (Jn (xZ qual scope s.heap.objs.size f cd).kindOf (ps.zip us) λ_=>none) s1):
 Inv (t5 CX P w K mg base N qual scope f cd A outer s H E) [] (start N vs) H s1:=by
 have Hh:ps.length<=N.length:=by have:=congrArg xI S.pre;rw[yI]at this;lia
 obtain⟨h1,tk,rfl,hk⟩:=x.done;have noA:∀b:Addr,b∉(t5 CX P w K mg base N qual scope f cd A outer s H E).ex:=λb z=>absurd (show b∈([]:List Addr)from z) (by simp);refine⟨⟨e0.mod,S.kind,rfl,rfl,zh _,λy z c h1 h2=>?_,λy hy=>?_,λy c _ h=>?_,λ_=>hd,Around.frames_deeper e0.frames,.inr ⟨rfl,rfl⟩,λb z=>absurd z (noA b),e0.bs,e0.bsz,λb _ _=>noA b,λb z=>absurd z (noA b),e0.funs,e0.frf,gd⟩,
  rfl,e0.bare,Un.kept hk,⟨_,x.toInCall.ns,λi y v h1 h2 h3=>?_⟩,λy c h=>⟨_,x.cell y c h⟩,e0.hok.fresh (zh _),λy c h=>?_,λp hp=>absurd (show p∈([]:PNS)from hp) (by simp),e0.hok.kept hk,?_⟩
 ·exact name_of_addr x.apart (ye h1) (ye h2)
 · have hy:scope.names.lookup y=some .cell\/scope.names.lookup y=some .free:=hy;rcases hy with hy|hy
   ·exact oN hy
   ·exact absurd rfl (S.nofree _ (ye hy))
 ·exact xa (x.above y c (ye h))
 · have hi:i<vs.length:=by
    unfold start at h2;by_cases hi:i<vs.length
    ·exact hi
    ·rw[jy (by simpa using hi)]at h2;rw[Xk]at h2;split at h2<;>cases h2
   have ha:vs[i]? =some v:=by
    unfold start at h2;rw[zt (by simpa using hi),jr]at h2
    cases e:vs[i]? with
    |none=>rw[e]at h2;cases h2
    |some a=>rw[e]at h2;cases h2;rfl
   obtain⟨u,hu,rv⟩:=r.get ha;have hp:ps[i]? =some y:=by rw[<-S.pre,List.getElem?_take_of_lt (by lia)];exact h1
   have ndP:ps.Nodup:=by rw[<-S.pre];exact S.nd.sublist (List.take_sublist _ _)
   refine⟨u,rv,?_⟩;rcases S.par y (yb hp)with k|k
   ·exact .inl ⟨k,MH ndP hp hu k⟩
   ·obtain⟨c,e⟩:=oN (n:=s.heap.objs.size+1) k;refine .inr ⟨.inl k,c,e,?_⟩;have q:=x.cell y c e;rw[kI ndP hp hu (by show scope.names.lookup y≠_;rw[k];decide)]at q;exact q
 ·exact e0.hok.fresh (xa (x.above y c (ye h)))
 ·unfold start;show _=N.length;rw[zf,zn,List.length_replicate];lia
theorem eU{CX:CXT}{P:zI}{w:zR}{K:ze}{mg:Str->Option zd}{base:Heap}{k:Nat}{f:Addr}{name qual:Str}{params:Arguments}{body:List Stmt}{scope:Scope}{dV kV doc pm Gh ct oc:zd}{an od:Option Addr}
 {N ps:List Str} {sp:Sp} (lk:K.lookup f=some ⟨oc,od,.func (jK name qual params body scope dV kV doc pm an Gh ct),osl⟩) (hcd:xm K Gh qual=true) (S:R3 N ps scope)
 (len:∀vs H Q E,sp vs H Q E->vs.length=ps.length)
 (hbody:∀(A:jb) (outer:List Env) (s:zm) (H:Hp) (vs:List V) (Q:VK) (E:XK),K8 k (A.deeper (xZ qual scope s.heap.objs.size f Gh))->sp vs H Q E->
   ∃t,PSs (t5 CX P w K mg base N qual scope f Gh A outer s H E) body t/\t {nx:=λ_ H'=>Q .non H',rt:=Q} (start N vs) H):
 V1 P w K mg base CX (k+1) f (jK name qual params body scope dV kV doc pm an Gh ct) ps sp:=by
 refine⟨len,λA outer s H args us vs Q E hr e0 hb r hsp=>?_⟩;have hl:=len _ _ _ _ hsp;have KX:K.In s.heap:=e0.mod.kin.keeps λb o e=>(e0.bs b o e).1;have lim:s.heap.NoLimit:=e0.mod.nolimit.keeps λb o e=>(e0.bs b o e).1;have hkind:∀y∈ps.zip us,scope.names.lookup y.1=some .local\/(scope.names.lookup y.1=some .cell/\((cellsFrom (s.heap.objs.size+1) scope.names []).lookup y.1).isSome=true):=fun⟨n,v⟩ hy=>by
  rcases S.par n (Yv hy).1 with q|q
  ·exact .inl q
  ·exact .inr ⟨q,YN _ _ _ (.inl q)⟩
 refine codeAny_call_function hr.depth (KX _ _ lk) rfl S.co S.gen rfl (PySem.W.codeRec_of KX hcd) (hb _ _ _ _ ?_);refine wpAny_newFunctionEnv_cells S.kind hkind λenv he s1 x=>?_;subst he;refine⟨lim.keeps x.toInCall.keep,codeAny_func ?_⟩;obtain⟨t,ht,hq⟩:=hbody A outer s H vs Q E (hr.deeper _) hsp;have I:Inv (t5 CX P w K mg base N qual scope f Gh A outer s H E) [] (start N vs) H s1:=tT S hr.hd hr.gd e0 hl r x;refine jf (ht [] s1 (start N vs) H _ I hq) (λfl s' hs=>?_) λe s' hs=>hs;have fin:∀ {X1:St} {H':Hp} {v:V} {u:zd},Inv (t5 CX P w K mg base N qual scope f Gh A outer s H E) [] X1 H' s'->o5 v u->Q v H'->CE outer P w H s Q u s':=
  λ{X1 H' v u} J rv q=>⟨v,H',J.os,J.bare,J.base,J.hok,rv,q⟩
 cases fl with
 |ret u=>
   obtain⟨v,X1,H',J,rv,q⟩:=hs;exact fin J rv q
 |next=>
   obtain⟨X1,H',J,q⟩:=hs;exact fin (v:=V.non) (u:=Value.none) J rfl q
 |brk=>
   obtain⟨_,_,_,q⟩:=hs;exact jS q
 |cont=>
   obtain⟨_,_,_,q⟩:=hs;exact jS q
section
variable{X:Cx}{x:Str}{p pos:Pos}{e:Expr}{es:List Expr}{t:TA}{id T:String}{r:List V->Hp->VK->Prop}
def tCB(r:List V->Hp->VK->Prop)(t:TA):TE:=λσ H Q=>t σ H λvs H1=>r vs H1 Q
theorem RZ(hc:N7 X (.builtin id) r)(hg:Gl X x)(hm:X.mg x=none)(hv:zK x=some (.builtin id))(ha:PA X (e::es) t)(hn:x≠ "__name__")(hdb:(x==("__debug__" :Str))=false)
 (he:zF (e::es) X.env= (false,eval e X.env)::zF es X.env) (Hh:(yA pos (zF es X.env)).any (·.1)=false):PE X (.Call (.Name x p) (e::es) [] pos) (tCB r t):=by
 intro pins s σ H Q I h;refine yX (P8 I hg hm hv ?_ hn hdb);exact PyProof.Rows.callWith_builtin1 (thn (ha pos pins s σ H _ I h) λus s1 Gc=>Gc.elim λvs H1 I1 r1 q1=>hc pins s1 σ H1 vs us Q I1 r1 q1) he Hh
theorem ET(hc:N7 X (.type T) r)(hg:Gl X x)(hm:X.mg x=none)(hv:zK x=some (.type T))(ha:PA X (e::es) t)(hn:x≠ "__name__")(hdb:(x==("__debug__" :Str))=false)
 (he:zF (e::es) X.env= (false,eval e X.env)::zF es X.env) (Hh:(yA pos (zF es X.env)).any (·.1)=false):PE X (.Call (.Name x p) (e::es) [] pos) (tCB r t):=by
 intro pins s σ H Q I h;refine yX (P8 I hg hm hv ?_ hn hdb);exact xc (thn (ha pos pins s σ H _ I h) λus s1 Gc=>Gc.elim λvs H1 I1 r1 q1=>hc pins s1 σ H1 vs us Q I1 r1 q1) he Hh
end
end L2
namespace HT
open PySem PyProof.Rows
section
open PySem.SeqAt
open PySem.AutoSeq1 (wpAny_loadPart')
open PySem.MeetsSeq PySem.MeetsSeq2 PySem.MeetsSeq3
end
section
theorem cat_tup(ht:Zi s.heap t vs.toArray)(hb:Zi s.heap b ws.toArray)(hv:vs≠ [])
 (h1:ws= []->Q (.ref t) s) (h2:ws≠ []->Q (.ref s.heap.objs.size) {s with heap:=s.heap.push {cls:=.type "tuple",data:=.seq (vs++ws).toArray}})
 (hsz:vs.length+ws.length<=zi):zp (zy prog w) A (jF .Add (.ref t) (.ref b)) Q E s:=by
 obtain⟨⟨cls,dd,data,sl⟩,ho,hc,n,hd⟩:=id ht;obtain⟨⟨cls2,dd2,data2,sl2⟩,Gp,hc2,n2,hd2⟩:=id hb;simp only at hc hd hc2 hd2;subst hc hd hc2 hd2;have e:vs.toArray++ws.toArray= (vs++ws).toArray:=by simp
 by_cases hw:ws= []
 · exact JF ⟨_,ho,rfl⟩ ⟨_,Gp,rfl⟩ YM XX xM xG (xC _ _)
    (tuple_addW1 t b vs.toArray ws.toArray n n2 dd dd2 sl sl2 (by simpa using hv) (by simp[hw])) ⟨ho,Gp,h1 hw⟩
 · refine JF ⟨_,ho,rfl⟩ ⟨_,Gp,rfl⟩ YM XX xM xG (xC _ _)
    (tuple_addW2 t b vs.toArray ws.toArray n n2 dd dd2 sl sl2 (by simpa using hv) (by simpa using hw) (by rw[zg,zg];exact hsz)) ⟨ho,Gp,?_⟩
   rw[e];exact h2 hw
def sIx(n d:Nat):Option Int->Nat
 |none=>d
 |some v=>if v<0 then (v+(n:Int)).toNat else min v.toNat n
theorem sIx_none(n d:Nat):sIx n d none=d:=rfl
theorem sIx_nat(n d k:Nat):sIx n d (some (k:Int))=min k n:=by show (if (k:Int)<0 then ((k:Int)+(n:Int)).toNat else min (k:Int).toNat n)=min k n;rw[if_neg (by lia),xb]
theorem RX(n d:Nat)(hd:d<=n)(o:Option Int):sIx n d o<=n:=by
 cases o with
 |none=>exact hd
 |some v=>
   show (if v<0 then (v+(n:Int)).toNat else min v.toNat n)<=n;by_cases hv:v<0
   ·rw[if_pos hv];lia
   ·rw[if_neg hv];exact Nat.min_le_right _ _
theorem RM(v:Int)(n d:Nat):(if v<0 then max (v+(n:Int)) 0 else min v (n:Int))= ((sIx n d (some v):Nat):Int):=by
 show (if v<0 then max (v+(n:Int)) 0 else min v (n:Int))= (((if v<0 then (v+(n:Int)).toNat else min v.toNat n):Nat):Int);by_cases hv:v<0
 ·simp only[if_pos hv];lia
 ·simp only[if_neg hv];lia
theorem Bv(lo hi:Option Int)(n:Nat):xi lo hi 1 (n:Int)= (((sIx n 0 lo:Nat):Int),((sIx n n hi:Nat):Int)):=by
 have h1:¬((1:Int)<0):=by lia
 unfold xi;simp only[h1,if_false];refine XO ?_ ?_
 · cases lo with
   |none=>rfl
   |some v=>exact RM v n 0
 · cases hi with
   |none=>rfl
   |some v=>exact RM v n n
theorem cO(i j:Nat):yt (i:Int) (j:Int) 1=j-i:=by
 unfold yt;have h1:(1:Int)>0:=by lia
 simp only[h1,if_true,Int.ediv_one];split<;>lia
theorem AI(p:IsPart v o)(h:Q o s):zp (zy prog w) A (Builtin.Slice.slicePartIndex v) Q E s:=by
 cases p with
 |none=>exact slicePart_none h
 |int i t=>exact slicePart_int h
theorem sliceApplied_gen{sl:Addr}{vl vu:zd}{lo hi:Option Int}{n:Nat}(hs:s.heap.IsSliceOf sl vl vu .none)(pl:IsPart vl lo)(pu:IsPart vu hi)
 (h:Q (((sIx n 0 lo:Nat):Int),1,sIx n n hi-sIx n 0 lo) s):zp (zy prog w) A (Zz (.ref sl) (pure (n:Int))) Q E s:=by
 obtain⟨os,hos,hcs,hds⟩:=id hs;unfold Zz Builtin.Slice.sliceFields;refine za (za (jx hos hds (x:=vl) rfl (za (jx hos hds (x:=vu) rfl (za (jx hos hds (x:=.none) rfl (zl ?_)))))));refine za (slicePart_none ?_);show zp _ _ (if ((1:Int)==0)=true then _ else _) _ _ s;rw[if_neg (by decide)];refine za (AI pl (za (AI pu (za (zl ?_)))));show zp _ _ (match xi lo hi 1 (n:Int) with|(lo,hi)=>pure (lo,(1:Int),yt lo hi 1)) _ _ s;rw[Bv lo hi n];show zp _ _ (pure (((sIx n 0 lo:Nat):Int),(1:Int),yt ((sIx n 0 lo:Nat):Int) ((sIx n n hi:Nat):Int) 1)) _ _ s;rw[cO];exact zl h
theorem fO(xs:Array zd)(i k:Nat):((zJ k).filterMap fun(m:Nat)=>xs[((i:Int)+(m:Int)*1).toNat]?).toArray= ((xs.toList.drop i).take k).toArray:=by
 have e:(fun(m:Nat)=>xs[((i:Int)+(m:Int)*1).toNat]?)=λm=>xs[i+m]? :=by
  funext m;have:((i:Int)+(m:Int)*1).toNat=i+m:=by lia
  rw[this]
 rw[e];have:=pick_run xs i k;rw[yo]at this;have e2:((λx=>xs[x]?)∘λx=>i+x)=λm=>xs[i+m]? :=rfl;rw[e2]at this;rw[this]
theorem getItem_tuple_cut{t sl:Addr}{vl vu:zd}{lo hi:Option Int}(ht:Zi s.heap t items)(hs:s.heap.IsSliceOf sl vl vu .none)(pl:IsPart vl lo)(pu:IsPart vu hi)
 (hw:¬(sIx items.size 0 lo=0/\sIx items.size items.size hi=items.size))
 (h:Q (.ref s.heap.objs.size) {s with heap:=s.heap.push {cls:=.type "tuple",data:=.seq ((items.toList.drop (sIx items.size 0 lo)).take (sIx items.size items.size hi-sIx items.size 0 lo)).toArray}})
 (hsz:items.size<=zi):zp (zy prog w) A (Yz (.ref t) (.ref sl)) Q E s:=by
 have htake:sizeOk (.seq ((items.toList.drop (sIx items.size 0 lo)).take (sIx items.size items.size hi-sIx items.size 0 lo)).toArray):=by show ((items.toList.drop (sIx items.size 0 lo)).take (sIx items.size items.size hi-sIx items.size 0 lo)).toArray.size<=zi;rw[zg,yI,yJ,jA];lia
 have hj:sIx items.size items.size hi<=items.size:=RX _ _ (zh _) hi;obtain⟨os,hos,hcs,hds⟩:=id hs;have hTs:s.TypeIs (.ref sl) "slice":=⟨os,hos,hcs⟩;unfold Yz
 try with_reducible refine ju ?_
 first|refine za (zl ?_)|skip
 refine za (wpAny_sequenceKey ht.typeIs (by decide) ?_);refine za (jL (name:=jd "__getitem__") ht.typeIs jj
  (yp jj ht.typeIs entry_tuple_getitem ?_ (args_tuple_getitem _ _)))
 show zp _ _ (Zy (.ref t) >>= _) _ _ s;refine za (tupleItemsOf_ ht ?_);refine za (Zk hTs ?_);rw[if_pos (by decide)];refine za (sliceApplied_gen hs pl pu ?_);have hno:¬((((sIx items.size 0 lo:Nat):Int)==0&&(1:Int)==1&&(sIx items.size items.size hi-sIx items.size 0 lo)==items.size)=true):=by intro q;rw[jl,jl]at q;have q1:((sIx items.size 0 lo:Nat):Int)=0:=eq_of_beq q.1.1;have q2:sIx items.size items.size hi-sIx items.size 0 lo=items.size:=eq_of_beq q.2;exact hw ⟨by lia,by lia⟩
 show zp _ _ (if (((sIx items.size 0 lo:Nat):Int)==0&&(1:Int)==1&&(sIx items.size items.size hi-sIx items.size 0 lo)==items.size)=true then _ else _) _ _ s;rw[if_neg hno,fO]
 first
  |exact za (m:=yD _) (yf (zl ⟨_,rfl,zl h⟩) htake)
  |exact za (m:=yD _) (yf (za (zl (zl ⟨_,rfl,zl h⟩))) htake)
  |exact za (za (m:=yD _) (yf (zl (zl ⟨_,rfl,zl h⟩)) htake))
  |exact za (za (m:=yD _) (yf (zl ⟨_,rfl,zl h⟩) htake))
end
end HT
namespace L2
open PySem PySem.Spec PyProof.Rows
abbrev TO:=St->Hp->(Option Int->Hp->Prop)->Prop
def PO(X:Cx)(e:Option Expr)(t:TO):Prop:=
 ∀(pins:PNS) (s:zm) (σ:St) (H:Hp) (Q:Option Int->Hp->Prop),Inv X pins σ H s->t σ H Q->
  zp (zy X.prog X.w) X.A (evalPart e X.env) (λu s'=>∃o H',Inv X pins σ H' s'/\IsPart u o/\Q o H') X.xe s
def qk:TO:=λ_ H Q=>Q none H
def vU(t:TE):TO:=λσ H Q=>t σ H λx H1=>∃i,x= .int i/\Q (some i) H1
section
variable{X:Cx}{e:Expr}{te:TE}{lo hi:Option Expr}{tl th:TO}{pos p2:Pos}
theorem EY:PO X none qk:=by intro pins s σ H Q I h;rw[evalPart_none];exact zl ⟨none,H,I,.none,h⟩
theorem MT(h:PE X e te):PO X (some e) (vU te):=by intro pins s σ H Q I hw;rw[evalPart_some];refine thn (h pins s σ H _ I hw) λu s1 Gc=>Gc.elim λx H1 I1 r1 q1=>?_;obtain⟨i,rfl,q⟩:=q1;obtain⟨t,rfl⟩:=r1;exact⟨some i,H1,I1,.int i t,q⟩
def SlR(X:Cx)(r:V->Option Int->Option Int->Hp->VK->Prop):Prop:=
 ∀(pins:PNS) (s:zm) (σ:St) (H:Hp) (x:V) (v vl vu:zd) (lo hi:Option Int) (sl:Addr) (Q:VK),Inv X pins σ H s->o5 x v->s.heap.IsSliceOf sl vl vu .none->IsPart vl lo->IsPart vu hi->r x lo hi H Q->
  ∃T id,typeLookup (.type T) "__getitem__" =pure (some (.builtin id))/\s.TypeIs v T/\zp (zy X.prog X.w) X.A (Yz v (.ref sl)) (EP X pins σ Q) X.xe s
theorem SlR.or(h:SlR X r)(h':SlR X r'):SlR X (λx lo hi H Q=>r x lo hi H Q\/r' x lo hi H Q):=by
 intro pins s σ H x v vl vu lo hi sl Q I rx hs pl pu q;rcases q with q|q
 ·exact h pins s σ H x v vl vu lo hi sl Q I rx hs pl pu q
 ·exact h' pins s σ H x v vl vu lo hi sl Q I rx hs pl pu q
def tSl(r:V->Option Int->Option Int->Hp->VK->Prop)(te:TE)(tl th:TO):TE:=λσ H Q=>te σ H λx H1=>tl σ H1 λl H2=>th σ H2 λu H3=>r x l u H3 Q
theorem dX(hr:SlR X r)(he:PE X e te)(hl:PO X lo tl)(hu:PO X hi th):PE X (.Subscript e (.Slice lo hi none p2) pos) (tSl r te tl th):=by intro pins s σ H Q I h;refine Subscript_ (thn (he pins s σ H _ I h) λv s1 Gc=>Gc.elim λx H1 I1 r1 q1=>?_);refine wpAny_Slice (thn (hl pins s1 σ H1 _ I1 q1) λvl s2 ⟨l,H2,I2,pl,q2⟩=>thn (hu pins s2 σ H2 _ I2 q2) λvu s3 ⟨u,H3,I3,pu,q3⟩=>?_);rw[evalPart_none];refine zl ?_;have I4:Inv X pins σ H3 {s3 with heap:=s3.heap.push {cls:=.type "slice",data:=.fields #[vl,vu,.none]}}:=I3.kept (t':=s3.toks) λb ob q=>zc _ q;obtain⟨T,id,hT,ht,hg⟩:=hr pins {s3 with heap:=s3.heap.push {cls:=.type "slice",data:=.fields #[vl,vu,.none]}} σ H3 x v vl vu l u s3.heap.objs.size Q I4 r1 (Yt ..) pl pu q3;show zp (zy X.prog X.w) X.A (subscriptTail e (.Slice lo hi none p2) v (.ref s3.heap.objs.size)) (EP X pins σ Q) X.xe {s3 with heap:=s3.heap.push {cls:=.type "slice",data:=.fields #[vl,vu,.none]}};exact tail_any (ops:= [.ref s3.heap.objs.size,v]) ht hT hg (by with_unfolding_all rfl)
def E4(xs:List V)(lo hi:Option Int):List V:=(xs.drop (HT.sIx xs.length 0 lo)).take (HT.sIx xs.length xs.length hi-HT.sIx xs.length 0 lo)
theorem bM(xs:List V)(lo hi:Option Int):(E4 xs lo hi).length<=xs.length:=by unfold E4;rw[yI,yJ];lia
def eY(K:ze):V->Option Int->Option Int->Hp->VK->Prop:=λx lo hi H Q=>∃a xs,x= .ref a/\SqT K H a xs/\
 ¬(HT.sIx xs.length 0 lo=0/\HT.sIx xs.length xs.length hi=xs.length)/\∀p,H p=none->Q (.ref p) (upd H p (.tup (E4 xs lo hi)))
theorem sl_tup:SlR X (eY X.K):=by
 intro pins s σ H x v vl vu lo hi sl Q I rx hs pl pu h;obtain⟨a,xs,rfl,hx,hw,q⟩:=h
 cases rx
 obtain⟨Fj,r,ht,hz⟩:=I.tuple hx;have Fp:Fj.toArray.size=xs.length:=by rw[zg];exact r.length.symm
 refine⟨"tuple",_,jj.lookup,ht.typeIs,?_⟩;refine HT.getItem_tuple_cut ht hs pl pu (by rw[Fp];exact hw) ?_ (by rw[Fp];exact hz);rw[Fp];refine⟨.ref s.heap.objs.size,_,I.laid (t':=s.toks) (o:=.tup (E4 xs lo hi)) (λb ob q=>zc _ q) (zh _) ?_,rfl,q _ (I.hok.fresh (zh _))⟩;exact⟨zP (bM xs lo hi) hz,_,(r.drop (HT.sIx xs.length 0 lo)).take (HT.sIx xs.length xs.length hi-HT.sIx xs.length 0 lo),W7.new _ _⟩
def AO(K:ze):R2:=λx y H Q=>∃a b xs ys,x= .ref a/\y= .ref b/\SqT K H a xs/\SqT K H b ys/\xs≠ []/\xs.length+ys.length<=zi/\
 (ys= []->Q (.ref a) H)/\(ys≠ []->∀p,H p=none->Q (.ref p) (upd H p (.tup (xs++ys))))
theorem j7.nil_iff(r:j7 xs us):us= []↔xs= []:=by
 cases r with
 |nil=>simp
 |cons _ _=>simp
theorem IZ:OpR X (jF .Add) (AO X.K):=by
 intro pins s σ H x y v u Q I rx ry h;obtain⟨a,b,xs,ys,rfl,rfl,ha,hb,hx,hz,q1,q2⟩:=h
 cases rx
 cases ry
 obtain⟨Fj,r1,p1,_⟩:=I.tuple ha;obtain⟨Hd,r2,p2,_⟩:=I.tuple hb;refine HT.cat_tup p1 p2 (λz=>hx (r1.nil_iff.mp z)) (λz=>⟨.ref a,H,I,rfl,q1 (r2.nil_iff.mp z)⟩) (λz=>?_) (by rw[<-r1.length,<-r2.length];exact hz);refine⟨.ref s.heap.objs.size,_,I.laid (t':=s.toks) (o:=.tup (xs++ys)) (λb ob q=>zc _ q) (zh _) ?_,rfl,q2 (λw=>z (r2.nil_iff.mpr w)) _ (I.hok.fresh (zh _))⟩;exact⟨by rw[zf];exact hz,_,r1.append r2,W7.new _ _⟩
end
def ixN(n:Nat)(i:Int):Option Nat:=if 0<=i then (if i<n then some i.toNat else none)else if -(n:Int)<=i then some (i+n).toNat else none
def atI{α:Type}(xs:List α)(i:Int):Option α:=(ixN xs.length i).bind λj=>xs[j]?
theorem lL(h:ixN n i=some j):Jj i n=some j/\j<n/\ -(n:Int)<=i/\i<n:=by
 unfold ixN at h;by_cases h0:0<=i
 · rw[if_pos h0]at h;by_cases h1:i<n
   ·rw[if_pos h1]at h;have e:i.toNat=j:=je h;exact⟨by rw[seqIndex_of h0 h1,e],by lia,by lia,h1⟩
   ·rw[if_neg h1]at h;cases h
 · rw[if_neg h0]at h;by_cases h1: -(n:Int)<=i
   ·rw[if_pos h1]at h;have e:(i+n).toNat=j:=je h;exact⟨by rw[JC (by lia) h1,e],by lia,h1,by lia⟩
   ·rw[if_neg h1]at h;cases h
theorem uG(h:atI xs i=some v):∃j,Jj i xs.length=some j/\xs[j]? =some v/\j<xs.length/\ -(xs.length:Int)<=i/\i<xs.length:=by
 unfold atI at h
 cases e:ixN xs.length i with
 |none=>rw[e]at h;cases h
 |some j=>
   rw[e]at h;obtain⟨h1,h2,h3,h4⟩:=lL e;exact⟨j,h1,h,h2,h3,h4⟩
theorem atI_nat{xs:List α}{j:Nat}{v:α}(h:xs[j]? =some v):atI xs (j:Int)=some v:=by
 have hj:j<xs.length:=(yM.mp h).1;have e:ixN xs.length (j:Int)=some j:=by unfold ixN;rw[if_pos (by lia),if_pos (by lia)];simp
 unfold atI;rw[e];exact h
theorem aM(xs:List α)(v:α):atI (xs++[v]) (-1)=some v:=by
 have hl:(xs++[v]).length=xs.length+1:=by simp
 have e:ixN (xs++[v]).length (-1)=some xs.length:=by unfold ixN;rw[hl,if_neg (by decide),if_pos (by lia)];congr 1;lia
 unfold atI;rw[e];show (xs++[v])[xs.length]? =some v;simp
def vC(b:Expr):Prop:=∀o i,subscripted b false o i=operate [o,i] (Yz o i)
def IxR(X:Cx)(r:R2):Prop:=
 ∀(value slice:Expr) (pins:PNS) (s:zm) (σ:St) (H:Hp) (x y:V) (v u:zd) (Q:VK),Inv X pins σ H s->o5 x v->o5 y u->r x y H Q->
  subscripted slice false v u=operate [v,u] (Yz v u)->zp (zy X.prog X.w) X.A (subscriptTail value slice v u) (EP X pins σ Q) X.xe s
def MtR(X:Cx)(id:String)(r:V->List V->Hp->VK->Prop):Prop:=
 ∀(pins:PNS) (s:zm) (σ:St) (H:Hp) (x:V) (xs:List V) (v:zd) (us:List zd) (Q:VK),Inv X pins σ H s->o5 x v->j7 xs us->r x xs H Q->
  zp (zy X.prog X.w) X.A (call (.builtin id) (v::us)) (EP X pins σ Q) X.xe s
section
variable{X:Cx}
theorem IxR.or(h:IxR X r)(h':IxR X r'):IxR X (λx y H Q=>r x y H Q\/r' x y H Q):=by
 intro value slice pins s σ H x y v u Q I rx ry q hs;rcases q with q|q
 ·exact h value slice pins s σ H x y v u Q I rx ry q hs
 ·exact h' value slice pins s σ H x y v u Q I rx ry q hs
theorem MtR.or{id:String}(h:MtR X id r)(h':MtR X id r'):MtR X id (λx xs H Q=>r x xs H Q\/r' x xs H Q):=by
 intro pins s σ H x xs v us Q I rx rs q;rcases q with q|q
 ·exact h pins s σ H x xs v us Q I rx rs q
 ·exact h' pins s σ H x xs v us Q I rx rs q
theorem QV(hr:IxR X r)(ha:PE X a ta)(hb:PE X b tb)(hs:vC b):PE X (.Subscript a b pos) (tOp r ta tb):=by intro pins s σ H Q I h;exact Subscript_ (wH ha hb I h λv u s2 x y H2 I2 rx ry q=>hr a b pins s2 σ H2 x y v u Q I2 rx ry q (hs _ _))
def QO(K:ze):R2:=λx y H Q=>∃p xs i v,x= .ref p/\y= .int i/\SqL K H p xs/\atI xs i=some v/\Q v H
def bT(K:ze):R2:=λx y H Q=>∃p xs i v,x= .ref p/\y= .int i/\SqT K H p xs/\atI xs i=some v/\Q v H
def MZ:R2:=λx y H Q=>∃z i c,x= .str z/\y= .int i/\z.length<=zi/\atI z.cps.toList i=some c/\Q (.str ⟨#[c]⟩) H
theorem BR:IxR X (QO X.K):=by
 intro value slice pins s σ H x y v u Q I rx ry h hs;obtain⟨p,xs,i,z,rfl,rfl,hq,he,q⟩:=h
 cases rx
 obtain⟨t,rfl⟩:=ry;obtain⟨Fj,r,pl,hz⟩:=I.list hq;obtain⟨j,h1,h2,h3,h4,h5⟩:=uG he;obtain⟨w,ew,rw'⟩:=r.get h2;have hl:=r.length;have hn:=c9;have fin:EP X pins σ Q w s:=⟨z,H,I,rw',q⟩;by_cases h0:0<=i
 · have hj:i.toNat=j:=by
    rw[seqIndex_of h0 h5]at h1;exact je h1
   exact item_listR pl.isList h0 (by lia) (by rw[hj];simpa using ew) fin hs
 · have hj:(i+(Fj.toArray.size:Int)).toNat=j:=by
    rw[JC (by lia) h4]at h1;rw[zg,<-hl];exact je h1
   exact Zp (x:=w) pl.isList.typeIs Yy.lookup
    (wpAny_getItem_list_neg (Q:=λr s'=>r=w/\EP X pins σ Q r s') pl.isList (by lia) (by rw[zg]<;>lia) (by lia) (by rw[hj];simpa using ew) ⟨rfl,fin⟩) hs
theorem ix_tup:IxR X (bT X.K):=by
 intro value slice pins s σ H x y v u Q I rx ry h hs;obtain⟨p,xs,i,z,rfl,rfl,hq,he,q⟩:=h
 cases rx
 obtain⟨t,rfl⟩:=ry;obtain⟨Fj,r,pl,hz⟩:=I.tuple hq;obtain⟨j,h1,h2,h3,h4,h5⟩:=uG he;obtain⟨w,ew,rw'⟩:=r.get h2;have hl:=r.length;have hn:=c9;have fin:EP X pins σ Q w s:=⟨z,H,I,rw',q⟩;exact Zp (x:=w) pl.typeIs jj.lookup
  (getItem_tuple (j:=j) (Q:=λr s'=>r=w/\EP X pins σ Q r s') pl (by lia) (by lia) (by rw[zg,<-hl];exact h1) (by simpa using ew) ⟨rfl,fin⟩) hs
theorem lT:IxR X MZ:=by
 intro value slice pins s σ H x y v u Q I rx ry h hs;obtain⟨z,i,c,rfl,rfl,hz,he,q⟩:=h;obtain⟨t,rfl⟩:=rx;obtain⟨t',rfl⟩:=ry;obtain⟨j,h1,h2,h3,h4,h5⟩:=uG he;have hl:z.cps.toList.length=z.length:=by simp[Str.length]
 rw[hl]at h1 h4 h5;have hn:=c9;exact tail_any (Xp s z t) slot_str_getitem.lookup (getItem_str (c:=c) (by have e1:decide (i < -(2 ^ 63:Int))=false:=decide_eq_false (by lia);have e2:decide (i>=2 ^ 63)=false:=decide_eq_false (by lia);rw[e1,e2,Bool.or_false]) (by rw[h1];simpa using h2) ⟨.str ⟨#[c]⟩,H,I.tok _,⟨_,rfl⟩,q⟩) hs
theorem AT(Fj:List zd)(n j:Nat)(u:zd):zO (·.setIfInBounds j u) {cls:=.type "list",data:=.seq Fj.toArray n}= {cls:=.type "list",data:=.seq (Fj.set j u).toArray n}:=by simp[zO]
theorem Inv.lst(I:Inv X pins σ H s)(h:H p=some (.lst xs)):
 ∃(Fj:List zd) (n:Nat),j7 xs Fj/\s.heap.get? p=some {cls:=.type "list",data:=.seq Fj.toArray n}/\xs.length<=zi:=by
 obtain⟨z,Fj,n,r,e⟩:=I.hok p _ h;exact⟨Fj,n,r,e,z⟩
theorem Inv.lstUpd{σ:St}{H:Hp}{s:zm}{p:Addr}{xs ys:List V}{Fj its':List zd}{n n':Nat}{f:Obj->Obj}(I:Inv X pins σ H s)(h:H p=some (.lst xs))
 (ho:s.heap.get? p=some {cls:=.type "list",data:=.seq Fj.toArray n}) (hf:f {cls:=.type "list",data:=.seq Fj.toArray n}= {cls:=.type "list",data:=.seq its'.toArray n'}) (r:j7 ys its') (hz:ys.length<=zi) (t:Nat):
 Inv X pins σ (upd H p (.lst ys)) {s with heap:=s.heap.update p f,toks:=t}:=by
 have e:(s.heap.update p f).get? p=some {cls:=.type "list",data:=.seq its'.toArray n'}:=by rw[Xv f ho (by rw[hf]<;>rfl),hf]
 refine I.write (x:=p) (e:=p) (by rw[h];trivial) (.inl rfl) (λb u hb q=>(Xm _ _ (Ne.symm hb)).trans q) ⟨_,e⟩ ?_;exact⟨hz,its',n',r,e⟩
def QS:V->V->V->Hp->(Hp->Prop)->Prop:=λo i v H Q=>∃p xs k j,o= .ref p/\i= .int k/\H p=some (.lst xs)/\ixN xs.length k=some j/\Q (upd H p (.lst (xs.set j v)))
theorem aY:kH X QS:=by
 intro pins s σ H o i v ov iv u Q I ro ri rv h;obtain⟨p,xs,k,j,rfl,rfl,hp,hj,q⟩:=h
 cases ro
 obtain⟨t,rfl⟩:=ri;obtain⟨Fj,n,r,ho,hz⟩:=I.lst hp;obtain⟨h1,h2,h3,h4⟩:=lL hj;have hl:=r.length;have hn:=c9;have I':Inv X pins σ (upd H p (.lst (xs.set j v))) {s with heap:=s.heap.update p (zO (·.setIfInBounds j u))}:=
  I.lstUpd hp ho (AT Fj n j u) (r.set rv j) (by rw[xk];exact hz) s.toks
 by_cases h0:0<=k
 · have hk:k.toNat=j:=by
    rw[seqIndex_of h0 h4]at h1;exact je h1
   exact PySem.W.ki_setAt ho h0 (by lia) (by rw[zg,<-hl];exact h4) (by rw[hk];exact⟨_,I',q⟩)
 · have hk:(k+(Fj.toArray.size:Int)).toNat=j:=by
    rw[JC (by lia) h3]at h1;rw[zg,<-hl];exact je h1
   exact PySem.W.ki_setBack ho (by lia) (by rw[zg,<-hl];exact h3) (by lia) (by rw[hk];exact⟨_,I',q⟩)
theorem dZ(lo hi:Option Int)(n:Nat):(jZ lo hi none n).1= ((HT.sIx n 0 lo:Nat):Int)/\(jZ lo hi none n).2.1= ((HT.sIx n n hi:Nat):Int)/\(jZ lo hi none n).2.2=1:=by
 refine⟨?_,?_,rfl⟩
 · cases lo with
   |none=>simp[jZ,HT.sIx]
   |some i=>
     simp only[jZ,HT.sIx,Ju,show (1:Int)>0 by decide,if_true];by_cases h:i<0
     ·simp only[h,if_true]<;>lia
     ·simp only[h,if_false]<;>lia
 · cases hi with
   |none=>simp[jZ,HT.sIx]
   |some i=>
     simp only[jZ,HT.sIx,Ju,show (1:Int)>0 by decide,if_true];by_cases h:i<0
     ·simp only[h,if_true]<;>lia
     ·simp only[h,if_false]<;>lia
theorem DY(Fj:List zd)(lo hi:Option Int):Ji Fj.toArray lo hi none= ((Fj.drop (HT.sIx Fj.length 0 lo)).take (HT.sIx Fj.length Fj.length hi-HT.sIx Fj.length 0 lo)).toArray:=by obtain⟨h1,h2,h3⟩:=dZ lo hi Fj.toArray.size;unfold Ji;rw[h1,h2,h3];simp only[sliceRange_one,pick_run,zg]<;>rfl
def lX(K:ze):V->Option Int->Option Int->Hp->VK->Prop:=λx lo hi H Q=>∃a xs,x= .ref a/\SqL K H a xs/\∀p,H p=none->Q (.ref p) (upd H p (.lst (E4 xs lo hi)))
theorem SQ:SlR X (lX X.K):=by
 intro pins s σ H x v vl vu lo hi sl Q I rx hs pl pu h;obtain⟨a,xs,rfl,hx,q⟩:=h
 cases rx
 obtain⟨Fj,r,ht,hz⟩:=I.list hx;have Fp:=r.length;refine⟨"list",_,Yy.lookup,ht.isList.typeIs,?_⟩;refine XW ht.isList hs pl pu .none (by simp) ?_ (by rw[zg]<;>lia);rw[DY,<-Fp];refine⟨.ref s.heap.objs.size,_,I.laid (t':=s.toks) (o:=.lst (E4 xs lo hi)) (λb ob q=>zc _ q) (zh _) ?_,rfl,q _ (I.hok.fresh (zh _))⟩;exact⟨zP (bM xs lo hi) hz,_,0,(r.drop (HT.sIx xs.length 0 lo)).take (HT.sIx xs.length xs.length hi-HT.sIx xs.length 0 lo),zu _ rfl⟩
def S4:V->Bool
 | .non=>true
 | .bl _=>true
 | .int _=>true
 | .str _=>true
 |_=>false
def eqV:V->V->Bool
 | .non,.non=>true
 | .bl a,.bl b=>a==b
 | .bl a,.int b=>(if a then 1 else 0)==b
 | .int a,.bl b=>a==(if b then 1 else 0)
 | .int a,.int b=>a==b
 | .str a,.str b=>a==b
 |_,_=>false
theorem IV(ry:o5 y u)(rx:o5 x v)(fy:S4 y=true)(fx:S4 x=true):jp A s u v (eqV y x):=by
 cases y with
 |non=>
   cases ry
   cases x with
   |non=>cases rx;exact ZC _
   |bl b=>cases rx;exact YF b
   |int b=>obtain⟨t,rfl⟩:=rx;exact YS b t
   |str b=>obtain⟨t,rfl⟩:=rx;exact YR b t
   |_=>exact absurd (show false=true from fx) zv
 |bl a=>
   cases ry
   cases x with
   |non=>cases rx;exact YG a
   |bl b=>cases rx;exact YH a b
   |int b=>obtain⟨t,rfl⟩:=rx;exact YW a b t
   |str b=>obtain⟨t,rfl⟩:=rx;exact YV a b t
   |_=>exact absurd (show false=true from fx) zv
 |int a=>
   obtain⟨t',rfl⟩:=ry
   cases x with
   |non=>cases rx;exact YT a t'
   |bl b=>cases rx;exact YU a t' b
   |int b=>obtain⟨t,rfl⟩:=rx;exact Xc a t' b t
   |str b=>obtain⟨t,rfl⟩:=rx;exact Ze a t' b t
   |_=>exact absurd (show false=true from fx) zv
 |str a=>
   obtain⟨t',rfl⟩:=ry
   cases x with
   |non=>cases rx;exact YO a t'
   |bl b=>cases rx;exact YQ a t' b
   |int b=>obtain⟨t,rfl⟩:=rx;exact Zd a t' b t
   |str b=>obtain⟨t,rfl⟩:=rx;exact Xb a t' b t
   |_=>exact absurd (show false=true from fx) zv
 |_=>exact absurd (show false=true from fy) zv
def eqU(x:V)(u:zd):Bool:=match u with
 | .none=>eqV .non x
 | .bool b=>eqV (.bl b) x
 | .int i _=>eqV (.int i) x
 | .str z _=>eqV (.str z) x
 |_=>false
theorem GJ(r:o5 y u)(f:S4 y=true):eqU x u=eqV y x:=by
 cases y with
 |non=>cases r;rfl
 |bl b=>cases r;rfl
 |int i=>obtain⟨t,rfl⟩:=r;rfl
 |str z=>obtain⟨t,rfl⟩:=r;rfl
 |_=>exact absurd (show false=true from f) zv
theorem eE(h:j7 xs us)(f:xs.all S4=true):us.any (eqU x)=xs.any λy=>eqV y x:=by
 induction h with
 |nil=>rfl
 |cons r t ih=>
   rw[jP,jl]at f;rw[jO,jO,GJ r f.1,ih f.2]
theorem gC(rx:o5 x v)(fx:S4 x=true):∀ {xs} {us},j7 xs us->xs.all S4=true->∀u∈us,jp A s u v (eqU x u)
 |_,_,.nil,_=>λu hu=>by cases hu
 |y::xs,u::us,.cons r t,f=>λu' hu=>by
   rw[jP,jl]at f;rcases zz.mp hu with rfl|hu
   ·rw[GJ r f.1];exact IV r rx f.1 fx
   ·exact gC rx fx t f.2 u' hu
def inV(x:V)(xs:List V):Bool:=xs.any λy=>eqV y x
def rIn(K:ze)(neg:Bool):R2:=λx y H Q=>∃p xs,y= .ref p/\(SqL K H p xs\/SqT K H p xs)/\S4 x=true/\xs.all S4=true/\Q (.bl (if neg then !inV x xs else inV x xs)) H
theorem HW:OpR X (zH .In) (rIn X.K false):=by
 intro pins s σ H x y v u Q I rx ry h;obtain⟨p,xs,rfl,hq,fx,fs,q⟩:=h
 cases ry
 rcases hq with hq|hq
 ·obtain⟨Fj,r,pl,hz⟩:=I.list hq;refine JR (eqU x) pl.isList (λw hw=>gC rx fx r fs w (by simpa using hw)) ⟨.bl _,H,I,rfl,?_⟩;rw[show Fj.toArray.any (eqU x)=Fj.any (eqU x) by simp,eE r fs];exact q
 ·obtain⟨Fj,r,pl,hz⟩:=I.tuple hq;refine JK (eqU x) pl (λw hw=>gC rx fx r fs w (by simpa using hw)) ⟨.bl _,H,I,rfl,?_⟩;rw[show Fj.toArray.any (eqU x)=Fj.any (eqU x) by simp,eE r fs];exact q
theorem OY:OpR X (zH .NotIn) (rIn X.K true):=by
 intro pins s σ H x y v u Q I rx ry h;obtain⟨p,xs,rfl,hq,fx,fs,q⟩:=h
 cases ry
 rcases hq with hq|hq
 ·obtain⟨Fj,r,pl,hz⟩:=I.list hq;refine Ja (eqU x) pl.isList (λw hw=>gC rx fx r fs w (by simpa using hw)) ⟨.bl _,H,I,rfl,?_⟩;rw[show Fj.toArray.any (eqU x)=Fj.any (eqU x) by simp,eE r fs];exact q
 ·obtain⟨Fj,r,pl,hz⟩:=I.tuple hq;refine XJ (eqU x) pl (λw hw=>gC rx fx r fs w (by simpa using hw)) ⟨.bl _,H,I,rfl,?_⟩;rw[show Fj.toArray.any (eqU x)=Fj.any (eqU x) by simp,eE r fs];exact q
theorem qd:OpR X (zH .NotIn) (λx y H Q=>∃i j,x= .str i/\y= .str j/\Q (.bl (!(!(xr j i 0 j.length 1).isEmpty))) H):=by intro pins s σ H x y v u Q I rx ry h;obtain⟨i,j,rfl,rfl,q⟩:=h;obtain⟨t,rfl⟩:=rx;obtain⟨t',rfl⟩:=ry;exact notIn_str ⟨.bl _,H,I,rfl,q⟩
theorem sP:N7 X (.builtin "len") (λxs H Q=>∃p ys,xs= [.ref p]/\(SqL X.K H p ys\/SqT X.K H p ys)/\Q (.int ys.length) H):=by
 intro pins s σ H xs us Q I r h;obtain⟨p,ys,rfl,hq,q⟩:=h;obtain⟨u,rfl,rx⟩:=W2 r
 cases rx
 have hn:=c9;rcases hq with hq|hq
 ·obtain⟨Fj,r',pl,hz⟩:=I.list hq;have Fp:=r'.length;exact Calls.call_len_list pl.isList (by simp only[zg]<;>lia) ⟨.int ys.length,H,I.tok _,⟨s.toks+1,by rw[zg,Fp]⟩,q⟩
 ·obtain⟨Fj,r',pl,hz⟩:=I.tuple hq;have Fp:=r'.length;exact len_tuple pl (by simp only[zg]<;>lia) ⟨.int ys.length,H,I.tok _,⟨s.toks+1,by rw[zg,Fp]⟩,q⟩
theorem vV:N7 X (.builtin "len") (λxs H Q=>∃z,xs= [.str z]/\z.length<=zi/\Q (.int z.length) H):=by intro pins s σ H xs us Q I r h;obtain⟨z,rfl,hz,q⟩:=h;obtain⟨u,rfl,t,rfl⟩:=W2 r;have hn:=c9;exact len_str (by lia) ⟨.int z.length,H,I.tok _,⟨_,rfl⟩,q⟩
theorem N7.or(h:N7 X f r)(h':N7 X f r'):N7 X f (λxs H Q=>r xs H Q\/r' xs H Q):=by
 intro pins s σ H xs us Q I rs q;rcases q with q|q
 ·exact h pins s σ H xs us Q I rs q
 ·exact h' pins s σ H xs us Q I rs q
theorem CP:N7 X (.type "list") (λxs H Q=>∃p ys,xs= [.ref p]/\(SqL X.K H p ys\/SqT X.K H p ys)/\∀l,H l=none->Q (.ref l) (upd H l (.lst ys))):=by
 intro pins s σ H xs us Q I r h;obtain⟨p,ys,rfl,hq,q⟩:=h;obtain⟨u,rfl,rx⟩:=W2 r
 cases rx
 have fin:∀(Fj:List zd),j7 ys Fj->ys.length<=zi->∀(h':Heap) (c':Nat),(∀b o',s.heap.get? b=some o'->h'.get? b=some o')->
  h'.get? s.heap.objs.size=some {cls:=.type "list",dict:=none,data:=.seq Fj.toArray c',slots:= #[]}->EP X pins σ Q (.ref s.heap.objs.size) {s with heap:=h'}:=λFj r' hz h' c' kp e=>
  ⟨.ref s.heap.objs.size,_,I.laid (t':=s.toks) kp (zh _) (show K5 X.prog X.w _ h' _ (.lst ys) from⟨hz,Fj,c',r',e⟩),rfl,q _ (I.hok.fresh (zh _))⟩
 rcases hq with hq|hq
 ·obtain⟨Fj,r',pl,hz⟩:=I.list hq;have Fp:=r'.length;obtain⟨o,ho,hc,n,hd⟩:=pl.isList;exact call_list_seq p (.inl rfl) ho hc hd (λh' c' kp e=>fin Fj r' hz h' c' kp e) (by simp only[zg]<;>lia)
 ·obtain⟨Fj,r',pl,hz⟩:=I.tuple hq;have Fp:=r'.length;obtain⟨o,ho,hc,n,hd⟩:=pl;exact call_list_seq p (.inr rfl) ho hc hd (λh' c' kp e=>fin Fj r' hz h' c' kp e) (by simp only[zg]<;>lia)
theorem TW:N7 X (.type "tuple") (λxs H Q=>∃p ys,xs= [.ref p]/\((SqL X.K H p ys/\∀l,H l=none->Q (.ref l) (upd H l (.tup ys)))\/(SqT X.K H p ys/\Q (.ref p) H))):=by
 intro pins s σ H xs us Q I r h;obtain⟨p,ys,rfl,h⟩:=h;obtain⟨u,rfl,rx⟩:=W2 r
 cases rx
 rcases h with⟨hq,q⟩|⟨hq,q⟩
 · obtain⟨Fj,r',pl,hz⟩:=I.list hq;have Fp:=r'.length;refine call_tuple_list pl.isList (λh' kp=>?_) (by simp only[zg]<;>lia);have I1:Inv X pins σ H {s with heap:=h'}:=I.kept (t':=s.toks) kp;have I2:Inv X pins σ (upd H h'.objs.size (.tup ys)) {s with heap:=h'.push {cls:=.type "tuple",data:=.seq Fj.toArray}}:=
    I1.laid (t':=s.toks) (λb o e=>zc _ e) (zh _) (show K5 X.prog X.w _ _ _ (.tup ys) from⟨hz,Fj,r',W7.new _ _⟩)
   exact⟨.ref h'.objs.size,_,I2,rfl,q _ (I1.hok.fresh (zh _))⟩
 ·obtain⟨Fj,r',pl,hz⟩:=I.tuple hq;exact call_tuple_same pl ⟨.ref p,H,I,rfl,q⟩
def tyV(K:ze)(T:String)(x:V)(H:Hp):Prop:=match x with
 | .str _=>T= "str"
 | .int _=>T= "int"
 | .ref p=>(T= "list"/\∃xs,SqL K H p xs)\/(T= "tuple"/\∃o,K.lookup p=some o/\o.cls= .type "tuple"/\o.dict=none)\/
    (T= "dict"/\((∃Fk,H p=some (.dK Fk))\/∃Fk,H p=some (.dT Fk)))\/(T= "set"/\∃S n,H p=some (.set S n))
 |_=>False
theorem kP(I:Inv X pins σ H s)(r:o5 x v)(ty:tyV X.K T x H):
 s.TypeIs v T/\∀a,v= .ref a->∃ob,s.heap.get? a=some ob/\ob.dict=none:=by
 cases x with
 |str z=>
   obtain⟨t,rfl⟩:=r
   cases (show T= "str" from ty)
   exact⟨Xp s z t,λ_ e=>nomatch e⟩
 |int i=>
   obtain⟨t,rfl⟩:=r
   cases (show T= "int" from ty)
   exact⟨typeIs_int s i t,λ_ e=>nomatch e⟩
 |ref p=>
   cases r
   rcases ty with⟨rfl,xs,hq⟩|⟨rfl,o,hk,hc,hd⟩|⟨rfl,hk⟩|⟨rfl,S,n,hk⟩
   · obtain⟨Fj,_,pl,_⟩:=I.list hq;refine⟨pl.isList.typeIs,λa e=>?_⟩
     cases e
     obtain⟨o,n,e,c,hd,_⟩:=pl;exact⟨o,e,hd⟩
   · refine⟨⟨o,I.kIn p o hk,hc⟩,λa e=>?_⟩
     cases e
     exact⟨o,I.kIn _ o hk,hd⟩
   · have z:∃o,s.heap.get? p=some o/\o.ExactDict:=by
      rcases hk with⟨Fk,hk⟩|⟨Fk,hk⟩
      ·obtain⟨_,_,_,_,o,_,_,e,ex,_⟩:=I.hok p _ hk;exact⟨o,e,ex⟩
      ·obtain⟨_,_,_,_,o,_,_,e,ex,_⟩:=I.hok p _ hk;exact⟨o,e,ex⟩
     obtain⟨o,e,ex⟩:=z;refine⟨⟨o,e,ex.1⟩,λa e2=>?_⟩
     cases e2
     exact⟨o,e,ex.2.1⟩
   · obtain⟨o,_,_,_,e,ex,_⟩:=I.hok p _ hk;refine⟨⟨o,e,ex.1⟩,λa e2=>?_⟩
     cases e2
     exact⟨o,e,ex.2.1⟩
 |_=>exact jS ty
def tBM(K:ze)(T:String)(r:V->List V->Hp->VK->Prop)(to:TE)(t:TA):TE:=λσ H Q=>to σ H λx H1=>tyV K T x H1/\t σ H1 λxs H2=>r x xs H2 Q
variable{o e:Expr}{es:List Expr}{to:TE}{t:TA}{name:Str}{Gq Fz:Pos}{T id:String}{r:V->List V->Hp->VK->Prop}
theorem PK(pa:PlainAttrs T)(slot:Slot T name id)(hty:typeOf (.builtin id)=pure (.type "method_descriptor"))(hm:MtR X id r)(ho:PE X o to)(ha:PA X (e::es) t)
 (hbase:xW o name X.env (eval o X.env)=eval o X.env)
 (hfew:((yA Fz (zF (e::es) X.env)).all (λx=> !x.1)&&(Xt Fz (ZI [] X.env)).all (λx=>x.1.isSome)
   && decide ((e::es).length+([]:List Keyword).length+(if ([]:List Keyword).isEmpty then 0 else 1)<30))=true)
 (hline:(Gq.endLine==Fz.line)=true) (hs:zF (e::es) X.env= (false,eval e X.env)::zF es X.env) (Gw:(yA Fz (zF es X.env)).any (·.1)=false):
 PE X (.Call (.Attribute o name Gq) (e::es) [] Fz) (tBM X.K T r to t):=by
 intro pins s σ H Q I h;refine wpAny_Call_method_late hbase hfew hline rfl (thn (ho pins s σ H _ I h) λv s1 ⟨x,H1,I1,r1,ty,q1⟩=>?_);obtain⟨h1,h2⟩:=kP I1 r1 ty;refine⟨T,id,pa,slot,hty,h1,h2,?_⟩;have hA:=ha Fz pins s1 σ H1 _ I1 q1;rw[hs]at hA ⊢;refine Calls.callWith_builtin (by show (false||(yA Fz (zF es X.env)).any (·.1))=false;rw[Gw]<;>rfl) (Calls.evalArgs_plain ?_);exact thn hA λus s2 Gc=>Gc.elim λvs H2 I2 r2 q2=>hm pins s2 σ H2 x vs v us Q I2 r1 r2 q2
end
def MtM(X:Cx)(id:String)(r:V->List V->Hp->VK->Prop):Prop:=
 ∀(pins:PNS) (s:zm) (σ:St) (H:Hp) (x:V) (xs:List V) (v:zd) (us:List zd) (Q:VK),Inv X pins σ H s->o5 x v->j7 xs us->r x xs H Q->
  zp (zy X.prog X.w) X.A (call (.builtin id) (v::us)) (EP X pins σ Q) X.xe s
theorem j7.one(h:j7 [x] us):∃u,us= [u]/\o5 x u:=by
 cases h with
 |cons r t=>cases t;exact⟨_,rfl,r⟩
theorem j7.two(h:j7 [x,y] us):∃u v,us= [u,v]/\o5 x u/\o5 y v:=by
 cases h with
 |cons r t=>
   obtain⟨v,rfl,q⟩:=j7.one t;exact⟨_,v,rfl,r,q⟩
theorem j7.eraseIdx:∀ {xs} {us} i,j7 xs us->j7 (xs.eraseIdx i) (us.eraseIdx i)
 |_,_,_,.nil=>.nil
 |_,_,0,.cons _ t=>t
 |_,_,i+1,.cons r t=>.cons r (j7.eraseIdx i t)
theorem j7.reverse(h:j7 xs us):j7 xs.reverse us.reverse:=by
 induction h with
 |nil=>exact .nil
 |cons r t ih=>rw[ZR,ZR];exact j7.append ih (.cons r .nil)
theorem SM:∀(l:List α) (i:Nat),(l.eraseIdx i).length<=l.length
 |[],_=>zh _
 |_::_,0=>Nat.le_succ _
 |_::r,i+1=>Nat.succ_le_succ (SM r i)
section
theorem Inv.lset{Fj its':List zd}{n:Nat}{t':Nat}(I:Inv X pins σ H s)(hH:H l=some (.lst xs))
 (e:s.heap.get? l=some {cls:=.type "list",data:=.seq Fj.toArray n}) (hf:f Fj.toArray=its'.toArray) (hv:j7 ys its') (hz:ys.length<=zi):
 Inv X pins σ (upd H l (.lst ys)) {s with heap:=s.heap.update l (zO f),toks:=t'}:=by
 have q:=PySem.IsL.update e f;rw[hf]at q;refine I.write (x:=l) (e:=l) (by rw[hH];exact trivial) (.inl rfl) (λb' u hb hu=>(Xm s.heap (zO f) (Ne.symm hb)).trans hu) ⟨_,q⟩ ?_;exact⟨hz,its',_,hv,q⟩
theorem Inv.lnew(I:Inv X pins σ H s)(hv:j7 ys Fj)(hz:ys.length<=zi):
 Inv X pins σ (upd H s.heap.objs.size (.lst ys)) {s with heap:=s.heap.push {cls:=.type "list",data:=.seq Fj.toArray},toks:=t'}:=
 I.laid (λ_ _ q=>zc _ q) (zh _) ⟨hz,Fj,0,hv,zu _ rfl⟩
theorem Inv.fresh(I:Inv X pins σ H s):H s.heap.objs.size=none:=I.hok.fresh (zh _)
theorem Inv.lstM(I:Inv X pins σ H s)(hH:H l=some (.lst xs)):xs.length<=zi/\∃(Fj:List zd) (n:Nat),j7 xs Fj/\xs.length=Fj.length/\s.heap.get? l=some {cls:=.type "list",data:=.seq Fj.toArray n}:=by obtain⟨z,Fj,n,r,e⟩:=I.hok l _ hH;exact⟨z,Fj,n,r,r.length,e⟩
end
section
def qw:V->List V->Hp->VK->Prop:=λx vs H Q=>∃l xs y,x= .ref l/\vs= [y]/\H l=some (.lst xs)/\xs.length<zi/\Q .non (upd H l (.lst (xs++[y])))
theorem mL:MtM X "list.append" qw:=by
 intro pins s σ H x vs v us Q I rx rv h;obtain⟨l,xs,y,rfl,rfl,hH,hz,q⟩:=h
 cases rx
 obtain⟨u,rfl,ru⟩:=rv.one;obtain⟨z,Fj,n,r,hl,e⟩:=I.lstM hH;refine call_meets Xw ⟨_,e,rfl⟩ F.entry_list_append (F.args_list_append_2 _ _) (PySem.list_append l Fj.toArray n u (by rw[zg];lia)) ⟨e,?_⟩;refine⟨.non,_,I.lset (its':=Fj++[u]) hH e (by simp) (r.append (.cons ru .nil)) ?_,rfl,q⟩;rw[zf,yy];lia
def IR:V->List V->Hp->VK->Prop:=λx vs H Q=>∃l xs i k y,x= .ref l/\vs= [.int i]/\H l=some (.lst xs)/\ -(2 ^ 63)<=i/\i<2 ^ 63/\Jj i xs.length=some k/\xs[k]? =some y/\Q y (upd H l (.lst (xs.eraseIdx k)))
theorem VY:MtM X "list.pop" IR:=by
 intro pins s σ H x vs v us Q I rx rv h;obtain⟨l,xs,i,k,y,rfl,rfl,hH,h1,h2,hk,hy,q⟩:=h
 cases rx
 obtain⟨u,rfl,ru⟩:=rv.one;obtain⟨t,rfl⟩:=ru;obtain⟨z,Fj,n,r,hl,e⟩:=I.lstM hH;obtain⟨w,hw,rw'⟩:=r.get hy;refine call_meets Jt ⟨_,e,rfl⟩ F.entry_list_pop (F.args_list_pop_2 _ _)
  (MeetsSeq.list_pop_at l Fj.toArray n i t k w (fitsIndex_both h1 h2) (by rw[zg,<-hl];exact hk) (by rw[<-js];exact hw) (by rw[zg];lia)) ⟨e,?_⟩
 refine⟨y,_,I.lset (its':=Fj.eraseIdx k) hH e ?_ (r.eraseIdx k) ?_,rw',q⟩
 ·show Fj.toArray.eraseIdxIfInBounds k= (Fj.eraseIdx k).toArray;rw[List.eraseIdxIfInBounds_toArray]
 ·have:=SM xs k;lia
def FU:R2:=λx y H Q=>∃l b xs zs,x= .ref l/\y= .ref b/\H l=some (.lst xs)/\H b=some (.lst zs)/\xs.length+zs.length<=zi/\∀p,H p=none->Q (.ref p) (upd H p (.lst (xs++zs)))
theorem IW:OpR X (jF .Add) FU:=by
 intro pins s σ H x y v u Q I rx ry h;obtain⟨l,b,xs,zs,rfl,rfl,hH,hB,hz,q⟩:=h
 cases rx
 cases ry
 obtain⟨z,Fj,n,r,hl,e⟩:=I.lstM hH;obtain⟨z2,Hd,n2,r2,Hb,e2⟩:=I.lstM hB;refine PySem.P.add_list e e2 ?_ (by rw[zg,zg];lia);have ea:Fj.toArray++Hd.toArray= (Fj++Hd).toArray:=by simp
 rw[ea];exact⟨.ref _,_,I.lnew (t':=s.toks) (r.append r2) (by rw[zf];lia),rfl,q _ I.fresh⟩
end
section
end
section
end
end L2
namespace Att
open PySem PySem.W PySem.Calls PyProof.Rows
theorem tP:∀ns vs,WellAll P h vs (ns.map WData.int)->IntsAre vs ns:=by
 intro ns
 induction ns with
 |nil=>
   intro vs w;rw[xp]at w
   cases w
   exact .nil
 |cons n ns ih=>
   intro vs w;rw[zN]at w
   cases w with
   |cons a b=>
     cases a
     exact .cons _ _ (ih _ b)
theorem cR{l:OpenLaw}{n:Nat}(hn:l.most=some n){P:Params}{h:Heap}
 (hpre:l.row.toRowW.claim.pre args=true) (hwl:WellAll P h vals args):
 ∃a vs ns,vals= [Value.ref a]/\args= [WData.list (ns.map WData.int)]/\h.get? a=some {cls:=.type "list",data:=.seq vs.toArray}/\IntsAre vs ns/\ns.length<=n:=by
 have hsh:WShape.hasAll [] args [.list .int]=true:=(pre_splitW hpre).1;have hc:l.pre.holds [] {args:=args}=true:=(pre_splitW hpre).2;obtain⟨d,r,rfl,h1,h2⟩:=hasAllW_cons hsh;obtain rfl:=hasAllW_nil h2;obtain⟨xs,rfl,h3⟩:=hasW_list h1;obtain⟨ns,rfl⟩:=items_int h3;have Fp:ns.length<=n:=by
  unfold OpenLaw.pre at hc;have h4:(WTm.not (.lt (.lit (.int (n:Int))) (.len (.arg 0)))).holds [] {args:= [.list (ns.map .int)]}=true:=by have h4:=(holds_andW hc).1;rw[hn]at h4;exact h4
  have h5:=condW_of h4 (w_not (w_lt w_lit (w_len_list (w_arg rfl))));rw[zn]at h5;refine Nat.le_of_not_lt λq=>?_;have q':(n:Int)<((ns.length:Nat):Int):=by lia
  first
   |(rw[decide_eq_true q']at h5;exact absurd h5 (by decide))
   |(simp at h5;lia)
 cases hwl with
 |cons w1 w2=>
   cases w2
   cases w1 with
   |list ho hall=>exact⟨_,_,ns,rfl,rfl,ho,tP ns _ hall,Fp⟩
theorem UZ(l:OpenLaw)(args:List WData):l.row.toRowW.claim.post args (.bool true) args=true:=
 postW_of (r:=l.row.toRowW) (X:=(true==true))
  (show WShape.has [] (.bool true) .bool=true by first|rfl|decide|simp[WShape.has,WShape.arms,WShape.armsAll])
  (show (WTm.eq .res (.lit (.bool true))).value [] {args:=args,res:=some (.bool true),after:=args}=some (.bool (true==true))from w_eq_bool (w_res rfl) w_lit) rfl
theorem attach_call{l:OpenLaw}{n:Nat}{q:zI}{loose:List Str}{d:DefRec}
 (hn:l.most=some n) (hdf:d.params.defaults= [])
 (call:∀(w:zR) (WX W1:zm) (mg mb:Str->Option zd) (fa:Addr) (o:Obj) (pm cd doc:zd) (a:Addr) (vs:List zd) (ns:List Int),
   Ground q loose [] XP w WX mg mb W1.heap->YP w W1.heap->
   W1.heap.get? fa=some o->o.data= .func (docDef d.name d.params d.body d.scope pm cd doc)->W1.heap.CodeRec cd d.name->mg d.name=some (.ref fa)->
   W1.heap.get? a=some {cls:=.type "list",data:=.seq vs.toArray}->IntsAre vs ns->ns.length<=n->W1.gens= #[]->
   YA (zy l.prog w) ZO (.call (.ref fa) ⟨[.ref a], []⟩) (λr s'=>r= .ok (.ret (.bool true))/\OldK W1.heap s'.heap/\s'.os=W1.os/\ZQ s'.gens) W1):
 WalkO q loose XP YP l.row.toRowW d [] (λf vs=>XY f vs):=by
 intro w WX W1 mg mb G Y fa o pm cd doc dV kV ho hd hcd hD hmg hg args vals as hpre hlay hrd hwl hlo;obtain rfl:dV= .none:=Dflts.none hD hdf;obtain rfl:kV= .none:=Dflts.noKw hD;obtain⟨a,vs,ns,rfl,rfl,hobj,hints,Fp⟩:=cR hn hpre hwl;refine enter_call (JG (call w WX W1 mg mb fa o pm cd doc a vs ns G Y ho (fd_plain hd) hcd hmg hobj hints Fp hg) λr s' hq=>?_);obtain⟨rfl,h2,h3,h4⟩:=hq;exact⟨.inl ⟨.bool true,.bool true, [],rfl,λ_=>rfl,.bool true,UZ l _,λ_=>⟨List.Pairwise.nil,λ_ hm=>(nomatch hm)⟩⟩,h2,h3,h4⟩
section
variable{prog:zI}{w:zR}{A:jb}{s:zm}{K:Frag}
end
end Att
namespace L2
open PySem PySem.Spec PyProof.Rows
theorem cK:∀ {vs} {ns},IntsAre vs ns->j7 (ns.map V.int) vs
 |_,_,.nil=>.nil
 |_,_,.cons n t h=>.cons ⟨t,rfl⟩ (cK h)
def HD(H:Hp):Prop:=∀b,H b=none\/∃o xs,H b=some (.frz o (.lst xs))
theorem iQ{P:zI}{w:zR}{K:ze}{CX:CXT}{k:Nat}{fa a:Addr}{fd:yF}{x:Str}{sp:Sp}{W1:zm}{vs:List zd}{ns:List Int}
 (KX:K.In W1.heap) (hns:W1.heap.Ns zZ mg) (hb:W1.heap.Ns builtinsNs mb) (hbb:∀x:Str,x≠ "__name__"->mb x=zK x) (hlim:W1.heap.NoLimit) (hg:W1.gens= #[])
 (ha:W1.heap.get? a=some {cls:=.type "list",data:=.seq vs.toArray}) (hi:IntsAre vs ns) (hl:ns.length<=zi) (hr:K8 k ZO)
 (F:∀base:Heap,K.In base->base.Ns zZ mg->V1 P w K mg base CX k fa fd [x] sp) (hbind:∀(s:zm) (u:zd),Zo s fd ⟨[u], []⟩ [(x,u)])
 (hsp:∀H:Hp,HD H->SqL K H a (ns.map V.int)->sp [.ref a] H (λv _=>v= .bl true) λ_ _ _=>False)
 (hCX:∀H e s',CX [] H W1 (λ_ _ _=>False) e s'->False):
 YA (zy P w) ZO (.call (.ref fa) ⟨[.ref a], []⟩) (λr s'=>r= .ok (.ret (.bool true))/\OldK W1.heap s'.heap/\s'.os=W1.os/\ZQ s'.gens) W1:=by
 have rv:=cK hi;have lenV:=hi.length
 -- from an abstract heap in which nothing but the script may be tracked
 have core:∀H:Hp,HD H->SqL K H a (ns.map V.int)->HOk P w H W1.heap->(∀b,H b≠none->b=a)->(H a≠none->K.lookup a=none)->
  YA (zy P w) ZO (.call (.ref fa) ⟨[.ref a], []⟩) (λr s'=>r= .ok (.ret (.bool true))/\OldK W1.heap s'.heap/\s'.os=W1.os/\ZQ s'.gens) W1:=by
  intro H hO hS hok hA hK;have base_of:∀ {b:Addr} {o:Obj},W1.heap.get? b=some o->H b=none->(F6 W1.heap H).get? b=some o:=λe n=>QU e n;have noA:∀ {b:Addr} {o:Obj} {es:Array DictEntry} {ep:Nat},W1.heap.get? b=some o->o.data= .dict es ep->H b=none:=λ{b o es ep} e d=>by
   cases q:H b with
   |none=>rfl
   |some u=>
     have e':b=a:=hA b (by rw[q];simp);subst e';rw[ha]at e;cases e;have d':Data.seq vs.toArray _=Data.dict es ep:=d
     cases d'
  have nsK:∀ {b:Addr} {m:Str->Option zd},W1.heap.Ns b m->(F6 W1.heap H).Ns b m:=λ{b m} ⟨o,es,ep,e,d,r⟩=>⟨o,es,ep,base_of e (noA e d),d,r⟩;have hKb:K.In (F6 W1.heap H):=λb o e=>base_of (KX b o e) (by
   cases q:H b with
   |none=>rfl
   |some u=>
     have e':b=a:=hA b (by rw[q];simp);subst e';rw[hK (by rw[q];simp)]at e;cases e)
  have hM:Mod K mg (F6 W1.heap H):=⟨hKb,nsK hns,⟨mb,nsK hb,hbb⟩,let ⟨mc,h1,h2⟩:=hlim;⟨mc,nsK h1,h2⟩⟩;have e0:N9 P w K mg (F6 W1.heap H) ZO [] W1 H:=⟨rfl,hM,λb o e=>FO e,Ya (vZ _ _),trivial,λb hb=>absurd (show b∈([]:List Addr)from hb) (by simp),hok,.of_eq hg⟩;refine JG ((F _ hKb (nsK hns)).run ZO [] W1 H ⟨[.ref a], []⟩ [.ref a] [.ref a] _ _ hr e0 (hbind W1 (.ref a)) (.cons rfl .nil) (hsp H hO hS)) λr s' h=>?_
  cases r with
  |error e=>exact(hCX H e s' h).elim
  |ok fl=>
    cases fl with
    |next=>exact jS h
    |brk=>exact jS h
    |cont=>exact jS h
    |ret u=>
      obtain⟨v,H',os,bare,un,hok',r',q⟩:=h;have q':v= .bl true:=q;subst q';obtain rfl:u=Value.bool true:=r';refine⟨rfl,OldK.of_keep λb o e=>?_,os,bare⟩
      cases q:H b with
      |none=>exact un.keep b o e q (by intro z;exact absurd (show b∈([]:List Addr)from z) (by simp)) (by simp)
      |some u=>
        rcases hO b with z|⟨ob,xs,z⟩
        ·rw[q]at z;cases z
        ·have z2:=un.frzs b ob _ z;obtain⟨e1,_⟩:=hok b _ z;obtain⟨e2,_⟩:=hok' b _ z2;rw[e]at e1;cases e1;exact e2
 cases hk:K.lookup a with
 |some o=>
   -- the script is one of the module's own objects
   have e:=KX a o hk;rw[ha]at e
   cases e
   refine core (λ_=>none) (λ_=>.inl rfl) (.inr ⟨_,vs.toArray,_,hk,rfl,rfl,rfl,by rw[zg,lenV];exact hl,by simpa using rv⟩) (λb u z=>by have z':(none:Option HO)=some u:=z;cases z') (λb z=>absurd rfl z) λz=>absurd rfl z
 |none=>
   refine core (λb=>if b=a then some (.frz {cls:=.type "list",data:=.seq vs.toArray} (.lst (ns.map V.int)))else none) (λb=>?_) (.inl (.inr ⟨{cls:=.type "list",data:=.seq vs.toArray},if_pos rfl⟩)) (λb u z=>?_) (λb z=>?_) λ_=>hk
   · by_cases hb:b=a
     ·exact .inr ⟨_,_,if_pos hb⟩
     ·exact .inl (if_neg hb)
   · by_cases hb:b=a
     · have z':=(if_pos hb).symm.trans z
       cases z'
       subst hb;exact⟨ha,by rw[zn];exact hl,vs,_,rv,ha⟩
     · have z':=(if_neg hb).symm.trans z
       cases z'
   · by_cases hb:b=a
     ·exact hb
     ·exact absurd (if_neg hb) z
theorem walk_of{l:PySem.W.OpenLaw}{n k:Nat}{q:zI}{loose:List Str}{YP:zR->Heap->Prop}{d:DefRec}{K:Params->ze}{CX:zR->CXT}{sp:zR->Sp}{x:Str}
 (hn:l.most=some n) (hn2:n<=zi) (hdf:d.params.defaults= []) (hr:K8 k ZO)
 (hY:∀(w:zR) (h:Heap),YP w h->(K w.params).In h)
 (F:∀(w:zR) (mg:Str->Option zd) (fa:Addr) (h:Heap),(K w.params).In h->h.Ns zZ mg->mg d.name=some (.ref fa)->
   ∃fd:yF,(∀(s:zm) (u:zd),Zo s fd ⟨[u], []⟩ [(x,u)])/\
    ∀base:Heap,(K w.params).In base->base.Ns zZ mg->V1 l.prog w (K w.params) mg base (CX w) k fa fd [x] (sp w))
 (hsp:∀(w:zR) (H:Hp) (a:Addr) (ns:List Int),ns.length<=n->HD H->SqL (K w.params) H a (ns.map V.int)->sp w [.ref a] H (λv _=>v= .bl true) λ_ _ _=>False)
 (hCX:∀(w:zR) (H:Hp) (s:zm) (e:zd) (s':zm),CX w [] H s (λ_ _ _=>False) e s'->False):
 JQ q loose XP YP l.row.toRowW d [] (λf vs=>XY f vs):=by
 refine Att.attach_call hn hdf λw WX W1 mg mb fa o pm cd doc a vs ns G Y ho hd hcd hmg hobj hints Fp hg=>?_;have KX:=hY w _ Y;obtain⟨fd,hb,hF⟩:=F w mg fa _ KX G.T.g hmg;exact iQ KX G.T.g G.T.b G.T.builtins G.T.nolimit hg hobj hints (zP Fp hn2) hr hF hb (λH hO hS=>hsp w H a ns Fp hO hS) λH e s'=>hCX w H W1 e s'
def X8(s:Stmt):Arguments:=match s with
 | .FunctionDef _ a _ _ _ _ _ _ _ _=>a
 |_=>{posonlyargs:= [],args:= [],vararg:=none,kwonlyargs:= [],kw_defaults:= [],kwarg:=none,defaults:= []}
def O9(s:Stmt):List Stmt:=match s with
 | .FunctionDef _ _ b _ _ _ _ _ _ _=>b
 |_=> []
def t7(s:Stmt):Scope:=match s with
 | .FunctionDef _ _ _ _ _ _ sc _ _ _=>sc
 |_=>{kind:=.function,names:= [],isGenerator:=false,isCoroutine:=false}
abbrev CX0:CXT:=λ_ _ _ _ _ _=>False
abbrev E0:XK:=λ_ _ _=>False
theorem rL:PF CX0 X E0:=λ_ _ _ _ _ _ _ h=>h.elim
structure Fun(K:ze)(x qual:Str)(st:Stmt)(f:Addr)(fd:yF):Prop where
 ex:∃(oc:zd) (od:Option Addr) (kV doc pm:zd) (an:Option Addr) (Gh ct:zd) (osl:Array (Option zd)),
  fd=jK x qual (X8 st) (O9 st) (t7 st) .none kV doc pm an Gh ct/\K.lookup f=some ⟨oc,od,.func fd,osl⟩/\xm K Gh qual=true
 kp:jN K (.ref f)=true
section
variable{P:zI}{w:zR}{K:ze}{mg:Str->Option zd}{base:Heap}
theorem Fun.ok{x qual:Str}{st:Stmt}{f:Addr}{k:Nat}{sp:Sp}(F:Fun K x qual st f fd)(S:R3 N ps (t7 st))(len:∀vs H Q E,sp vs H Q E->vs.length=ps.length)
 (hbody:∀(Gh:zd) (A:jb) (outer:List Env) (s:zm) (H:Hp) (vs:List V) (Q:VK) (E:XK),K8 k (A.deeper (xZ qual (t7 st) s.heap.objs.size f Gh))->sp vs H Q E->
   ∃t,PSs (t5 CX0 P w K mg base N qual (t7 st) f Gh A outer s H E).nox (O9 st) t/\t {nx:=λ_ H'=>Q .non H',rt:=Q} (start N vs) H):V1 P w K mg base CX0 (k+1) f fd ps sp:=by
 obtain⟨oc,od,kV,doc,pm,an,Gh,ct,osl,rfl,lk,hcd⟩:=F.ex;refine eU lk hcd S len λA outer s H vs Q E hr hsp=>?_;obtain⟨t,h,q⟩:=hbody Gh A outer s H vs Q E hr hsp;exact⟨t,h.nox,q⟩
theorem Fun.binds{x qual:Str}{st:Stmt}{f:Addr}(F:Fun K x qual st f fd)
 (h:∀(kV doc pm:zd) (an:Option Addr) (Gh ct:zd) (us:List zd),us.length=ps.length->bindArgs (jK x qual (X8 st) (O9 st) (t7 st) .none kV doc pm an Gh ct) ⟨us, []⟩=pure (ps.zip us)):v3 K fd ps []:=by
 obtain⟨oc,od,kV,doc,pm,an,Gh,ct,osl,rfl,lk,hcd⟩:=F.ex;exact .all (h kV doc pm an Gh ct)
theorem uE{x qual:Str}{st:Stmt}{f:Addr}{oc:zd}{od an:Option Addr}{kV doc pm Gh ct:zd}(l:K.lookup f=some ⟨oc,od,.func (jK x qual (X8 st) (O9 st) (t7 st) .none kV doc pm an Gh ct),osl⟩)
 (c:xm K Gh qual=true) (k:jN K (.ref f)=true):Fun K x qual st f (jK x qual (X8 st) (O9 st) (t7 st) .none kV doc pm an Gh ct):=⟨⟨oc,od,kV,doc,pm,an,Gh,ct,osl,rfl,l,c⟩,k⟩
end
section
end
def Same(H H':Hp):Prop:=∀b o,H b=some o->H' b=some o
theorem Same.refl(H:Hp):Same H H:=λ_ _ h=>h
theorem Same.trans(a:Same H H1)(b:Same H1 H2):Same H H2:=λc o h=>b c o (a c o h)
theorem Same.free(e:Same H H')(h:H' l=Option.none):H l=Option.none:=by
 cases q:H l with
 |none=>rfl
 |some o=>
   rw[e l o q]at h
   cases h
theorem Same.seq{K:ze}{H H':Hp}{a:Addr}(e:Same H H')(h:SqL K H a xs):SqL K H' a xs:=by
 rcases h with(h|⟨o,h⟩)|h
 ·exact .inl (.inl (e _ _ h))
 ·exact .inl (.inr ⟨o,e _ _ h⟩)
 ·exact .inr h
section
variable[DecidableEq κ]
def E2(Fk:List (κ×V))(k:κ):Option V:=(Fk.find? λkv=>decide (kv.1=k)).map (·.2)
def S1(Fk:List (κ×V))(k:κ)(v:V):List (κ×V):=
 if (Fk.any λkv=>decide (kv.1=k))=true then Fk.map (λkv=>if kv.1=k then (kv.1,v)else kv)else Fk++[(k,v)]
def oK(Fk:List (κ×V))(k:κ):List (κ×V):=Fk.filter λkv=>decide (kv.1≠k)
theorem bD{k:κ}(e:p.1=k):E2 (p::r) k=some p.2:=by simp[E2,yw,e]
theorem tD{k:κ}(e:¬p.1=k):E2 (p::r) k=E2 r k:=by simp[E2,yw,e]
theorem bJ(k:κ):∀Fk:List (κ×V),(Fk.any λkv=>decide (kv.1=k))= (E2 Fk k).isSome
 |[]=>rfl
 |p::r=>by
   rw[jO];by_cases e:p.1=k
   ·simp only[bD e,decide_eq_true e,Bool.true_or,Option.isSome_some]
   ·rw[tD e,decide_eq_false e,Bool.false_or];exact bJ k r
theorem CL(Fk:List (κ×V))(k:κ)(v:V):(S1 Fk k v).length<=Fk.length+1:=by
 unfold S1;split
 ·rw[zn];lia
 ·rw[zf,zw,jD];lia
theorem l5.isSome_eq(r:l5 o u):o.isSome=u.isSome:=by
 cases o with
 |none=>cases u with
   |none=>rfl
   |some _=>exact(show False from r).elim
 |some _=>cases u with
   |none=>exact(show False from r).elim
   |some _=>rfl
theorem l5.getD(r:l5 o u)(rd:o5 d d'):o5 (o.getD d) (u.getD d'):=by
 cases o with
 |none=>cases u with
   |none=>exact rd
   |some _=>exact(show False from r).elim
 |some _=>cases u with
   |none=>exact(show False from r).elim
   |some _=>exact r
theorem KV.val(r:KV Fk vs)(k:κ):l5 (E2 Fk k) (Zl vs k):=by
 unfold KV at r
 induction r with
 |nil=>exact True.intro
 |@cons p q ps qs h t ih=>
   obtain⟨h1,h2⟩:=h;by_cases e:p.1=k
   · have e':q.1=k:=h1.symm.trans e;have b:Zl (q::qs) k=some q.2:=by simp[Zl,yw,e']
     rw[bD e,b];exact h2
   · have e':¬q.1=k:=λz=>e (h1.trans z);have b:Zl (q::qs) k=Zl qs k:=by simp[Zl,yw,e']
     rw[tD e,b];exact ih
theorem KV.any(r:KV Fk vs)(k:κ):(Fk.any λkv=>decide (kv.1=k))=vs.any λkv=>decide (kv.1=k):=by
 unfold KV at r
 induction r with
 |nil=>rfl
 |cons h t ih=>rw[jO,jO,ih,h.1]
theorem KV.repl(r:KV Fk vs)(k:κ)(ry:o5 y u):
 KV (Fk.map λkv=>if kv.1=k then (kv.1,y)else kv) (vs.map λkv=>if kv.1=k then (kv.1,u)else kv):=by
 unfold KV at r ⊢
 induction r with
 |nil=>exact .nil
 |@cons p q ps qs h t ih=>
   rw[zN,zN];refine .cons ?_ ih;obtain⟨h1,h2⟩:=h;by_cases e:p.1=k
   ·rw[if_pos e,if_pos (h1.symm.trans e)];exact⟨h1,ry⟩
   ·rw[if_neg e,if_neg (λz=>e (h1.trans z))];exact⟨h1,h2⟩
theorem KV.put(r:KV Fk vs)(k:κ)(ry:o5 y u):KV (S1 Fk k y) (stored vs k u):=by
 unfold S1 stored;rw[r.any k];by_cases e:(vs.any λkv=>decide (kv.1=k))=true
 ·rw[if_pos e,if_pos e];exact r.repl k ry
 ·rw[if_neg e,if_neg e];exact Paired.snoc r ⟨rfl,ry⟩
theorem KV.drop(r:KV Fk vs)(k:κ):KV (oK Fk k) (without vs k):=by
 unfold KV at r ⊢;unfold oK without
 induction r with
 |nil=>exact .nil
 |@cons p q ps qs h t ih=>
   obtain⟨h1,h2⟩:=h;rw[JW,JW];by_cases e:p.1=k
   · have a:¬decide (p.1≠k)=true:=by simp[e]
     have b:¬decide (q.1≠k)=true:=by simp[h1.symm.trans e]
     rw[if_neg a,if_neg b];exact ih
   · have e':¬q.1=k:=λz=>e (h1.trans z);have a:decide (p.1≠k)=true:=by simp[e]
     have b:decide (q.1≠k)=true:=by simp[e']
     rw[if_pos a,if_pos b];exact .cons ⟨h1,h2⟩ ih
theorem KV.length(r:KV Fk vs):Fk.length=vs.length:=yq r
end
theorem iA(r:o5 (kV k) u):(v7 P w).is k u=true:=by
 cases k with
 |inl i=>obtain⟨t,e⟩:=(show ∃t,u=Value.int i t from r);subst e;exact wq P w i t
 |inr x=>obtain⟨t,e⟩:=(show ∃t,u=Value.str x t from r);subst e;exact Cg P w x t
theorem LL:∀ {ks} {us},j7 (ks.map kV) us->ItemsAre (v7 P w) ks us
 |[],_,r=>by rw[xp]at r;cases r;exact .nil
 |k::ks,_,r=>by
   rw[zN]at r
   cases r with
   |cons h t=>exact .cons (iA h) (LL t)
abbrev KT(H:Hp):List (List Key×V)->List (List Key×Addr×zd)->Prop:=Paired λp q=>p.1=q.1/\H q.2.1=some (.tup (p.1.map kV))/\o5 p.2 q.2.2
theorem KT.val{H:Hp}(r:KT H Fk xs)(k:List Key):l5 (E2 Fk k) ((Jo xs k).map (·.2)):=by
 induction r with
 |nil=>exact True.intro
 |@cons p q ps qs h t ih=>
   obtain⟨h1,_,h2⟩:=h;by_cases e:p.1=k
   · have e':q.1=k:=h1.symm.trans e;have b:Jo (q::qs) k=some q.2:=by simp[Jo,yw,e']
     rw[bD e,b];exact h2
   · have e':¬q.1=k:=λz=>e (h1.trans z);have b:Jo (q::qs) k=Jo qs k:=by simp[Jo,yw,e']
     rw[tD e,b];exact ih
theorem KT.repl(r:KT H Fk xs)(k:List Key)(ry:o5 y u):
 KT H (Fk.map λkv=>if kv.1=k then (kv.1,y)else kv) (xs.map (putAt k u)):=by
 induction r with
 |nil=>exact .nil
 |@cons p q ps qs h t ih=>
   rw[zN,zN];refine .cons ?_ ih;obtain⟨h1,h2,h3⟩:=h;unfold putAt;by_cases e:p.1=k
   ·rw[if_pos e,if_pos (h1.symm.trans e)];exact⟨h1,h2,ry⟩
   ·rw[if_neg e,if_neg (λz=>e (h1.trans z))];exact⟨h1,h2,h3⟩
theorem KT.put(r:KT H Fk xs)(k:List Key)(hb:H b=some (.tup (k.map kV)))(ry:o5 y u):
 KT H (S1 Fk k y) (storedH xs k b u):=by
 have e:(Fk.any λkv=>decide (kv.1=k))= (Jo xs k).isSome:=by rw[bJ,(r.val k).isSome_eq,ZE]
 unfold S1 storedH;rw[e];by_cases q:(Jo xs k).isSome=true
 ·rw[if_pos q,if_pos q];exact r.repl k ry
 ·rw[if_neg q,if_neg q];exact Paired.snoc r ⟨rfl,hb,ry⟩
theorem KT.keeps(r:KT H Fk xs)(ht:∀b ys,H b=some (.tup ys)->H' b=some (.tup ys)):KT H' Fk xs:=
 Paired.mapP r λ_ _ z=>⟨z.1,ht _ _ z.2.1,z.2.2⟩
section
theorem OG(ok:HOk P w H h)(e:Rd H a u):K5 P w H h a u:=e.ok ok
theorem pE(ok:HOk P w H h)(e:Rd H a (.dK Fk)):Fk.length<=zi/\(a==yO)=false/\∃vs,KV Fk vs/\h.DictOf (v7 P w) a vs:=
 show K5 P w H h a (.dK Fk)from OG ok e
theorem sG(ok:HOk P w H h)(e:H a=some (.dK Fk)):Fk.length<=zi/\(a==yO)=false/\∃vs,KV Fk vs/\h.DictOf (v7 P w) a vs:=pE ok (.inl e)
theorem ID(ok:HOk P w H h)(e:H a=some (.tup (ks.map kV))):(YL (v7 P w)).is h ks a:=by obtain⟨_,Fj,r,o,h1,h2,n,h3⟩:=(show K5 P w H h a (.tup (ks.map kV))from ok a _ e);exact⟨o,Fj.toArray,n,h1,h2,(Za h3).1,by simpa using LL r⟩
theorem dF(ok:HOk P w H h)(e:Rd H a (.dT Fk)):Fk.length<=zi/\(a==yO)=false/\
 ∃xs,KT H Fk xs/\h.DictOfH (YL (v7 P w)) a xs:=by
 obtain⟨z,y,xs,r,o,es,ep,h1,h2,h3,h4,h5⟩:=(show K5 P w H h a (.dT Fk)from OG ok e);refine⟨z,y,xs,r,o,es,ep,h1,h2,h3,h4,λx hx=>?_,h5⟩;have all:∀ {l:List (List Key×V)} {m:List (List Key×Addr×zd)},KT H l m->∀x∈m,(YL (v7 P w)).is h x.1 x.2.1:=by
  intro l m q
  induction q with
  |nil=>intro x hx;exact nomatch hx
  |@cons p q ps qs hq t ih=>
    intro x hx;rcases zz.mp hx with e|hx
    ·subst e;exact ID ok (by rw[<-hq.1];exact hq.2.1)
    ·exact ih x hx
 exact all r x hx
theorem NV(ok:HOk P w H h)(e:H a=some (.dT Fk)):Fk.length<=zi/\(a==yO)=false/\
 ∃xs,KT H Fk xs/\h.DictOfH (YL (v7 P w)) a xs:=dF ok (.inl e)
end
def FA(H:Hp)(a:Addr)(y:V)(r:Option V):Prop:=
 (∃Fk k,Rd H a (.dK Fk)/\y=kV k/\r=E2 Fk k)\/∃Fk k b,Rd H a (.dT Fk)/\y= .ref b/\H b=some (.tup (k.map kV))/\r=E2 Fk k
def gD(H:Hp)(a:Addr)(y v:V)(H':Hp):Prop:=
 (∃Fk k,H a=some (.dK Fk)/\y=kV k/\Fk.length<zi/\H'=upd H a (.dK (S1 Fk k v)))\/
 ∃Fk k b,H a=some (.dT Fk)/\y= .ref b/\H b=some (.tup (k.map kV))/\Fk.length<zi/\H'=upd H a (.dT (S1 Fk k v))
theorem FA.k{k:Key}(e:H a=some (.dK Fk)):FA H a (kV k) (E2 Fk k):=.inl ⟨Fk,k,.inl e,rfl,rfl⟩
theorem gD.k{k:Key}(e:H a=some (.dK Fk))(hl:Fk.length<zi):gD H a (kV k) v (upd H a (.dK (S1 Fk k v))):=.inl ⟨Fk,k,e,rfl,hl,rfl⟩
section
theorem Inv.big(I:Inv X pins σ H s):yO<s.heap.objs.size:=by have h:zZ<s.heap.objs.size:=(I.mod.glob.keeps I.bk).lt;exact yZ (by decide) h
theorem aR(hu:A.units+1<yH)(I:Inv X pins σ H s)(g:FA H a y o)(ry:o5 y u)(h:∀s',Inv X pins σ H s'->Q (.bool o.isSome) s'):
 zp (zy X.prog X.w) A (zH .In u (.ref a)) Q E s:=by
 rcases g with⟨Fk,k,e,ey,l⟩|⟨Fk,k,b,e,ey,eb,l⟩
 ·subst ey;obtain⟨z,hd,vs,rel,dd⟩:=pE I.hok e;refine wpAny_in_of (iA ry) hd dd.mapOf ?_;rw[<-(rel.val k).isSome_eq,<-l];exact h _ (I.tok _)
 · subst ey
   cases (show u=Value.ref b from ry)
   obtain⟨z,hd,xs,rel,dd⟩:=dF I.hok e;refine wpAny_in_heap (Yp hu) (ID I.hok eb) hd dd ?_;have q:=(rel.val k).isSome_eq;rw[ZE]at q;rw[<-q,<-l];exact h _ (I.tok _)
theorem BS(hu:A.units+1<yH)(I:Inv X pins σ H s)(g:FA H a y o)(ry:o5 y u)(h:∀s',Inv X pins σ H s'->Q (.bool (!o.isSome)) s'):
 zp (zy X.prog X.w) A (zH .NotIn u (.ref a)) Q E s:=by
 rcases g with⟨Fk,k,e,ey,l⟩|⟨Fk,k,b,e,ey,eb,l⟩
 ·subst ey;obtain⟨z,hd,vs,rel,dd⟩:=pE I.hok e;refine wpAny_notIn_of (iA ry) hd dd.mapOf ?_;rw[<-(rel.val k).isSome_eq,<-l];exact h _ (I.tok _)
 · subst ey
   cases (show u=Value.ref b from ry)
   obtain⟨z,hd,xs,rel,dd⟩:=dF I.hok e;refine wpAny_notIn_heap (Yp hu) (ID I.hok eb) hd dd ?_;have q:=(rel.val k).isSome_eq;rw[ZE]at q;rw[<-q,<-l];exact h _ (I.tok _)
theorem PM(I:Inv X pins σ H s)(mu:Mut (H a))(hs:yS a s.heap h')(he:∃q,h'.get? a=some q)(new:K5 X.prog X.w (upd H a ob) h' a ob):
 Inv X pins σ (upd H a ob) {s with heap:=h',toks:=t'}:=
 I.write mu (.inl rfl) (λb q hb z=>(hs.2 b hb).trans z) he new
theorem nJ(z:Fk.length<=zi)(hd:(a==yO)=false)(rel:KV Fk vs)(dd:h'.DictOf (v7 P w) a vs):
 K5 P w H' h' a (.dK Fk):=⟨z,hd,vs,rel,dd⟩
theorem uO(hu:A.units+1<yH)(I:Inv X pins σ H s)(g:gD H a y v H')(ry:o5 y u)(rv:o5 v r)(h:∀s',Inv X pins σ H' s'->Q () s'):
 zp (zy X.prog X.w) A (setItem (.ref a) u r) Q E s:=by
 rcases g with⟨Fk,k,e,ey,l,eH⟩|⟨Fk,k,b,e,ey,eb,l,eH⟩
 · subst ey eH;obtain⟨z,hd,vs,rel,dd⟩:=sG I.hok e;have hz:vs.length<=zi:=by rw[<-rel.length];exact z
   have hl:(S1 Fk k v).length<=zi:=by have:=CL Fk k v;lia
   refine wpAny_setItem_pairs (iA ry) dd λh' dd' hs=>h _ ?_;have he:∃q,h'.get? a=some q:=let ⟨q,_,_,hq,_⟩:=dd';⟨q,hq⟩;exact PM I (by rw[e];exact True.intro) hs he (nJ hl hd (rel.put k rv) dd')
 · subst ey eH
   cases (show u=Value.ref b from ry)
   obtain⟨z,hd,xs,rel,dd⟩:=NV I.hok e;have hz:xs.length<=zi:=by rw[<-yq rel];exact z
   have hl:(S1 Fk k v).length<=zi:=by have:=CL Fk k v;lia
   refine wpAny_setItem_heap (Yp hu) (ID I.hok eb) dd λh' dd' hs=>h _ ?_;obtain⟨q,es,ep,hq,h2,h3,h4,_,h5⟩:=dd';refine PM I (by rw[e];exact True.intro) hs ⟨q,hq⟩ ⟨hl,hd,_,(rel.put k eb rv).keeps λc ys ec=>?_,q,es,ep,hq,h2,h3,h4,h5⟩;rw[m6 (wf ec e (λz=>nomatch z))];exact ec
end
section
theorem sT(I:Inv X pins σ H s)(e:Rd H a (.dK Fk))(h:∀t s',Inv X pins σ H s'->Q (.int Fk.length t) s'):zp (zy X.prog X.w) A (call (.builtin "len") [.ref a]) Q E s:=by obtain⟨z,hd,vs,rel,dd⟩:=pE I.hok e;refine call_len_dict hd dd (by rw[<-rel.length];rw[jh]at z;lia) ?_;rw[<-rel.length];exact h _ _ (I.tok _)
end
section
end
section
end
structure M1(X:Cx)(o:Expr)(m:Str)(Gq:Pos)(e:Expr)(Fz:Pos):Prop where
 base:xW o m X.env (eval o X.env)=eval o X.env
 few:((yA Fz (zF [e] X.env)).all (λx=> !x.1)&&(Xt Fz (ZI [] X.env)).all (λx=>x.1.isSome)
  && decide (([e]:List Expr).length+([]:List Keyword).length+(if ([]:List Keyword).isEmpty then 0 else 1)<30))=true
 line:(Gq.endLine==Fz.line)=true
 trees:yA Fz (zF [e] X.env)= [(false,eval e X.env)]
structure M2(X:Cx)(o:Expr)(m:Str)(Gq:Pos)(e f:Expr)(Fz:Pos):Prop where
 base:xW o m X.env (eval o X.env)=eval o X.env
 few:((yA Fz (zF [e,f] X.env)).all (λx=> !x.1)&&(Xt Fz (ZI [] X.env)).all (λx=>x.1.isSome)
  && decide (([e,f]:List Expr).length+([]:List Keyword).length+(if ([]:List Keyword).isEmpty then 0 else 1)<30))=true
 line:(Gq.endLine==Fz.line)=true
 trees:yA Fz (zF [e,f] X.env)= [(false,eval e X.env),(false,eval f X.env)]
section
end
section
end
section
end
section
end
section
theorem mV:N7 X (.builtin "len") (λxs H Q=>∃a Fk,xs= [V.ref a]/\H a=some (.dK Fk)/\Q (.int Fk.length) H):=by
 intro pins s σ H xs us Q I r h;obtain⟨a,Fk,rfl,ha,q⟩:=h;obtain⟨u,rfl,ru⟩:=W2 r
 cases ru
 exact sT I (.inl ha) λt s' I'=>⟨.int Fk.length,H,I',⟨t,rfl⟩,q⟩
end
section
variable[DecidableEq κ]
end
end L2
namespace DL
open PySem PySem.Spec L2
open PyProof.Rows hiding St
inductive D where
 |non|bl (b:Bool)|int (i:Int)|str (x:Str)|tup (l:List D)|ref (i:Nat)|fn (x:Str)|ty (n:String)
inductive DO where
 |lst (l:List D)|rol (l:List D)|dct (l:List (Key×D))|rod (l:List (Key×D))
abbrev DH:=List DO
abbrev DPP:=D->DH->Prop
abbrev DSt:=List (Option D)
structure Wc where
 K:ze
 mg:Str->Option zd
abbrev wc(X:Cx):Wc:=⟨X.K,X.mg⟩
mutual
def d7(c:Wc)(μ:List Addr)(H:Hp):D->V->Prop
 | .non,v=>v= .non
 | .bl b,v=>v= .bl b
 | .int i,v=>v= .int i
 | .str x,v=>v= .str x
 | .ty n,v=>v= .ty n
 | .fn x,v=>∃a,c.mg x=some (.ref a)/\v= .ref a
 | .ref i,v=>∃a,μ[i]? =some a/\v= .ref a
 | .tup l,v=>∃a vs,v= .ref a/\SqT c.K H a vs/\g8 c μ H l vs
def g8(c:Wc)(μ:List Addr)(H:Hp):List D->List V->Prop
 |[],vs=>vs= []
 |d::ds,vs=>∃v r,vs=v::r/\d7 c μ H d v/\g8 c μ H ds r
end
def Q6(c:Wc)(μ:List Addr)(H:Hp):List (Key×D)->List (Key×V)->Prop
 |[],Fk=>Fk= []
 |(k,d)::r,Fk=>∃v t,Fk= (k,v)::t/\d7 c μ H d v/\Q6 c μ H r t
structure Ext(μ:List Addr)(H:Hp)(X9:List Addr)(H':Hp):Prop where
 pre:μ <+:X9
 new:∀a∈X9,a∉μ->H a=none
 oth:∀b o,H b=some o->b∉μ->H' b=some o
 tup:∀b xs,H b=some (.tup xs)->H' b=some (.tup xs)
 frz:∀b o u,H b=some (.frz o u)->H' b=some (.frz o u)
theorem Ext.refl(μ:List Addr)(H:Hp):Ext μ H μ H:=⟨Yn _,λa h n=>absurd h n,λ_ _ h _=>h,λ_ _ h=>h,λ_ _ _ h=>h⟩
theorem Ext.trans(a:Ext μ H X0 H1)(b:Ext X0 H1 WY H2):Ext μ H WY H2 where
 pre:=a.pre.trans b.pre
 new:=λx h n=>by
  by_cases h1:x∈X0
  ·exact a.new x h1 n
  · have e1:=b.new x h h1;rcases e:H x with _|o
    ·rfl
    ·rw[a.oth x o e n]at e1;exact PC e1
 oth:=λx o e n=>by refine b.oth x o (a.oth x o e n) λh1=>?_;have:=a.new x h1 n;rw[e]at this;exact PC this
 tup:=λx xs e=>b.tup x xs (a.tup x xs e)
 frz:=λx o u e=>b.frz x o u (a.frz x o u e)
theorem Ext.lay(h:H p=none)(o:HO):Ext μ H μ (upd H p o):=
 ⟨Yn _,λa h n=>absurd h n,λb o' q _=>by rw[m6 (m5 q h)];exact q,λb xs q=>by rw[m6 (m5 q h)];exact q,λb o' u q=>by rw[m6 (m5 q h)];exact q⟩
theorem Ext.add(h:H p=none)(o:HO):Ext μ H (μ++[p]) (upd H p o):=
 ⟨Jw _ _,λa ha n=>by
  rcases zU.mp ha with z|z
  ·exact absurd z n
  ·rw[zA.mp z];exact h,λb o' q _=>by rw[m6 (m5 q h)];exact q,λb xs q=>by rw[m6 (m5 q h)];exact q,λb o' u q=>by rw[m6 (m5 q h)];exact q⟩
theorem Ext.mut(hp:p∈μ)(h:H p=some o')(n1:∀xs,o'≠ .tup xs)(n2:∀o u,o'≠ .frz o u)(o:HO):Ext μ H μ (upd H p o):=
 ⟨Yn _,λa h n=>absurd h n,λb o2 q n=>by rw[m6 (λe=>n (by rw[e];exact hp))];exact q,λb xs q=>by
  rw[m6 (λe=>by subst e;rw[h]at q;cases q;exact n1 _ rfl)];exact q,
  λb oo u q=>by rw[m6 (λe=>by subst e;rw[h]at q;cases q;exact n2 _ _ rfl)];exact q⟩
theorem Ext.sqT{K:ze}(k:Ext μ H X9 H')(h:SqT K H a xs):SqT K H' a xs:=by
 rcases h with(h|⟨o,h⟩)|h
 ·exact .inl (.inl (k.tup _ _ h))
 ·exact .inl (.inr ⟨o,k.frz _ _ _ h⟩)
 ·exact .inr h
def RoL(K:ze)(H:Hp)(a:Addr)(xs:List V):Prop:=(∃o,H a=some (.frz o (.lst xs)))\/(SqL K (λ_=>none) a xs)
theorem qW{K:ze}(h:SqL K (λ_=>none) a xs):SqL K H a xs:=by
 rcases h with(h|⟨o,h⟩)|h
 ·exact t6 h
 ·exact t6 h
 ·exact .inr h
theorem RoL.sq{K:ze}(h:RoL K H a xs):SqL K H a xs:=by
 rcases h with⟨o,h⟩|h
 ·exact .inl (.inr ⟨o,h⟩)
 ·exact qW h
theorem Ext.roL{K:ze}(k:Ext μ H X9 H')(h:RoL K H a xs):RoL K H' a xs:=by
 rcases h with⟨o,h⟩|h
 ·exact .inl ⟨o,k.frz _ _ _ h⟩
 ·exact .inr h
section
variable{μ X9:List Addr}
theorem oH(h:μ <+:X9){i:Nat}(e:μ[i]? =some a):X9[i]? =some a:=by
 obtain⟨t,rfl⟩:=h;have:i<μ.length:=by
  rcases ZZ i μ.length with q|q
  ·exact q
  ·rw[zM q]at e;exact t6 e
 rw[zt this];exact e
mutual
theorem d7.mono(x:Ext μ H X9 H'):∀ {d} {v},d7 c μ H d v->d7 c X9 H' d v
 | .non,_,h=>h
 | .bl _,_,h=>h
 | .int _,_,h=>h
 | .str _,_,h=>h
 | .ty _,_,h=>h
 | .fn _,_,h=>h
 | .ref i,v,h=>by unfold d7 at h ⊢;obtain⟨a,e,r⟩:=h;exact⟨a,oH x.pre e,r⟩
 | .tup l,v,h=>by unfold d7 at h ⊢;obtain⟨a,vs,e,q,r⟩:=h;exact⟨a,vs,e,x.sqT q,g8.mono x r⟩
theorem g8.mono(x:Ext μ H X9 H'):∀ {l} {vs},g8 c μ H l vs->g8 c X9 H' l vs
 |[],_,h=>h
 |d::ds,vs,h=>by unfold g8 at h ⊢;obtain⟨v,r,e,q,t⟩:=h;exact⟨v,r,e,d7.mono x q,g8.mono x t⟩
end
theorem Q6.mono(x:Ext μ H X9 H'):∀ {l} {vs},Q6 c μ H l vs->Q6 c X9 H' l vs
 |[],_,h=>h
 |(_,d)::ds,vs,h=>by obtain⟨v,r,e,q,t⟩:=h;exact⟨v,r,e,d7.mono x q,Q6.mono x t⟩
theorem g8.nil:g8 c μ H [] []:=rfl
theorem g8.cons(h:d7 c μ H d v)(t:g8 c μ H ds vs):g8 c μ H (d::ds) (v::vs):=⟨v,vs,rfl,h,t⟩
theorem g8.length:∀ {l} {vs},g8 c μ H l vs->l.length=vs.length
 |[],_,h=>by cases h;rfl
 |_::_,_,h=>by obtain⟨v,r,rfl,_,t⟩:=h;simp[g8.length t]
theorem g8.get:∀ {l} {vs} {i:Nat} {d},g8 c μ H l vs->l[i]? =some d->∃v,vs[i]? =some v/\d7 c μ H d v
 |[],_,_,_,_,e=>by simp at e
 |_::_,_,0,_,h,e=>by obtain⟨v,r,rfl,q,t⟩:=h;simp at e;subst e;exact⟨v,rfl,q⟩
 |_::_,_,i+1,_,h,e=>by obtain⟨v,r,rfl,q,t⟩:=h;simp at e;obtain⟨w,h1,h2⟩:=g8.get t e;exact⟨w,by simpa using h1,h2⟩
theorem g8.append:∀ {l l'} {vs Gm},g8 c μ H l vs->g8 c μ H l' Gm->g8 c μ H (l++l') (vs++Gm)
 |[],_,_,_,h,t=>by cases h;exact t
 |_::_,_,_,_,h,t=>by obtain⟨v,r,rfl,q,u⟩:=h;exact⟨v,r++_,rfl,q,g8.append u t⟩
theorem g8.take:∀n {l} {vs},g8 c μ H l vs->g8 c μ H (l.take n) (vs.take n)
 |0,_,_,_=>rfl
 |_+1, [],_,h=>by cases h;rfl
 |n+1,_::_,_,h=>by obtain⟨v,r,rfl,q,u⟩:=h;exact⟨v,r.take n,rfl,q,g8.take n u⟩
theorem g8.drop:∀n {l} {vs},g8 c μ H l vs->g8 c μ H (l.drop n) (vs.drop n)
 |0,_,_,h=>h
 |_+1, [],_,h=>by cases h;rfl
 |n+1,_::_,_,h=>by obtain⟨v,r,rfl,q,u⟩:=h;exact g8.drop n u
theorem g8.set(hv:d7 c μ H d v):∀n {l} {vs},g8 c μ H l vs->g8 c μ H (l.set n d) (vs.set n v)
 |_, [],_,h=>by cases h;rfl
 |0,_::_,_,h=>by obtain⟨w,r,rfl,q,u⟩:=h;exact⟨v,r,rfl,hv,u⟩
 |n+1,_::_,_,h=>by obtain⟨w,r,rfl,q,u⟩:=h;exact⟨w,r.set n v,rfl,q,g8.set hv n u⟩
theorem g8.reverse:∀ {l} {vs},g8 c μ H l vs->g8 c μ H l.reverse vs.reverse
 |[],_,h=>by cases h;rfl
 |_::_,_,h=>by obtain⟨w,r,rfl,q,u⟩:=h;simp only[ZR];exact g8.append (g8.reverse u) ⟨w, [],rfl,q,rfl⟩
def y3:Option DO->Prop
 |some (.rol _)=>True
 |some (.rod _)=>True
 |_=>False
def C4(c:Wc)(μ:List Addr)(H:Hp)(a:Addr):DO->Prop
 | .lst l=>∃vs,H a=some (.lst vs)/\g8 c μ H l vs
 | .rol l=>∃vs,RoL c.K H a vs/\g8 c μ H l vs
 | .dct l=>∃Fk,H a=some (.dK Fk)/\Q6 c μ H l Fk
 | .rod l=>∃Fk o,H a=some (.frz o (.dK Fk))/\Q6 c μ H l Fk
structure j8(c:Wc)(μ:List Addr)(G:DH)(H:Hp):Prop where
 len:μ.length=G.length
 inj:∀(i j:Nat) (a:Addr),μ[i]? =some a->μ[j]? =some a->i=j\/y3 G[i]? \/y3 G[j]?
 obj:∀(i:Nat) (o:DO) (a:Addr),G[i]? =some o->μ[i]? =some a->C4 c μ H a o
theorem lt_of_get{α:Type}{l:List α}{x:α}(e:l[i]? =some x):i<l.length:=by
 rcases ZZ i l.length with q|q
 ·exact q
 ·rw[zM q]at e;exact t6 e
theorem j8.at(h:j8 c μ G H){i:Nat}(e:G[i]? =some o):∃a,μ[i]? =some a/\C4 c μ H a o:=by
 have q:i<μ.length:=by rw[h.len];exact lt_of_get e
 exact⟨μ[i],zq q,h.obj i o _ e (zq q)⟩
theorem C4.mono(x:Ext μ H X9 H')(h:C4 c μ H a o)(e:H' a=H a\/y3 (some o)):C4 c X9 H' a o:=by
 rcases o with l|l|l|l
 ·
   obtain⟨vs,q,r⟩:=h;rcases e with e|e
   ·exact⟨vs,e.trans q,r.mono x⟩
   ·exact e.elim
 ·obtain⟨vs,q,r⟩:=h;exact⟨vs,x.roL q,r.mono x⟩
 ·
   obtain⟨vs,q,r⟩:=h;rcases e with e|e
   ·exact⟨vs,e.trans q,r.mono x⟩
   ·exact e.elim
 ·obtain⟨vs,o,q,r⟩:=h;exact⟨vs,o,x.frz _ _ _ q,r.mono x⟩
theorem C4.some_of(h:C4 c μ H a o)(n:¬y3 (some o)):∃u,H a=some u/\(∀xs,u≠ .tup xs)/\∀o' u',u≠ .frz o' u':=by
 rcases o with l|l|l|l
 ·obtain⟨vs,q,_⟩:=h;exact⟨_,q,(λ_ z=>nomatch z),(λ_ _ z=>nomatch z)⟩
 ·exact(n trivial).elim
 ·obtain⟨vs,q,_⟩:=h;exact⟨_,q,(λ_ z=>nomatch z),(λ_ _ z=>nomatch z)⟩
 ·exact(n trivial).elim
theorem j8.same(h:j8 c μ G H)(k:Ext μ H μ H')(e:∀a o,H a=some o->(∀xs,o≠ .tup xs)->H' a=some o):j8 c μ G H':=
 ⟨h.len,h.inj,λi o a g m=>by
  have q:=h.obj i o a g m;by_cases hr:y3 (some o)
  ·exact q.mono k (.inr hr)
  ·obtain⟨u,e1,n1,n2⟩:=q.some_of hr;exact q.mono k (.inl ((e a u e1 n1).trans e1.symm))⟩
theorem j8.new{p:Addr}(h:j8 c μ G H)(hp:H p=none)(ho:C4 c (μ++[p]) (upd H p u) p o):j8 c (μ++[p]) (G++[o]) (upd H p u):=by
 have k:Ext μ H (μ++[p]) (upd H p u):=Ext.add hp u;have old:∀(i:Nat) (a:Addr),i<μ.length->(μ++[p])[i]? =some a->μ[i]? =some a:=λi a hi e=>by rw[zt hi]at e;exact e
 refine⟨by simp[h.len],λi j a ei ej=>?_,λi o' a g m=>?_⟩
 · have li:=lt_of_get ei;have lj:=lt_of_get ej;simp only[zf,yy]at li lj;by_cases hi:i<μ.length
   · have mi:=old i a hi ei;have gi:(G++[o])[i]? =G[i]? :=zt (by rw[<-h.len];exact hi);by_cases hj:j<μ.length
     ·have mj:=old j a hj ej;have gj:(G++[o])[j]? =G[j]? :=zt (by rw[<-h.len];exact hj);rw[gi,gj];exact h.inj i j a mi mj
     · -- j is the new one:a=p
       have ej':j=μ.length:=by lia
       subst ej';have ea:a=p:=by simpa using ej.symm
       subst ea;right;left;rw[gi];have hg:i<G.length:=by rw[<-h.len];exact hi
       have q:=h.obj i G[i] a (zq hg) mi;rw[zq hg];refine jz λn=>?_;obtain⟨u',e1,_⟩:=q.some_of n;rw[hp]at e1;exact t6 e1
   · have ei':i=μ.length:=by lia
     by_cases hj:j<μ.length
     · have mj:=old j a hj ej;have gj:(G++[o])[j]? =G[j]? :=zt (by rw[<-h.len];exact hj);subst ei';have ea:a=p:=by simpa using ei.symm
       subst ea;right;right;rw[gj];have hg:j<G.length:=by rw[<-h.len];exact hj
       have q:=h.obj j G[j] a (zq hg) mj;rw[zq hg];refine jz λn=>?_;obtain⟨u',e1,_⟩:=q.some_of n;rw[hp]at e1;exact t6 e1
     ·left;lia
 · have li:=lt_of_get m;simp only[zf,yy]at li;by_cases hi:i<μ.length
   · have mi:=old i a hi m;rw[zt (by rw[<-h.len];exact hi)]at g;have q:=h.obj i o' a g mi;by_cases hr:y3 (some o')
     ·exact q.mono k (.inr hr)
     ·obtain⟨u',e1,_⟩:=q.some_of hr;exact q.mono k (.inl (m6 (m5 e1 hp)))
   · have ei':i=μ.length:=by lia
     subst ei';have ea:a=p:=by simpa using m.symm
     subst ea;rw[h.len]at g;have eo:o'=o:=by simpa using g.symm
     subst eo;exact ho
theorem j8.set{o o':DO}{u:HO}(h:j8 c μ G H)(g:G[i]? =some o)(n:¬y3 (some o))(m:μ[i]? =some a)(k:Ext μ H μ (upd H a u))(n':¬y3 (some o'))(ho:C4 c μ (upd H a u) a o'):j8 c μ (G.set i o') (upd H a u):=by
 have hi:i<G.length:=lt_of_get g;have get:∀j,(G.set i o')[j]? =if i=j then some o' else G[j]? :=λj=>by
  rw[ZS];by_cases e:i=j
  ·subst e;simp[hi]
  ·simp[e]
 refine⟨by simp[h.len],λj l b ej el=>?_,λj o2 b gj mj=>?_⟩
 · rcases h.inj j l b ej el with e|e|e
   ·exact .inl e
   · by_cases ij:i=j
     ·subst ij;rw[g]at e;exact(n e).elim
     ·right;left;rw[get,if_neg ij];exact e
   · by_cases ij:i=l
     ·subst ij;rw[g]at e;exact(n e).elim
     ·right;right;rw[get,if_neg ij];exact e
 · rw[get]at gj;by_cases ij:i=j
   · subst ij;rw[if_pos rfl]at gj
     cases gj
     rw[m]at mj
     cases mj
     exact ho
   · rw[if_neg ij]at gj;have q:=h.obj j o2 b gj mj;by_cases hr:y3 (some o2)
     ·exact q.mono k (.inr hr)
     · have nb:b≠a:=λe=>by
        subst e;rcases h.inj i j b m mj with e|e|e
        ·exact ij e
        ·rw[g]at e;exact n e
        ·rw[gj]at e;exact hr e
       exact q.mono k (.inl (m6 nb))
def t8(c:Wc)(μ:List Addr)(H:Hp)(X2:DSt)(σ:St):Prop:=X2.length=σ.length/\∀(i:Nat) (d:D),X2[i]? =some (some d)->∃v,σ[i]? =some (some v)/\d7 c μ H d v
theorem t8.mono(x:Ext μ H X9 H')(h:t8 c μ H X2 σ):t8 c X9 H' X2 σ:=
 ⟨h.1,λi d e=>let ⟨v,a,b⟩:=h.2 i d e;⟨v,a,b.mono x⟩⟩
theorem t8.put(h:t8 c μ H X2 σ)(r:d7 c μ H d v)(i:Nat):t8 c μ H (X2.set i (some d)) (σ.set i (some v)):=by
 refine⟨by simp[h.1],λj d' e=>?_⟩;rw[ZS]at e ⊢;by_cases ij:i=j
 · subst ij;rw[if_pos rfl]at e ⊢;rw[<-h.1];split at e
   · rename_i hl;rw[if_pos hl]
     cases e
     exact⟨v,rfl,r⟩
   ·exact t6 e
 ·rw[if_neg ij]at e ⊢;exact h.2 j d' e
end
def M(α:Type):=DH->Option (Except Str α×DH)
namespace M
def pure{α:Type}(a:α):M α:=λG=>some (.ok a,G)
def bind{α β:Type}(m:M α)(f:α->M β):M β:=λG=>match m G with
 |none=>none
 |some (.ok a,G1)=>f a G1
 |some (.error x,G1)=>some (.error x,G1)
def stuck{α:Type}:M α:=λ_=>none
end M
instance:Monad M:={pure:=M.pure,bind:=M.bind}
theorem M.bind_eq(m:M α)(f:α->M β)(G:DH):(m >>= f) G=match m G with
 |none=>none
 |some (.ok a,G1)=>f a G1
 |some (.error x,G1)=>some (.error x,G1):=rfl
theorem M.bind_ok{f:α->M β}(h:m G=some (.ok a,G1)):(m >>= f) G=f a G1:=by rw[M.bind_eq,h]
theorem M.bind_assoc(m:M α)(f:α->M β)(g:β->M γ):((m >>= f) >>= g)= (m >>= λa=>f a >>= g):=by
 funext G;simp only[M.bind_eq];rcases m G with _|p
 ·rfl
 ·obtain⟨r,G1⟩:=p;cases r<;>rfl
abbrev XC:=Str->List Addr->DH->Hp->Prop
def ZF:XC:=λ_ _ _ _=>False
def c7{α:Type}(c:Wc)(Z:XC)(μ:List Addr)(H:Hp)(r:Option (Except Str α×DH))(K:α->List Addr->DH->Hp->Prop):Prop:=
 match r with
 |none=>False
 |some (.ok a,G')=>∀ X9 H',Ext μ H X9 H'->j8 c X9 G' H'->K a X9 G' H'
 |some (.error x,G')=>∀ X9 H',Ext μ H X9 H'->j8 c X9 G' H'->Z x X9 G' H'
section
theorem c7.mono{K K':α->List Addr->DH->Hp->Prop}(h:c7 c Z μ H r K)
 (k:∀a X9 G' H',Ext μ H X9 H'->j8 c X9 G' H'->K a X9 G' H'->K' a X9 G' H'):c7 c Z μ H r K':=by
 match r,h with
 |some (.ok a,G'),h=>exact λX9 H' p e=>k a X9 G' H' p e (h X9 H' p e)
 |some (.error x,G'),h=>exact h
theorem c7.from{K:α->List Addr->DH->Hp->Prop}(h:c7 c Z μ H r K)(p:Ext μ H X9 H'):c7 c Z X9 H' r K:=by
 match r,h with
 |some (.ok a,G'),h=>exact λWY H2 p2 e=>h WY H2 (p.trans p2) e
 |some (.error x,G'),h=>exact λWY H2 p2 e=>h WY H2 (p.trans p2) e
theorem c7.bind{m:M α}{K:β->List Addr->DH->Hp->Prop}(h:c7 c Z μ H ((m >>= f) G) K):
 c7 c Z μ H (m G) (λa X9 G' H'=>c7 c Z X9 H' (f a G') K):=by
 rw[M.bind_eq]at h
 match m G,h with
 |some (.ok a,G'),h=>exact λX9 H' p e=>c7.from h p
 |some (.error x,G'),h=>exact h
theorem c7.ok{K:α->List Addr->DH->Hp->Prop}(h:c7 c Z μ H (some (.ok a,G)) K)(e:j8 c μ G H):K a μ G H:=h μ H (Ext.refl _ _) e
end
inductive Fl where
 |nx (σ:DSt)|rt (d:D)|bk (σ:DSt)|ct (σ:DSt)
section
variable(c:Wc)(Z:XC)
def B3(f:DSt->M D):TE:=λσ H Q=>∃X2 μ G,t8 c μ H X2 σ/\j8 c μ G H/\c7 c Z μ H (f X2 G) λd X9 _ H'=>∀v,d7 c X9 H' d v->Q v H'
def b9(f:DSt->M Bool):TT:=λσ H Q=>∃X2 μ G,t8 c μ H X2 σ/\j8 c μ G H/\c7 c Z μ H (f X2 G) λb X9 _ H'=>Q b H'
def wB(f:DSt->M (List D)):TA:=λσ H Q=>∃X2 μ G,t8 c μ H X2 σ/\j8 c μ G H/\c7 c Z μ H (f X2 G) λds X9 _ H'=>∀vs,g8 c X9 H' ds vs->Q vs H'
def h9(E:m7)(fl:Fl)(μ:List Addr)(H:Hp):Prop:=match fl with
 | .nx X2=>∀ σ,t8 c μ H X2 σ->E.nx σ H
 | .rt d=>∀v,d7 c μ H d v->E.rt v H
 | .bk X2=>∀ σ,t8 c μ H X2 σ->E.bk σ H
 | .ct X2=>∀ σ,t8 c μ H X2 σ->E.ct σ H
def F9(f:DSt->M Fl):TS:=λE σ H=>∃X2 μ G,t8 c μ H X2 σ/\j8 c μ G H/\c7 c Z μ H (f X2 G) λfl X9 _ H'=>h9 c E fl X9 H'
end
theorem B3.elim{P:Prop}{H:Hp}{Q:VK}(h:B3 c Z f σ H Q)(k:∀X2 μ G,t8 c μ H X2 σ->j8 c μ G H->c7 c Z μ H (f X2 G) (λd X9 _ H'=>∀v,d7 c X9 H' d v->Q v H')->P):P:=by obtain⟨e0,e1,e2,e3,e4,e5⟩:=h;exact k e0 e1 e2 e3 e4 e5
theorem b9.elim{P:Prop}{σ:St}{H:Hp}(h:b9 c Z f σ H Q)(k:∀X2 μ G,t8 c μ H X2 σ->j8 c μ G H->c7 c Z μ H (f X2 G) (λb X9 _ H'=>Q b H')->P):P:=by obtain⟨e0,e1,e2,e3,e4,e5⟩:=h;exact k e0 e1 e2 e3 e4 e5
theorem wB.elim{P:Prop}{σ:St}{H:Hp}(h:wB c Z f σ H Q)(k:∀X2 μ G,t8 c μ H X2 σ->j8 c μ G H->c7 c Z μ H (f X2 G) (λds X9 _ H'=>∀vs,g8 c X9 H' ds vs->Q vs H')->P):P:=by obtain⟨e0,e1,e2,e3,e4,e5⟩:=h;exact k e0 e1 e2 e3 e4 e5
theorem F9.elim{P:Prop}{σ:St}{H:Hp}(h:F9 c Z f E σ H)(k:∀X2 μ G,t8 c μ H X2 σ->j8 c μ G H->c7 c Z μ H (f X2 G) (λfl X9 _ H'=>h9 c E fl X9 H')->P):P:=by obtain⟨e0,e1,e2,e3,e4,e5⟩:=h;exact k e0 e1 e2 e3 e4 e5
structure DE(X:Cx)(Z:XC)(e:Expr)(f:DSt->M D):Prop where
 h:PE X e (B3 (wc X) Z f)
structure DT(X:Cx)(Z:XC)(e:Expr)(f:DSt->M Bool):Prop where
 h:PT X e (b9 (wc X) Z f)
structure DA(X:Cx)(Z:XC)(e:List Expr)(f:DSt->M (List D)):Prop where
 h:PA X e (wB (wc X) Z f)
structure DS(X:Cx)(Z:XC)(e:Stmt)(f:DSt->M Fl):Prop where
 h:PS X e (F9 (wc X) Z f)
structure DB(X:Cx)(Z:XC)(e:List Stmt)(f:DSt->M Fl):Prop where
 h:PSs X e (F9 (wc X) Z f)
theorem PE.mono(h:PE X e t)(k:∀ σ H Q,t' σ H Q->t σ H Q):PE X e t':=λpins s σ H Q I q=>h pins s σ H Q I (k σ H Q q)
theorem PT.mono(h:PT X e t)(k:∀ σ H Q,t' σ H Q->t σ H Q):PT X e t':=λpins s σ H Q I q=>h pins s σ H Q I (k σ H Q q)
theorem PW.mono(h:PW X e t)(k:∀ σ H Q,t' σ H Q->t σ H Q):PW X e t':=λwh pins s σ H Q I q=>h wh pins s σ H Q I (k σ H Q q)
theorem PA.mono(h:PA X e t)(k:∀ σ H Q,t' σ H Q->t σ H Q):PA X e t':=λpos pins s σ H Q I q=>h pos pins s σ H Q I (k σ H Q q)
theorem PS.mono(h:PS X e t)(k:∀E σ H,t' E σ H->t E σ H):PS X e t':=λpins s σ H E I q=>h pins s σ H E I (k E σ H q)
theorem PSs.mono(h:PSs X e t)(k:∀E σ H,t' E σ H->t E σ H):PSs X e t':=λpins s σ H E I q=>h pins s σ H E I (k E σ H q)
theorem DE.of(h:PE X e t)(k:∀ σ H Q,B3 (wc X) Z f σ H Q->t σ H Q):DE X Z e f:=⟨PE.mono h k⟩
theorem DT.of(h:PT X e t)(k:∀ σ H Q,b9 (wc X) Z f σ H Q->t σ H Q):DT X Z e f:=⟨PT.mono h k⟩
theorem DA.of(h:PA X e t)(k:∀ σ H Q,wB (wc X) Z f σ H Q->t σ H Q):DA X Z e f:=⟨PA.mono h k⟩
theorem DS.of(h:PS X e t)(k:∀E σ H,F9 (wc X) Z f E σ H->t E σ H):DS X Z e f:=⟨PS.mono h k⟩
theorem DB.of(h:PSs X e t)(k:∀E σ H,F9 (wc X) Z f E σ H->t E σ H):DB X Z e f:=⟨PSs.mono h k⟩
end DL
namespace DL
open PySem PySem.Spec L2
open PyProof.Rows hiding St
def Q0:Expr->Bool
 | .Starred ..=>false
 |_=>true
theorem t4(h:Q0 e=true):zF (e::es) env= (false,eval e env)::zF es env:=by
 cases e<;>first
  |rfl
  |exact mE h
theorem bB(h:Q0 e=true):zF [e] env= [(false,eval e env)]:=t4 h
theorem kY(h:Q0 a=true)(h':Q0 b=true):zF [a,b] env= [(false,eval a env),(false,eval b env)]:=by rw[t4 h,bB h']
abbrev Fe:=DSt->M D
def M4(i:Nat):Fe:=λσ G=>match σ[i]? with
 |some (some d)=>some (.ok d,G)
 |_=>none
def cE(d:D):Fe:=λ_=>pure d
def j6(o:D->D->M D)(a b:Fe):Fe:=λσ=>do o (<-a σ) (<-b σ)
def unE(o:D->M D)(a:Fe):Fe:=λσ=>do o (<-a σ)
def o0:DSt->M (List D):=λ_=>pure []
def x0(a:Fe)(r:DSt->M (List D)):DSt->M (List D):=λσ=>do
 let x <-a σ
 let xs <-r σ
 pure (x::xs)
def C1(F:List D->M D)(a:DSt->M (List D)):Fe:=λσ=>do F (<-a σ)
def lC:D->M Bool
 | .bl b=>pure b
 |_=>M.stuck
def nF(a:Fe):Fe:=λσ=>do pure (.bl (!(<-lC (<-a σ))))
def ifE(t:DSt->M Bool)(a b:Fe):Fe:=λσ=>do if <-t σ then a σ else b σ
section
variable(c:Wc)(Z:XC)
def l8(o:D->D->M D):R2:=λx y H Q=>∃dx dy μ G,d7 c μ H dx x/\d7 c μ H dy y/\j8 c μ G H/\c7 c Z μ H (o dx dy G) λd X9 _ H'=>∀v,d7 c X9 H' d v->Q v H'
def QG(o:D->M D):V->Hp->VK->Prop:=λx H Q=>∃dx μ G,d7 c μ H dx x/\j8 c μ G H/\c7 c Z μ H (o dx G) λd X9 _ H'=>∀v,d7 c X9 H' d v->Q v H'
def qB(F:List D->M D):List V->Hp->VK->Prop:=λxs H Q=>∃ds μ G,g8 c μ H ds xs/\j8 c μ G H/\c7 c Z μ H (F ds G) λd X9 _ H'=>∀v,d7 c X9 H' d v->Q v H'
end
theorem l8.elim{P:Prop}{x:V}{y:V}{Q:VK}(h:l8 c Z o x y H Q)(k:∀dx dy μ G,d7 c μ H dx x->d7 c μ H dy y->j8 c μ G H->c7 c Z μ H (o dx dy G) (λd X9 _ H'=>∀v,d7 c X9 H' d v->Q v H')->P):P:=by obtain⟨e0,e1,e2,e3,e4,e5,e6,e7⟩:=h;exact k e0 e1 e2 e3 e4 e5 e6 e7
theorem QG.elim{P:Prop}{x:V}{Q:VK}(h:QG c Z o x H Q)(k:∀dx μ G,d7 c μ H dx x->j8 c μ G H->c7 c Z μ H (o dx G) (λd X9 _ H'=>∀v,d7 c X9 H' d v->Q v H')->P):P:=by obtain⟨e0,e1,e2,e3,e4,e5⟩:=h;exact k e0 e1 e2 e3 e4 e5
theorem qB.elim{P:Prop}{H:Hp}{Q:VK}(h:qB c Z F xs H Q)(k:∀ds μ G,g8 c μ H ds xs->j8 c μ G H->c7 c Z μ H (F ds G) (λd X9 _ H'=>∀v,d7 c X9 H' d v->Q v H')->P):P:=by obtain⟨e0,e1,e2,e3,e4,e5⟩:=h;exact k e0 e1 e2 e3 e4 e5
structure OpD(X:Cx)(Z:XC)(f:zd->zd->Sem zd)(o:D->D->M D):Prop where
 h:OpR X f (l8 (wc X) Z o)
structure UnD(X:Cx)(Z:XC)(f:zd->Sem zd)(o:D->M D):Prop where
 h:UnR X f (QG (wc X) Z o)
structure K6(X:Cx)(Z:XC)(f:zd)(F:List D->M D):Prop where
 h:N7 X f (qB (wc X) Z F)
theorem OpR.mono(h:OpR X f r)(k:∀x y H Q,r' x y H Q->r x y H Q):OpR X f r':=λpins s σ H x y v u Q I rx ry q=>h pins s σ H x y v u Q I rx ry (k x y H Q q)
theorem N7.mono(h:N7 X f r)(k:∀xs H Q,r' xs H Q->r xs H Q):N7 X f r':=λpins s σ H xs us Q I rx q=>h pins s σ H xs us Q I rx (k xs H Q q)
theorem OpD.of(h:OpR X f r)(k:∀x y H Q,l8 (wc X) Z o x y H Q->r x y H Q):OpD X Z f o:=⟨OpR.mono h k⟩
theorem K6.of(h:N7 X f r)(k:∀xs H Q,qB (wc X) Z F xs H Q->r xs H Q):K6 X Z f F:=⟨N7.mono h k⟩
section
variable{X:Cx}{Z:XC}{a b c e:Expr}{pos:Pos}
theorem qE(σ:St)(H:Hp)(Q:VK)(h:B3 cc Z (j6 o fa fb) σ H Q):tOp (l8 cc Z o) (B3 cc Z fa) (B3 cc Z fb) σ H Q:=by obtain⟨X2,μ,G,s,h,p⟩:=h;exact⟨X2,μ,G,s,h,(c7.bind p).mono λx X0 G1 H1 x' h1 p1 v rv=>⟨X2,X0,G1,s.mono x',h1,(c7.bind p1).mono λy WY G2 H2 x2 h2 p2 u ru=>⟨x,y,WY,G2,rv.mono x2,ru,h2,p2⟩⟩⟩
theorem tQ(h:PE X e (SL i)):DE X Z e (M4 i):=DE.of h λσ H Q Fm=>Fm.elim λX2 μ G s h p=>by
 delta M4 at p;rcases he:X2[i]? with _|_|d
 ·rw[he]at p;exact p.elim
 ·rw[he]at p;exact p.elim
 ·rw[he]at p;obtain⟨v,e1,r⟩:=s.2 i d he;exact⟨v,e1,c7.ok p h v r⟩
theorem KB(h:PE X e (tC v))(r:∀ μ H,d7 (wc X) μ H d v):DE X Z e (cE d):=DE.of h λσ H Q Fm=>Fm.elim λX2 μ G s h p=>c7.ok p h v (r _ _)
theorem Dw{i j pos}:DE X Z (.Constant (.int i) j pos) (cE (.int i)):=KB uK λ_ _=>by unfold d7;rfl
theorem NO{i j pos}:DE X Z (.Constant (.bool i) j pos) (cE (.bl i)):=KB wm λ_ _=>by unfold d7;rfl
theorem uR{j pos}:DE X Z (.Constant .none j pos) (cE .non):=KB wP λ_ _=>by unfold d7;rfl
theorem LX{i j pos}:DE X Z (.Constant (.str i) j pos) (cE (.str i)):=KB KP λ_ _=>by unfold d7;rfl
theorem rO(i:Nat)(hN:X.N[i]? =some x)(hv:Vis X.env.scope x)(hd:(x==("__debug__" :Str))=false)
 (hcd:(x==("__classdict__" :Str))=false):DE X Z (.Name x pos) (M4 i):=tQ (aP hN hv hd hcd)
theorem GX(ho:OpD X Z (jF op) o)(ha:DE X Z a fa)(hb:DE X Z b fb):DE X Z (.BinOp a op b pos) (j6 o fa fb):=
 DE.of (UG ho.h ha.h hb.h) qE
theorem oP(ho:OpD X Z (zH op) o)(ha:DE X Z a fa)(hb:DE X Z b fb)(hm:Yi op b=false):DE X Z (.Compare a [op] [b] pos) (j6 o fa fb):=
 DE.of (MO ho.h ha.h hb.h hm) qE
theorem HV(ho:UnD X Z (unaryOp op) o)(ha:DE X Z a fa):DE X Z (.UnaryOp op a pos) (unE o fa):=
 DE.of (vm ho.h ha.h) λσ H Q Fm=>Fm.elim λX2 μ G s h p=>⟨X2,μ,G,s,h,(c7.bind p).mono λx X0 G1 H1 x' h1 p1 v rv=>⟨x,X0,G1,rv,h1,p1⟩⟩
theorem nK{H:Hp}{d:D}{f:Bool->M α}{G:DH}{K:α->List Addr->DH->Hp->Prop}(p:c7 cc Z μ H ((lC d >>= f) G) K):∃k,d= .bl k/\c7 cc Z μ H (f k G) K:=by
 cases d with
 |bl k=>exact⟨k,rfl,p⟩
 |_=>exact p.elim
theorem LU{op}(h:DE X Z a f):DE X Z (.BoolOp op [a] pos) f:=⟨VO h.h⟩
theorem Cc(ha:DE X Z a fa):DE X Z (.UnaryOp .Not a pos) (nF fa):=
 DE.of (NQ ha.h) λσ H Q Fm=>Fm.elim λX2 μ G s h p=>⟨X2,μ,G,s,h,(c7.bind p).mono λx X0 G1 H1 x' h1 p1 v rv=>by obtain⟨k',rfl,p2⟩:=nK p1;unfold d7 at rv;exact⟨k',rv,c7.ok p2 h1 _ (by unfold d7;rfl)⟩⟩
def n4(f:Fe):DSt->M Bool:=λσ=>do lC (<-f σ)
def Q1(a b:DSt->M Bool):DSt->M Bool:=λσ=>do if <-a σ then b σ else pure false
def orT(a b:DSt->M Bool):DSt->M Bool:=λσ=>do if <-a σ then pure true else b σ
def B5(a:DSt->M Bool):DSt->M Bool:=λσ=>do pure (!(<-a σ))
structure DW(X:Cx)(Z:XC)(e:Expr)(f:DSt->M Bool):Prop where
 h:PW X e (b9 (wc X) Z f)
theorem DW.of(h:PW X e t)(k:∀ σ H Q,b9 (wc X) Z f σ H Q->t σ H Q):DW X Z e f:=⟨PW.mono h k⟩
variable{ta tb:DSt->M Bool}{rest:List Expr}
theorem DW.dt(h:DW X Z a ta):DT X Z a ta:=⟨λpins s σ H Q I q=>h.h _ pins s σ H Q I q⟩
theorem Bc(ho:OpD X Z (zH op) o)(ha:DE X Z a fa)(hb:DE X Z b fb)(hm:Yi op b=false):DT X Z (.Compare a [op] [b] pos) (n4 (j6 o fa fb)):=
 DT.of (AS ho.h ha.h hb.h hm) λσ H Q Fm=>Fm.elim λX2 μ G s h p=>qE σ H _ ⟨X2,μ,G,s,h,(c7.bind p).mono λx X0 G1 H1 x' h1 p1 v rv=>by
  cases x with
  |bl k'=>unfold d7 at rv;exact⟨k',rv,c7.ok p1 h1⟩
  |_=>exact p1.elim⟩
theorem Fh(ha:DT X Z a ta):DW X Z (.BoolOp .And [a] pos) ta:=⟨dU ha.h⟩
theorem IN(ha:DT X Z a ta):DW X Z (.BoolOp .Or [a] pos) ta:=⟨OT ha.h⟩
theorem DR(ha:DT X Z a ta)(hb:DW X Z (.BoolOp .And (b::rest) pos) tb):DW X Z (.BoolOp .And (a::b::rest) pos) (Q1 ta tb):=
 DW.of (Dg ha.h hb.h) λσ H Q Fm=>Fm.elim λX2 μ G s h p=>⟨X2,μ,G,s,h,(c7.bind p).mono λx X0 G1 H1 x' h1 p1=>by
  cases x with
  |true=>exact⟨X2,X0,G1,s.mono x',h1,p1⟩
  |false=>exact c7.ok p1 h1⟩
theorem uP(ha:DT X Z a ta)(hb:DW X Z (.BoolOp .Or (b::rest) pos) tb):DW X Z (.BoolOp .Or (a::b::rest) pos) (orT ta tb):=
 DW.of (GY ha.h hb.h) λσ H Q Fm=>Fm.elim λX2 μ G s h p=>⟨X2,μ,G,s,h,(c7.bind p).mono λx X0 G1 H1 x' h1 p1=>by
  cases x with
  |false=>exact⟨X2,X0,G1,s.mono x',h1,p1⟩
  |true=>exact c7.ok p1 h1⟩
theorem DQ(ha:DT X Z a ta):DT X Z (.UnaryOp .Not a pos) (B5 ta):=
 DT.of (Bb ha.h) λσ H Q Fm=>Fm.elim λX2 μ G s h p=>⟨X2,μ,G,s,h,(c7.bind p).mono λx X0 G1 H1 x' h1 p1=>c7.ok p1 h1⟩
theorem nT(hc:DT X Z c ta)(ha:DE X Z a fa)(hb:DE X Z b fb):DE X Z (.IfExp c a b pos) (ifE ta fa fb):=
 DE.of (qz hc.h ha.h hb.h) λσ H Q Fm=>Fm.elim λX2 μ G s h p=>⟨X2,μ,G,s,h,(c7.bind p).mono λx X0 G1 H1 x' h1 p1=>by
  cases x with
  |true=>exact⟨X2,X0,G1,s.mono x',h1,p1⟩
  |false=>exact⟨X2,X0,G1,s.mono x',h1,p1⟩⟩
theorem OF:DA X Z [] o0:=DA.of IS λσ H Q Fm=>Fm.elim λX2 μ G s h p=>c7.ok p h [] rfl
theorem AF(ha:DE X Z e fa)(hr:DA X Z es fs)(hs:zF (e::es) X.env= (false,eval e X.env)::zF es X.env):DA X Z (e::es) (x0 fa fs):=
 DA.of (bP ha.h hr.h hs) λσ H Q Fm=>Fm.elim λX2 μ G s h p=>⟨X2,μ,G,s,h,(c7.bind p).mono λx X0 G1 H1 x' h1 p1 v rv=>
  ⟨X2,X0,G1,s.mono x',h1,(c7.bind p1).mono λxs WY G2 H2 x2 h2 p2 vs rvs=>c7.ok p2 h2 (v::vs) ⟨v,vs,rfl,rv.mono x2,rvs⟩⟩⟩
def F3(fs:DSt->M (List D)):Fe:=λσ=>do
 let xs <-fs σ
 if xs.length<=zi then pure (.tup xs)else M.stuck
def J4(o:DO):M D:=λG=>some (.ok (.ref G.length),G++[o])
def U9(fs:DSt->M (List D)):Fe:=λσ=>do
 let xs <-fs σ
 if xs.length<=zi then J4 (.lst xs)else M.stuck
theorem PD{G:DH}{Q:VK}(h:j8 cc μ G H)(r:g8 cc μ H xs vs)
 (p:c7 cc Z μ H (some (Except.ok (.tup xs),G)) λd X9 _ H'=>∀v,d7 cc X9 H' d v->Q v H') (q:Addr) (hq:H q=none):Q (.ref q) (upd H q (.tup vs)):=by
 have k:Ext μ H μ (upd H q (.tup vs)):=Ext.lay hq _;refine p μ _ k (h.same k λa o e n=>?_) _ ?_
 ·rw[m6 (m5 e hq)];exact e
 ·unfold d7;exact⟨q,vs,rfl,SqT.of J3,r.mono k⟩
theorem Q9{G:DH}{Q:VK}(h:j8 cc μ G H)(r:g8 cc μ H xs vs)
 (p:c7 cc Z μ H (J4 (.lst xs) G) λd X9 _ H'=>∀v,d7 cc X9 H' d v->Q v H') (q:Addr) (hq:H q=none):Q (.ref q) (upd H q (.lst vs)):=by
 have k:Ext μ H (μ++[q]) (upd H q (.lst vs)):=Ext.add hq _;refine p (μ++[q]) _ k (h.new hq ⟨vs,J3,r.mono k⟩) _ ?_;unfold d7;exact⟨q,by rw[<-h.len];simp,rfl⟩
theorem pU{x1}(h:DA X Z es fs):DE X Z (.Tuple es x1 pos) (F3 fs):=
 DE.of (rT h.h) λσ H Q Fm=>Fm.elim λX2 μ G s h p=>⟨X2,μ,G,s,h,(c7.bind p).mono λxs X0 G1 H1 x' h1 p1 vs rv=>by
  split at p1
  ·rename_i hz;exact⟨by rw[<-rv.length];exact hz,λq hq=>PD h1 rv p1 q hq⟩
  ·exact p1.elim⟩
theorem wO(h:DA X Z es fs):DE X Z (.List es pos) (U9 fs):=
 DE.of (Bw h.h) λσ H Q Fm=>Fm.elim λX2 μ G s h p=>⟨X2,μ,G,s,h,(c7.bind p).mono λxs X0 G1 H1 x' h1 p1 vs rv=>by
  split at p1
  ·rename_i hz;exact⟨by rw[<-rv.length];exact hz,λq hq=>Q9 h1 rv p1 q hq⟩
  ·exact p1.elim⟩
theorem uM(σ:St)(H:Hp)(Q:VK)(h:B3 cc Z (C1 F fs) σ H Q):tCB (qB cc Z F) (wB cc Z fs) σ H Q:=by obtain⟨X2,μ,G,s,h,p⟩:=h;exact⟨X2,μ,G,s,h,(c7.bind p).mono λx X0 G1 H1 x' h1 p1 vs rv=>⟨x,X0,G1,rv,h1,p1⟩⟩
theorem BT{id:String}(hc:K6 X Z (.builtin id) F)(hg:Gl X x)(hm:X.mg x=none)(hv:zK x=some (.builtin id))(ha:DA X Z (e::es) fs)(hn:x≠ "__name__")(hdb:(x==("__debug__" :Str))=false)
 (he:zF (e::es) X.env= (false,eval e X.env)::zF es X.env) (Hh:(yA pos (zF es X.env)).any (·.1)=false):DE X Z (.Call (.Name x p) (e::es) [] pos) (C1 F fs):=
 DE.of (RZ hc.h hg hm hv ha.h hn hdb he Hh) uM
theorem VS(hc:K6 X Z (.type T) F)(hg:Gl X x)(hm:X.mg x=none)(hv:zK x=some (.type T))(ha:DA X Z (e::es) fs)(hn:x≠ "__name__")(hdb:(x==("__debug__" :Str))=false)
 (he:zF (e::es) X.env= (false,eval e X.env)::zF es X.env) (Hh:(yA pos (zF es X.env)).any (·.1)=false):DE X Z (.Call (.Name x p) (e::es) [] pos) (C1 F fs):=
 DE.of (ET hc.h hg hm hv ha.h hn hdb he Hh) uM
def spD(c:Wc)(n:Nat)(F:List D->M D):Sp:=λvs H Q _=>vs.length=n/\∃ds μ G,g8 c μ H ds vs/\j8 c μ G H/\c7 c ZF μ H (F ds G) λd X9 _ H'=>∀v,d7 c X9 H' d v->Q v H'
def noX{α:Type}(m:M α):M α:=λG=>match m G with
 |some (.ok a,G1)=>some (.ok a,G1)
 |_=>none
theorem MG{H:Hp}{G:DH}{K:α->List Addr->DH->Hp->Prop}(p:c7 cc Z μ H (noX m G) K):c7 cc ZF μ H (m G) K:=by
 unfold noX at p
 match m G,p with
 |some (.ok a,G1),p=>exact p
 |some (.error x,G1),p=>exact p.elim
 |none,p=>exact p.elim
def fnX(n:Nat)(F:List D->M D):List D->M D:=λds=>if ds.length=n then noX (F ds)else M.stuck
theorem mO{H:Hp}{n:Nat}{G:DH}{K:D->List Addr->DH->Hp->Prop}(p:c7 cc Z μ H (fnX n F ds G) K):ds.length=n/\c7 cc ZF μ H (F ds G) K:=by
 unfold fnX at p;split at p
 ·rename_i h;exact⟨h,MG p⟩
 ·exact p.elim
theorem OZ(hF:V1 X.prog X.w X.K X.mg X.base CX0 k f fd ps (spD (wc X) n F))(hr:K8 k X.A)(hg:Gl X x)(hm:X.mg x=some (.ref f))(hk:jN X.K (.ref f)=true)(hb:v3 X.K fd ps [])
 (ha:DA X Z (e::es) fs)
 (hdb:(x==("__debug__" :Str))=false) (he:zF (e::es) X.env= (false,eval e X.env)::zF es X.env) (Hh:(yA pos (zF es X.env)).any (·.1)=false):
 DE X Z (.Call (.Name x p) (e::es) [] pos) (C1 (fnX n F) fs):=
 DE.of (NR hF hr hg hm hk hb .nil rL ha.h hdb he Hh) λσ H Q Fm=>Fm.elim λX2 μ G s h p=>by refine⟨X2,μ,G,s,h,(c7.bind p).mono λds' X0 G1 H1 x' h1 p1 vs rv=>?_⟩;obtain⟨hl,p2⟩:=mO p1;show spD (wc X) n F (vs++[]) H1 Q E0;rw[jt];exact⟨by rw[<-rv.length];exact hl,ds',X0,G1,rv,h1,p2⟩
end
abbrev Fs:=DSt->M Fl
def nextS:Fs:=λσ=>pure (.nx σ)
def seqS(a b:Fs):Fs:=λσ=>do
 match <-a σ with
 | .nx X1=>b X1
 |r=>pure r
def o8(f:Fe):Fs:=λσ=>do pure (.rt (<-f σ))
def i3(f:Fe):Fs:=λσ=>do
 let _ <-f σ
 pure (.nx σ)
def ifS(t:DSt->M Bool)(a b:Fs):Fs:=λσ=>do if <-t σ then a σ else b σ
abbrev Fg:=D->DSt->M DSt
abbrev Fgs:=List D->DSt->M DSt
def B1(i:Nat):Fg:=λd σ=>pure (σ.set i (some d))
def u4:Fgs:=λds σ=>match ds with
 |[]=>pure σ
 |_=>M.stuck
def Q4(g:Fg)(r:Fgs):Fgs:=λds σ=>match ds with
 |d::t=>do r t (<-g d σ)
 |[]=>M.stuck
def A4(n:Nat)(g:Fgs):Fg:=λd σ=>match d with
 | .tup l=>if l.length=n then g l σ else M.stuck
 |_=>M.stuck
def G9(f:Fe)(g:Fg):Fs:=λσ=>do
 let d <-f σ
 let X1 <-g d σ
 pure (.nx X1)
section
variable(c:Wc)(Z:XC)
def bA(g:Fg):TG:=λv σ H Q=>∃d X2 μ G,d7 c μ H d v/\t8 c μ H X2 σ/\j8 c μ G H/\c7 c Z μ H (g d X2 G) λWW X9 _ H'=>∀ X1,t8 c X9 H' WW X1->Q X1 H'
def uD(g:Fgs):TGs:=λvs σ H Q=>∃ds X2 μ G,g8 c μ H ds vs/\t8 c μ H X2 σ/\j8 c μ G H/\c7 c Z μ H (g ds X2 G) λWW X9 _ H'=>∀ X1,t8 c X9 H' WW X1->Q X1 H'
end
theorem bA.elim{P:Prop}{v:V}{σ:St}{H:Hp}(h:bA c Z g v σ H Q)(k:∀d X2 μ G,d7 c μ H d v->t8 c μ H X2 σ->j8 c μ G H->c7 c Z μ H (g d X2 G) (λWW X9 _ H'=>∀ X1,t8 c X9 H' WW X1->Q X1 H')->P):P:=by obtain⟨e0,e1,e2,e3,e4,e5,e6,e7⟩:=h;exact k e0 e1 e2 e3 e4 e5 e6 e7
theorem uD.elim{Z:XC}{P:Prop}{σ:St}{H:Hp}(h:uD c Z g vs σ H Q)(k:∀ds X2 μ G,g8 c μ H ds vs->t8 c μ H X2 σ->j8 c μ G H->c7 c Z μ H (g ds X2 G) (λWW X9 _ H'=>∀ X1,t8 c X9 H' WW X1->Q X1 H')->P):P:=by obtain⟨e0,e1,e2,e3,e4,e5,e6,e7⟩:=h;exact k e0 e1 e2 e3 e4 e5 e6 e7
structure DG(X:Cx)(Z:XC)(tg:Expr)(g:Fg):Prop where
 h:PG X tg (bA (wc X) Z g)
structure DGs(X:Cx)(Z:XC)(tgs:List Expr)(g:Fgs):Prop where
 h:PGs X tgs (uD (wc X) Z g)
theorem PG.mono(h:PG X e t)(k:∀v σ H Q,t' v σ H Q->t v σ H Q):PG X e t':=λpins s σ H v u Q I r q=>h pins s σ H v u Q I r (k v σ H Q q)
theorem PGs.mono(h:PGs X e t)(k:∀v σ H Q,t' v σ H Q->t v σ H Q):PGs X e t':=λpins s σ H v u Q I r q=>h pins s σ H v u Q I r (k v σ H Q q)
theorem DG.of(h:PG X e t)(k:∀v σ H Q,bA (wc X) Z g v σ H Q->t v σ H Q):DG X Z e g:=⟨PG.mono h k⟩
theorem DGs.of(h:PGs X e t)(k:∀v σ H Q,uD (wc X) Z g v σ H Q->t v σ H Q):DGs X Z e g:=⟨PGs.mono h k⟩
section
variable{X:Cx}{Z:XC}{st:Stmt}{rest sa sb:List Stmt}{f g:Fs}
theorem qP:DB X Z [] nextS:=DB.of EV λE σ H Fm=>Fm.elim λX2 μ G s h p=>c7.ok p h σ s
theorem RY(h:j8 cc μ G H)
 (p:c7 cc Z μ H ((match fl with| .nx X1=>g X1|r=>pure r:M Fl) G) λfl X9 _ H'=>h9 cc E fl X9 H'):h9 cc {E with nx:=F9 cc Z g E} fl μ H:=by
 cases fl with
 |nx X2=>exact λσ s=>⟨X2,μ,G,s,h,p⟩
 |rt d=>exact c7.ok p h
 |bk X2=>exact c7.ok p h
 |ct X2=>exact c7.ok p h
theorem iL(h1:DS X Z st f)(h2:DB X Z rest g):DB X Z (st::rest) (seqS f g):=
 DB.of (LO h1.h h2.h) λE σ H Fm=>Fm.elim λX2 μ G s h p=>⟨X2,μ,G,s,h,(c7.bind p).mono λfl X0 G1 H1 x' h1 p1=>RY h1 p1⟩
theorem FI(h1:DS X Z st f):DB X Z [st] f:=⟨UQ h1.h⟩
theorem PV(he:DE X Z e fa)(hs:Jh e none pos.line X.env=pure false):DS X Z (.Expr e pos) (i3 fa):=
 DS.of (VX he.h hs) λE σ H Fm=>Fm.elim λX2 μ G s h p=>⟨X2,μ,G,s,h,(c7.bind p).mono λd X0 G1 H1 x' h1 p1 v rv=>c7.ok p1 h1 σ (s.mono x')⟩
theorem qS(he:DE X Z e fa):DS X Z (.Return (some e) pos) (o8 fa):=
 DS.of (BN he.h) λE σ H Fm=>Fm.elim λX2 μ G s h p=>⟨X2,μ,G,s,h,(c7.bind p).mono λd X0 G1 H1 x' h1 p1 v rv=>c7.ok p1 h1 v rv⟩
theorem TQ(hc:DT X Z c t)(ha:DB X Z sa f)(hb:DB X Z sb g):DS X Z (.If c sa sb pos) (ifS t f g):=
 DS.of (BW hc.h ha.h hb.h) λE σ H Fm=>Fm.elim λX2 μ G s h p=>⟨X2,μ,G,s,h,(c7.bind p).mono λx X0 G1 H1 x' h1 p1=>by
  cases x with
  |true=>exact⟨X2,X0,G1,s.mono x',h1,p1⟩
  |false=>exact⟨X2,X0,G1,s.mono x',h1,p1⟩⟩
theorem fI{x:Str}(hN:X.N.Nodup)(hi:X.N[i]? =some x)(hx:Loc X.env.scope x)(hf:X.fn x=true\/X.env.scope.names.lookup x=some .local):DG X Z (.Name x pos) (B1 i):=
 DG.of (Cq hN hi hx hf) λv σ H Q Fm=>Fm.elim λd X2 μ G r s h p=>c7.ok p h _ (s.put r i)
theorem fX:DGs X Z [] u4:=DGs.of gW λvs σ H Q Fm=>Fm.elim λds X2 μ G r s h p=>by
 cases ds with
 |nil=>cases r;exact⟨rfl,c7.ok p h _ s⟩
 |cons _ _=>exact p.elim
theorem RS(h1:DG X Z e gg)(h2:DGs X Z es gr)(hs:(yB (e::es) X.env).map (·.2)=Zn e X.env::(yB es X.env).map (·.2)):DGs X Z (e::es) (Q4 gg gr):=
 DGs.of (hX h1.h h2.h hs) λvs σ H Q Fm=>Fm.elim λds X2 μ G r s h p=>by
  cases ds with
  |nil=>exact p.elim
  |cons d t=>
    obtain⟨v,vr,rfl,rv,rt⟩:=r;exact⟨v,vr,rfl,d,X2,μ,G,rv,s,h,(c7.bind p).mono λdσ1 X0 G1 H1 x' h1 p1 WV s1=>⟨t,dσ1,X0,G1,rt.mono x',s1,h1,p1⟩⟩
theorem oU{gs:Fgs}(hc:X.calm=true)(h:DGs X Z es gs)(hn:(yB es X.env).length=n)(hst:(yB es X.env).findIdx? (·.1)=none):DG X Z (.Tuple es k pos) (A4 n gs):=
 DG.of (LR hc h.h hn hst) λv σ H Q Fm=>Fm.elim λd X2 μ G r s h p=>by
  cases d with
  |tup l=>
    unfold d7 at r;obtain⟨a,vs,rfl,q,rl⟩:=r;have p':c7 (wc X) Z μ H ((if l.length=n then gs l X2 else M.stuck:M DSt) G) λWW X9 _ H'=>∀ X1,t8 (wc X) X9 H' WW X1->Q X1 H':=p;split at p'
    ·rename_i hl;exact⟨a,vs,rfl,q,by rw[<-rl.length];exact hl,l,X2,μ,G,rl,s,h,p'⟩
    ·exact p'.elim
  |_=>exact p.elim
theorem cS(he:DE X Z e fa)(hg:DG X Z tg gg)(hs:swapsWithSole [tg] e pos.line X.env=pure false)(hw:swappedStores [tg] e X.env=pure none)
 (h1:(yB [tg] X.env).map (·.2)= [Zn tg X.env]):DS X Z (.Assign [tg] e pos) (G9 fa gg):=
 DS.of (cP he.h hg.h hs hw h1) λE σ H Fm=>Fm.elim λX2 μ G s h p=>⟨X2,μ,G,s,h,(c7.bind p).mono λd X0 G1 H1 x' h1 p1 v rv=>
  ⟨d,X2,X0,G1,rv,s.mono x',h1,(c7.bind p1).mono λdσ2 WY G2 H2 x2 h2 p2 σ2 s2=>c7.ok p2 h2 σ2 s2⟩⟩
end
def J7:Nat->(DSt->M Bool)->Fs->Fs
 |0,_,_=>λ_=>M.stuck
 |n+1,t,b=>λσ=>do
   if <-t σ then
    match <-b σ with
    | .nx X1=>J7 n t b X1
    | .ct X1=>J7 n t b X1
    | .bk X1=>pure (.nx X1)
    | .rt d=>pure (.rt d)
   else pure (.nx σ)
open Classical in
def U5(t:DSt->M Bool)(b:Fs):Fs:=λσ G=>if h:∃n,(J7 n t b σ G).isSome=true then J7 (ZB h) t b σ G else none
theorem M.bind_mono{f g:α->M β}{r:Except Str β×DH}(h:(m >>= f) G=some r)(k:∀a G',f a G'=some r->g a G'=some r):(m >>= g) G=some r:=by
 rw[M.bind_eq]at h ⊢
 match m G,h with
 |some (.ok a,G'),h=>exact k a G' h
 |some (.error x,G'),h=>exact h
theorem kG{t:DSt->M Bool}:∀ {n} {σ} {G:DH} {r:Except Str Fl×DH},J7 n t b σ G=some r->J7 (n+1) t b σ G=some r
 |0,_,_,_,h=>by exact t6 h
 |n+1,σ,G,r,h=>by
   unfold J7 at h ⊢;refine M.bind_mono h λc G1 h1=>?_
   cases c with
   |true=>
     refine M.bind_mono h1 λfl G2 h2=>?_
     cases fl with
     |nx X1=>exact kG h2
     |ct X1=>exact kG h2
     |bk X1=>exact h2
     |rt d=>exact h2
   |false=>exact h1
theorem NI(hm:n<=m)(h:J7 n t b σ G=some r):J7 m t b σ G=some r:=by
 induction hm with
 |refl=>exact h
 |step _ ih=>exact kG ih
section
theorem lV(hp:Js (zy X.prog X.w) X.A X.env X.xe)(hc:DT X Z c t)(hb:DB X Z body f):DS X Z (.While c body [] pos) (U5 t f):=
 DS.of (UU hp hc.h hb.h) λE σ H Fm=>Fm.elim λX2 μ G s h p=>by
  unfold U5 at p;split at p
  · rename_i ex;refine⟨λm σ H=>∃X2 μ G,t8 (wc X) μ H X2 σ/\j8 (wc X) μ G H/\c7 (wc X) Z μ H (J7 m t f X2 G) λfl X9 _ H'=>h9 (wc X) E fl X9 H',⟨_,X2,μ,G,s,h,p⟩,?_⟩;rintro m σ H ⟨X2,μ,G,s,h,p⟩
    cases m with
    |zero=>exact p.elim
    |succ m=>
      refine⟨X2,μ,G,s,h,(c7.bind p).mono λx X0 G1 H1 x' h1 p1=>?_⟩
      cases x with
      |false=>exact c7.ok p1 h1 σ (s.mono x')
      |true=>
        refine⟨λX1 H'=>∃X2 μ G,t8 (wc X) μ H' X2 X1/\j8 (wc X) μ G H'/\c7 (wc X) Z μ H' (J7 m t f X2 G) λfl X9 _ H'=>h9 (wc X) E fl X9 H',λX1 H' w=>⟨m,Yr _,w⟩,X2,X0,G1,s.mono x',h1,(c7.bind p1).mono λfl WY G2 H2 x2 h2 p2=>?_⟩
        cases fl with
        |nx WW=>exact λX1 s'=>⟨WW,WY,G2,s',h2,p2⟩
        |ct WW=>exact λX1 s'=>⟨WW,WY,G2,s',h2,p2⟩
        |bk WW=>exact λX1 s'=>c7.ok p2 h2 X1 s'
        |rt d=>exact λv r=>c7.ok p2 h2 v r
  ·exact p.elim
end
def M0(g:Fg)(b:Fs)(ck:DH->Bool):List D->Fs
 |[]=>λσ G=>if ck G then some (.ok (.nx σ),G)else none
 | d :: r => λσ G => if ck G then (do
    match <-b (<-g d σ) with
    | .nx X1=>M0 g b ck r X1
    | .ct X1=>M0 g b ck r X1
    | .bk X1=>pure (.nx X1)
    | .rt d=>pure (.rt d):M Fl) G else none
structure Src where
 items:List D
 ck:DH->Bool
def A3(it:DSt->M Src)(g:Fg)(b:Fs):Fs:=λσ=>do
 let s <-it σ
 M0 g b s.ck s.items σ
def ItD(c:Wc)(μ:List Addr)(H:Hp)(J:It)(s:Src):Prop:=∀ X9 G' H',Ext μ H X9 H'->j8 c X9 G' H'->s.ck G'=true->∀i:Nat,
 (∀d,s.items[i]? =some d->J.go i H'/\∀x H2,J.yld i H' x H2->Ext X9 H' X9 H2/\j8 c X9 G' H2/\d7 c X9 H2 d x)/\(s.items.length<=i->J.stop i H')
def bE(c:Wc)(Z:XC)(it:DSt->M Src):TI:=λσ H R=>∃X2 μ G,t8 c μ H X2 σ/\j8 c μ G H/\c7 c Z μ H (it X2 G) λs X9 _ H'=>∀J,ItD c X9 H' J s->R J H'
theorem bE.elim{P:Prop}{σ:St}{H:Hp}(h:bE c Z it σ H R)(k:∀X2 μ G,t8 c μ H X2 σ->j8 c μ G H->c7 c Z μ H (it X2 G) (λs X9 _ H'=>∀J,ItD c X9 H' J s->R J H')->P):P:=by obtain⟨e0,e1,e2,e3,e4,e5⟩:=h;exact k e0 e1 e2 e3 e4 e5
structure DI(X:Cx)(Z:XC)(tg e:Expr)(it:DSt->M Src):Prop where
 h:PI X tg e (bE (wc X) Z it)
theorem PI.mono(h:PI X tg e t)(k:∀ σ H R,t' σ H R->t σ H R):PI X tg e t':=λpins s σ H R I q=>h pins s σ H R I (k σ H R q)
theorem DI.of(h:PI X tg e t)(k:∀ σ H R,bE (wc X) Z it σ H R->t σ H R):DI X Z tg e it:=⟨PI.mono h k⟩
section
def hW(c:Wc)(E:m7)(fl:Fl)(μ:List Addr)(_:DH)(H:Hp):Prop:=h9 c E fl μ H
inductive KM(c:Wc)(Z:XC)(gg:Fg)(f:Fs)(sr:Src)(E:m7)(X0:List Addr)(H1:Hp)(i:Nat)(σ:St)(H:Hp):Prop
 |mk (X2:DSt) (μ:List Addr) (G:DH) (k:Ext X0 H1 μ H) (s:t8 c μ H X2 σ) (h:j8 c μ G H) (p:c7 c Z μ H (M0 gg f sr.ck (sr.items.drop i) X2 G) (hW c E))
theorem ON(hp:Js (zy X.prog X.w) X.A X.env X.xe)(hc:X.calm=true)(hi:DI X Z tg iter it)(hg:DG X Z tg gg)(hb:DB X Z body f)(hs:∀x,yg iter X.env x=pure x):
 DS X Z (.For tg iter body [] pos) (A3 it gg f):=
 DS.of (nU hp hc hi.h hg.h hb.h hs) λE σ H Fm=>Fm.elim λX2 μ G s h p=>⟨X2,μ,G,s,h,(c7.bind p).mono λsr X0 G1 H1 x' h1 p1 J hJ=>by
  refine⟨λi m X1 H'=>m=sr.items.length-i/\i<=sr.items.length/\KM (wc X) Z gg f sr E X0 H1 i X1 H',
   ⟨sr.items.length,rfl,zW _,X2,X0,G1,Ext.refl _ _,s.mono x',h1,p1⟩,?_⟩
  rintro i m X1 H' ⟨rfl,hi',WW,X9,G',k',s',h',p'⟩;by_cases Gd:i<sr.items.length
  · rw[xE Gd]at p';unfold M0 at p';split at p'
    · rename_i ck;obtain⟨q1,_⟩:=hJ X9 G' H' k' h' ck i;obtain⟨go,yl⟩:=q1 _ (zq Gd);refine .inr ⟨go,λσ2 H2=>KM (wc X) Z gg f sr E X0 H1 (i+1) σ2 H2,λσ2 H2 w=>⟨sr.items.length-(i+1),Zr _ _ Gd,rfl,Gd,w⟩,λx H2 y=>?_⟩;obtain⟨k2,h2,rx⟩:=yl x H2 y;have p2:=c7.bind (p'.from k2);refine⟨_,WW,X9,G',rx,s'.mono k2,h2,p2.mono λdσ3 WN G3 H3 x3 h3 p3 WJ s3=>?_⟩;refine⟨dσ3,WN,G3,s3,h3,(c7.bind p3).mono λfl WI G4 H4 x4 h4 p4=>?_⟩
      cases fl with
      |nx dσ4=>exact λσ4 s4=>⟨dσ4,WI,G4,k'.trans (k2.trans (x3.trans x4)),s4,h4,p4⟩
      |ct dσ4=>exact λσ4 s4=>⟨dσ4,WI,G4,k'.trans (k2.trans (x3.trans x4)),s4,h4,p4⟩
      |bk dσ4=>exact λσ4 s4=>c7.ok p4 h4 σ4 s4
      |rt d=>exact λv r=>c7.ok p4 h4 v r
    ·exact p'.elim
  · have e:i=sr.items.length:=Nat.le_antisymm hi' (Nat.le_of_not_lt Gd);subst e;rw[JX]at p';unfold M0 at p';split at p'
    ·rename_i ck;obtain⟨_,q2⟩:=hJ X9 G' H' k' h' ck sr.items.length;exact .inl ⟨q2 (zh _),c7.ok p' h' X1 s'⟩
    ·exact p'.elim⟩
end
def t3(env:Env):List (Str×NameKind)->List (Str×Addr)->List (Str×Addr)
 |[],cs=>cs
 |(n,k)::r,cs=>t3 env r (if k == .free then (match env.cells.lookup n with|some c=>(n,c)::cs|none=>cs)else cs)
theorem FM:∀l cs,(∀p∈l,p.2= .free->∃c,env.cells.lookup p.1=some c)->
 (forIn l cs (fun(x:Str×NameKind) (cs:List (Str×Addr))=>(match x with|(name,kind)=>if (kind==NameKind.free)=true then do let c <-JH env name;pure (ForInStep.yield ((name,c)::cs))else pure (ForInStep.yield cs):Sem (ForInStep (List (Str×Addr))))):Sem (List (Str×Addr)))=pure (t3 env l cs)
 |[],cs,_=>rfl
 |(n,k)::r,cs,h=>by
  have ih:=λcs'=>FM r cs' λp hp=>h p (zk _ hp);rw[Zc];unfold t3;rcases hk:(k==NameKind.free)with _|_
  ·
    have e:(match ((n,k):Str×NameKind) with|(name,kind)=>if (kind==NameKind.free)=true then do let c <-JH env name;pure (ForInStep.yield ((name,c)::cs))else pure (ForInStep.yield cs):Sem (ForInStep (List (Str×Addr))))=pure (ForInStep.yield cs):=by show (if (k==NameKind.free)=true then _ else _)=_;rw[hk];rfl
    rw[e];exact ih cs
  ·
    obtain⟨c,hc⟩:=h (n,k) zr (by simpa using hk);have hcell:JH env n=pure c:=by unfold JH;rw[hc]
    have e:(match ((n,k):Str×NameKind) with|(name,kind)=>if (kind==NameKind.free)=true then do let c <-JH env name;pure (ForInStep.yield ((name,c)::cs))else pure (ForInStep.yield cs):Sem (ForInStep (List (Str×Addr))))=pure (ForInStep.yield ((n,c)::cs)):=by show (if (k==NameKind.free)=true then (do let c <-JH env n;pure (ForInStep.yield ((n,c)::cs)))else _)=_;rw[hk,hcell];rfl
    rw[e,hc];exact ih ((n,c)::cs)
theorem kf(h:∀p∈scope.names,p.2= .free->∃c,env.cells.lookup p.1=some c):closureFor scope env=pure (t3 env scope.names []):=by have q:=FM scope.names [] h;unfold closureFor;dsimp only;rw[q];rfl
theorem sJ:∀l cs,(cs.lookup x=some c->env.cells.lookup x=some c)->(t3 env l cs).lookup x=some c->env.cells.lookup x=some c
 |[],cs,h,e=>h e
 |(n,k)::r,cs,h,e=>by
  unfold t3 at e;refine sJ r _ (λe1=>?_) e;split at e1
  · split at e1
    · rename_i c' hc;rw[jR]at e1;split at e1
      · rename_i hx;have hx':x=n:=by simpa using hx
        subst hx'
        cases e1
        exact hc
      ·exact h e1
    ·exact h e1
  ·exact h e1
theorem O1(h:(t3 env l []).lookup x=some c):env.cells.lookup x=some c:=sJ l [] (λz=>by exact t6 z) h
theorem aJ:∀l cs,(∃c,cs.lookup x=some c)->∃c,(t3 env l cs).lookup x=some c
 |[],cs,h=>h
 |(n,k)::r,cs,h=>by
  unfold t3;refine aJ r _ ?_;split
  · split
    · rename_i c' hc;rw[jR];split
      ·exact⟨_,rfl⟩
      ·exact h
    ·exact h
  ·exact h
theorem aG(hc:env.cells.lookup x=some c):∀l cs,(x,NameKind.free)∈l->∃c,(t3 env l cs).lookup x=some c
 |[],cs,h=>by simp at h
 |(n,k)::r,cs,h=>by
  unfold t3;rcases zz.mp h with e|h
  · cases e
    refine aJ r _ ?_;rw[hc];simp
  ·exact aG hc r _ h
section
theorem MU(I:Nat->zm->Prop)
 (turn:∀n s,I n s->zp (zy prog w) A (Zm it) (λr W1=>match r with
   |none=>R (.ok .next) W1
   | some v => zp (zy prog w) A (yR target it v) (λ_ s₁' => zp (zy prog w) A (Zn target env v) (λ_ s₂ =>
      zp (zy prog w) A (forIn ifs true λc r=>if r=true then do let ok <-isTrue c env (eval c env);pure (ForInStep.yield ok)else pure (ForInStep.yield r)) (λok s₃=>
       if ok=true then zp (zy prog w) A (eval elt env) (λx s₄=>
        zp (zy prog w) A (call (.builtin "list.append") [Fw,x]) (λ_ s₅=>∃m,m<n/\I m s₅) (λ_ _=>False) s₄) (λ_ _=>False) s₃
       else ∃m,m<n/\I m s₃) (λ_ _=>False) s₂) (λ_ _=>False) s₁') (λ_ _=>False) W1) (λ_ _=>False) s)
 (n:Nat) (h:I n s):
 YA (zy prog w) A (.compLoop (.ListComp elt [⟨target,iter,ifs,0⟩] scope pos) 0 it Fw env) R s:=by
 refine codeAny_loop rfl I (λn s hI=>?_) n h;show zp _ A ((compTurn (.ListComp elt [⟨target,iter,ifs,0⟩] scope pos) 0 it Fw env).onRaise (λx=>do noteFrame x env;theTreesLotGoes x)) _ _ s;refine wpAny_noted ?_;rw[compTurn_list];refine za (xV (za (jf (turn n s hI) (λr W1 h₁=>?_) λ_ _ h'=>h'.elim)));rcases r with _|v
 ·exact zl h₁
 ·
   refine za (jf h₁ (λ_ s₁' h₁'=>?_) λ_ _ h'=>h'.elim);refine za (jf h₁' (λ_ s₂ h₂=>za (jf h₂ (λok s₃ h₃=>?_) λ_ _ h'=>h'.elim)) λ_ _ h'=>h'.elim);rcases ok with _|_
   ·
     exact zl ⟨rfl,h₃⟩
   ·
     exact za (za (jf h₃ (λx s₄ h₄=>za (jf h₄ (λ_ s₅ h₅=>zl (zl ⟨rfl,h₅⟩)) λ_ _ h'=>h'.elim)) λ_ _ h'=>h'.elim))
end
def K3(X:Cx)(scope:Scope)(N:List Str)(C:Addr)(s:zm)(H:Hp)(ex:List Addr):Cx where
 prog:=X.prog
 w:=X.w
 K:=X.K
 mg:=X.mg
 base:=X.base
 A:=X.A
 N:=N
 WX:=s
 H₀:=H
 env:=compEnvC scope (t3 X.env scope.names []) C X.env
 outer:=X.stack
 stack:=X.stack
 ex:=ex
 fn:=λ_=>false
 calm:=X.calm
 pn:= []
 xe:=λ_ _=>False
structure U6(X:Cx)(scope:Scope)(N:List Str)(caps:List (Option Nat)):Prop where
 kind:scope.kind= .function
 cell:∀y∈scope.names,y.2≠ .cell
 names:∀y∈scope.names,y.2= .local->scope.names.lookup y.1=some .local
 free:∀y∈scope.names,y.2= .free->X.env.kindOf y.1=some .cell\/X.env.kindOf y.1=some .free
 frees:∀y∈scope.names,y.2= .free->scope.names.lookup y.1=some .free
 len:caps.length=N.length
 caps:∀(i j:Nat),caps[i]? =some (some j)->∃x,N[i]? =some x/\X.N[j]? =some x/\(x,NameKind.free)∈scope.names
def F2{α:Type}(caps:List (Option Nat))(σ:List (Option α)):List (Option α):=caps.map λo=>o.bind λj=>(σ[j]?).join
theorem iF{env:Env}:∀names:List (Str×NameKind),(names.map fun(n,k)=>if (k==NameKind.free&&env.scope.kind == .function&&env.kindOf n==some .cell)then (n,NameKind.cell)else (n,k)).lookup x=
 (names.lookup x).map λk=>if (k==NameKind.free&&env.scope.kind == .function&&env.kindOf x==some .cell)then NameKind.cell else k
 |[]=>rfl
 |(n,k)::r=>by
  have ih:=iF (env:=env) (x:=x) r;rw[zN];by_cases hx:x=n
  · subst hx;dsimp only;split
    ·rename_i h;simp[jR];simp at h;simp[h]
    ·rename_i h;simp[jR];simp at h;intro a b c;exact absurd c (h a b)
  · have hb:(x==n)=false:=by simpa using hx
    dsimp only;split
    ·rw[jR,jR,hb];exact ih
    ·rw[jR,jR,hb];exact ih
section
variable{X:Cx}{scope:Scope}{N:List Str}{caps:List (Option Nat)}
theorem U6.isFree(k:U6 X scope N caps){x:Str}(h:(JE scope X.env).names.lookup x=some .cell\/(JE scope X.env).names.lookup x=some .free):(x,NameKind.free)∈scope.names:=by
 have e:(JE scope X.env).names.lookup x= (scope.names.lookup x).map λk=>if (k==NameKind.free&&X.env.scope.kind == .function&&X.env.kindOf x==some .cell)then NameKind.cell else k:=iF scope.names;rw[e]at h;rcases hl:scope.names.lookup x with _|kd
 ·rw[hl]at h;rcases h with h|h<;>exact t6 h
 ·
   rw[hl]at h;have hm:=ye hl;have hn:=k.cell _ hm;simp only[Ym]at h
   cases kd with
   |free=>exact hm
   |cell=>exact absurd rfl hn
   |_=>rcases h with h|h<;>simp at h
theorem U6.cells(k:U6 X scope N caps)(ok:X.Ok):∀p∈scope.names,p.2= .free->∃c,X.env.cells.lookup p.1=some c:=λp hp e=>ok.has p.1 (k.free p hp e)
theorem OP(I:Inv X pins σ H s)(k:U6 X scope N caps)(hC:s.heap.objs.size<=C)(Hj:∀b∈ex,W0 X pins H b)(Gd:∀b∈ex,b<s.heap.objs.size):(K3 X scope N C s H ex).Ok where
 mod:=I.ok.mod
 kind:=k.kind
 glob:=I.ok.glob
 blt:=I.ok.blt
 above:=hC
 inj:=λx y c h1 h2=>I.ok.inj x y c (O1 h1) (O1 h2)
 has:=λx hx=>by have hm:=k.isFree hx;obtain⟨c,hc⟩:=k.cells I.ok _ hm rfl;exact aG hc _ _ hm
 cab:=λx c h=>by exact mE h
 hd:=I.ok.hd
 frames:=I.ok.frames
 stk:=.inl rfl
 exf:=λb hb=>⟨zE (zQ (Gd b hb) hC),λx c e=>(Hj b hb).2.2.2.2.1 x c (O1 e)⟩
 bs:=I.bs
 bsz:=zP I.ok.bsz I.sz
 noex:=λb o e hb=>by
  rcases (Hj b hb).2.2.2.1 with z|z
  ·exact I.ok.noex b o e z
  ·exact absurd (zQ (zo (I.ok.bs b o e).1) z) (jQ _)
 exfs:=λb hb z=>by
  rcases zz.mp (I.stkSub b z)with e|e
  ·exact(Hj b hb).2.1 e
  ·exact(Hj b hb).2.2.1 e
 funs:=I.stack
 frf:=I.stkFree
 gd:=I.ok.gd
theorem DJ{σ:List (Option α)}{i:Nat}(h:(F2 caps σ)[i]? =some (some v)):∃j,caps[i]? =some (some j)/\σ[j]? =some (some v):=by
 unfold F2 at h;rw[jr]at h;rcases e:caps[i]? with _|o
 ·rw[e]at h;exact t6 h
 ·
   rw[e]at h;rcases o with _|j
   ·cases h
   ·
     refine⟨j,rfl,?_⟩;simp only[Ym,Jv,ja]at h;rcases e2:σ[j]? with _|w
     ·rw[e2]at h;exact t6 h
     ·rw[e2]at h;simp at h;rw[h]
theorem SZ{h₁:Heap}{tk:Nat}(I:Inv X pins σ H s)(k:U6 X scope N caps)(hC:s.heap.objs.size<C)(Hj:∀b∈ex,W0 X pins H b)(Gd:∀b∈ex,b<s.heap.objs.size)
 (old:∀b o,s.heap.get? b=some o->h₁.get? b=some o) (hns:h₁.Ns C λ_=>none) (Hg:h₁.get? s.heap.objs.size=some {cls:=.type "list",data:=.seq ([]:List zd).toArray 0}):
 Inv (K3 X scope N C s H ex) [] (F2 caps σ) (upd H s.heap.objs.size (.lst [])) {s with heap:=h₁,toks:=tk}:=by
 have hD:H s.heap.objs.size=none:=I.hok.fresh (zh _);refine⟨OP I k (xa hC) Hj Gd,rfl,I.bare,Un.laid old (zh _) hD,⟨_,hns,λi x v h1 h2 h3=>?_⟩,λx c e=>?_,?_,λx c e=>?_,λp hp=>absurd (show p∈([]:PNS)from hp) (by simp),?_,?_⟩
 · obtain⟨j,e1,e2⟩:=DJ h2;obtain⟨y,e3,e4,e5⟩:=k.caps i j e1;have exy:y=x:=by
    have:some y=some x:=e3.symm.trans h1;exact je this
   subst exy;have hk:=k.free _ e5 rfl;obtain⟨m,hn,hl⟩:=I.loc;obtain⟨u,r,l⟩:=hl j y v e4 e2 (by rcases hk with z|z;exact .inr (.inl z);exact .inr (.inr z));refine⟨u,r,.inr ?_⟩;rcases l with⟨z,_⟩|⟨_,c,ec,hc⟩
   ·rcases hk with z'|z'<;>(rw[z]at z';cases z')
   · refine⟨?_,c,?_,?_⟩
     · rcases h3 with h3|h3|h3
       ·exfalso;have e:(JE scope X.env).names.lookup y= (scope.names.lookup y).map λk=>if (k==NameKind.free&&X.env.scope.kind == .function&&X.env.kindOf y==some .cell)then NameKind.cell else k:=iF scope.names;have h3':(JE scope X.env).names.lookup y=some .local:=h3;rw[e]at h3';rw[k.frees _ e5 rfl]at h3';simp only[Ym]at h3';split at h3'<;>cases h3'
       ·exact .inl h3
       ·exact .inr h3
     · obtain⟨c',ec'⟩:=aG ec scope.names [] e5;have:=O1 ec';rw[ec]at this
       cases this
       exact ec'
     ·obtain⟨o,ho,hd⟩:=hc;exact⟨o,old _ _ ho,hd⟩
 ·obtain⟨v,o,ho,hd⟩:=I.cell x c (O1 e);exact⟨v,o,old _ _ ho,hd⟩
 ·show upd H s.heap.objs.size (.lst []) C=none;rw[m6 (xt hC)];exact I.hok.fresh (xa hC)
 ·obtain⟨v,o,ho,hd⟩:=I.cell x c (O1 e);rw[m6 (zE (zo ho))];exact I.freeC x c (O1 e)
 ·exact I.hok.laid old (zh _) ⟨zW _, [],0,.nil,Hg⟩
 ·show (F2 caps σ).length=N.length;unfold F2;rw[zn];exact k.len
theorem kU(I:Inv X pins σ H s)(Hj:∀b∈ex,W0 X pins H b)(hC:s.heap.objs.size<C)
 (I':Inv (K3 X scope N C s H ex) pins' X1 H' s') (sb:yS C s'.heap h'):Inv X pins σ H' {s' with heap:=h'}:=by
 have hos:s'.os=s.os:=I'.os;have hfree:H' C=none:=I'.free;have neC:∀b o,s.heap.get? b=some o->b≠C:=λb o e z=>by have:=zo e;rw[z]at this;exact absurd (yZ hC this) (jQ _)
 have hun:Un (frs X.stack) ex H H' s.heap s'.heap:=I'.base;have hun2:Un (frs X.stack) ex H H' s.heap h':=by
  refine⟨λb o e n hb hx=>(sb.2 b (neC b o e)).trans (hun.keep b o e n hb hx),λb o e n hb hx=>?_,hun.free,λb o e hx=>?_,hun.tups,hun.frzs,hun.tbls⟩
  ·obtain⟨sl,q⟩:=hun.slot b o e n hb hx;exact⟨sl,(sb.2 b (neC b o e)).trans q⟩
  ·obtain⟨o',q⟩:=hun.there b o e hx;exact⟨o',(sb.2 b (neC b o e)).trans q⟩
 have hok2:HOk X.prog X.w H' h':=λa o e=>by
  have nc:∀c u,H' c=some u->c≠C:=λc u q z=>by rw[z,hfree]at q;exact t6 q
  refine(I'.hok a o e).stay (λb u hb q=>?_) (λ_ q=>q) λ_ _ q=>q;rcases hb with rfl|hb
  ·exact(sb.2 b (nc b o e)).trans q
  ·exact(sb.2 b (nc b _ hb)).trans q
 obtain⟨hh,g,d,t,os'⟩:=s';obtain rfl:os'=s.os:=hos;have fin:=I.call (d':=d) (t':=t) hun2 hok2 I'.bare λb hb=>⟨(Hj b hb).2.2.2.1,(Hj b hb).2.1,(Hj b hb).2.2.2.2.1,(Hj b hb).2.2.2.2.2⟩;exact fin
end
def hide(q:Addr)(H:Hp):Hp:=λb=>if b=q then none else H b
theorem Z9:hide q H q=none:=by unfold hide;rw[if_pos rfl]
theorem K9(h:b≠q):hide q H b=H b:=by unfold hide;rw[if_neg h]
theorem J9(h:hide q H b=some o):b≠q/\H b=some o:=by
 by_cases e:b=q
 ·rw[e,Z9]at h;exact t6 h
 ·rw[K9 e]at h;exact⟨e,h⟩
theorem tV(h:H q=some o):upd (hide q H) q o=H:=by
 funext b;by_cases e:b=q
 ·rw[e,J3,h]
 ·rw[m6 e,K9 e]
theorem aB:hide q (upd H q o)=hide q H:=by
 funext b;by_cases e:b=q
 ·rw[e,Z9,Z9]
 ·rw[K9 e,K9 e,m6 e]
theorem tE(h:H q=none):hide q H=H:=by
 funext b;by_cases e:b=q
 ·rw[e,Z9,h]
 ·rw[K9 e]
section
mutual
theorem d7.sq(k:∀a xs,SqT c.K H a xs->SqT c.K H' a xs):∀ {d} {v},d7 c μ H d v->d7 c μ H' d v
 | .non,_,h=>h
 | .bl _,_,h=>h
 | .int _,_,h=>h
 | .str _,_,h=>h
 | .ty _,_,h=>h
 | .fn _,_,h=>h
 | .ref i,v,h=>by unfold d7 at h ⊢;exact h
 | .tup l,v,h=>by unfold d7 at h ⊢;obtain⟨a,vs,e,q,r⟩:=h;exact⟨a,vs,e,k _ _ q,g8.sq k r⟩
theorem g8.sq(k:∀a xs,SqT c.K H a xs->SqT c.K H' a xs):∀ {l} {vs},g8 c μ H l vs->g8 c μ H' l vs
 |[],_,h=>h
 |d::ds,vs,h=>by unfold g8 at h ⊢;obtain⟨v,r,e,q,t⟩:=h;exact⟨v,r,e,d7.sq k q,g8.sq k t⟩
end
theorem Q6.sq(k:∀a xs,SqT c.K H a xs->SqT c.K H' a xs):∀ {l} {vs},Q6 c μ H l vs->Q6 c μ H' l vs
 |[],_,h=>h
 |(_,d)::ds,vs,h=>by obtain⟨v,r,e,q,t⟩:=h;exact⟨v,r,e,d7.sq k q,Q6.sq k t⟩
theorem F8(hq:H q=some (.lst vs)){K:ze}(a:Addr)(xs:List V)(h:SqT K H a xs):SqT K (hide q H) a xs:=by
 rcases h with(h|⟨o,h⟩)|h
 ·exact .inl (.inl (by rw[K9 (λe=>by rw[e,hq]at h;cases h)];exact h))
 ·exact .inl (.inr ⟨o,by rw[K9 (λe=>by rw[e,hq]at h;cases h)];exact h⟩)
 ·exact .inr h
theorem gB{K:ze}(a:Addr)(xs:List V)(h:SqT K (hide q H) a xs):SqT K H a xs:=by
 rcases h with(h|⟨o,h⟩)|h
 ·exact .inl (.inl (J9 h).2)
 ·exact .inl (.inr ⟨o,(J9 h).2⟩)
 ·exact .inr h
theorem t8.sq(k:∀a xs,SqT c.K H a xs->SqT c.K H' a xs)(h:t8 c μ H X2 σ):t8 c μ H' X2 σ:=⟨h.1,λi d e=>let ⟨v,a,b⟩:=h.2 i d e;⟨v,a,b.sq k⟩⟩
theorem Ext.hide(x:Ext μ H X9 H')(n:q∉μ)(hq:H q=some (.lst vs)):H' q=some (.lst vs)/\q∉X9/\Ext μ (DL.hide q H) X9 (DL.hide q H'):=by
 refine⟨x.oth q _ hq n,λh=>?_,x.pre,λa h1 h2=>?_,λb o e nb=>?_,λb xs e=>?_,λb o u e=>?_⟩
 ·have:=x.new q h n;rw[hq]at this;exact PC this
 · by_cases e:a=q
   ·rw[e,Z9]
   ·rw[K9 e];exact x.new a h1 h2
 ·obtain⟨e1,e2⟩:=J9 e;rw[K9 e1];exact x.oth b o e2 nb
 ·obtain⟨e1,e2⟩:=J9 e;rw[K9 e1];exact x.tup b xs e2
 ·obtain⟨e1,e2⟩:=J9 e;rw[K9 e1];exact x.frz b o u e2
theorem Ext.unhide(x:Ext μ H X9 (DL.hide q H')):Ext μ H X9 H':=
 ⟨x.pre,x.new,λb o e n=>(J9 (x.oth b o e n)).2,λb xs e=>(J9 (x.tup b xs e)).2,λb o u e=>(J9 (x.frz b o u e)).2⟩
theorem j8.hide(h:j8 c μ G H)(n:q∉μ)(hq:H q=some (.lst vs)):j8 c μ G (DL.hide q H):=
 ⟨h.len,h.inj,λi o a g m=>by
  have na:a≠q:=λe=>n (by rw[<-e];exact yb m);have r:=h.obj i o a g m
  cases o with
  |lst l=>obtain⟨ws,e,r⟩:=r;exact⟨ws,by rw[K9 na];exact e,r.sq (F8 hq)⟩
  |dct l=>obtain⟨ws,e,r⟩:=r;exact⟨ws,by rw[K9 na];exact e,r.sq (F8 hq)⟩
  |rod l=>obtain⟨ws,o,e,r⟩:=r;exact⟨ws,o,by rw[K9 na];exact e,r.sq (F8 hq)⟩
  |rol l=>
    obtain⟨ws,e,r⟩:=r;refine⟨ws,?_,r.sq (F8 hq)⟩;rcases e with⟨o,e⟩|e
    ·exact .inl ⟨o,by rw[K9 na];exact e⟩
    ·exact .inr e⟩
theorem j8.unhide(h:j8 c μ G (DL.hide q H)):j8 c μ G H:=
 ⟨h.len,h.inj,λi o a g m=>by
  have r:=h.obj i o a g m
  cases o with
  |lst l=>obtain⟨ws,e,r⟩:=r;exact⟨ws,(J9 e).2,r.sq gB⟩
  |dct l=>obtain⟨ws,e,r⟩:=r;exact⟨ws,(J9 e).2,r.sq gB⟩
  |rod l=>obtain⟨ws,o,e,r⟩:=r;exact⟨ws,o,(J9 e).2,r.sq gB⟩
  |rol l=>
    obtain⟨ws,e,r⟩:=r;refine⟨ws,?_,r.sq gB⟩;rcases e with⟨o,e⟩|e
    ·exact .inl ⟨o,(J9 e).2⟩
    ·exact .inr e⟩
inductive UH{α:Type}(c:Wc)(q:Addr)(vs:List V)(μ:List Addr)(H:Hp)(K:α->List Addr->DH->Hp->Prop)(a:α)(X9:List Addr)(G':DH)(H':Hp):Prop
 |mk (e:H' q=some (.lst vs)) (n:q∉X9) (h:j8 c X9 G' (DL.hide q H')) (x:Ext μ (DL.hide q H) X9 (DL.hide q H')) (k:K a X9 G' (DL.hide q H'))
theorem c7.unhide{r:Option (Except Str α×DH)}{K:α->List Addr->DH->Hp->Prop}(n:q∉μ)(hq:H q=some (.lst vs))(p:c7 c ZF μ (DL.hide q H) r K):
 c7 c Z μ H r (UH c q vs μ H K):=by
 match r,p with
 |some (.ok a,G'),p=>
   intro X9 H' x h;obtain⟨e1,e2,e3⟩:=x.hide n hq;have h2:=h.hide e2 e1;exact⟨e1,e2,h2,e3,p X9 _ e3 h2⟩
 |some (.error z,G'),p=>
   intro X9 H' x h;obtain⟨e1,e2,e3⟩:=x.hide n hq;exact(p X9 _ e3 (h.hide e2 e1)).elim
theorem j8.mem_lt(I:Inv X pins σ H s)(h:j8 (wc X) μ G H)(ha:a∈μ):a<s.heap.objs.size:=by
 obtain⟨i,hi⟩:=XU ha;have hl:i<G.length:=by rw[<-h.len];exact lt_of_get hi
 have r:=h.obj i G[i] a (zq hl) hi;rcases e:G[i]with l|l|l|l
 ·rw[e]at r;obtain⟨_,e,_⟩:=r;exact I.hok.lt e
 ·
   rw[e]at r;obtain⟨ws,e,_⟩:=r;rcases e with⟨o,e⟩|e
   ·exact I.hok.lt e
   · rcases e with(e|⟨o,e⟩)|⟨o,Fj,n,e,_⟩
     ·exact t6 e
     ·exact t6 e
     ·exact zo (I.kIn a o e)
 ·rw[e]at r;obtain⟨_,e,_⟩:=r;exact I.hok.lt e
 ·rw[e]at r;obtain⟨_,_,e,_⟩:=r;exact I.hok.lt e
end
def PTs(X:Cx)(ifs:List Expr)(t:TT):Prop:=
 ∀(pins:PNS) (s:zm) (σ:St) (H:Hp) (Q:Bool->Hp->Prop),Inv X pins σ H s->t σ H Q->
  zp (zy X.prog X.w) X.A (forIn ifs true λc r=>if r=true then do let ok <-isTrue c X.env (eval c X.env);pure (ForInStep.yield ok)else pure (ForInStep.yield r)) (TP X pins σ Q) X.xe s
structure DTs(X:Cx)(Z:XC)(ifs:List Expr)(f:DSt->M Bool):Prop where
 h:PTs X ifs (b9 (wc X) Z f)
def K2:DSt->M Bool:=λ_=>pure true
theorem Bx:DTs X Z [] K2:=⟨λpins s σ H Q I Fm=>Fm.elim λX2 μ G sr h p=>wpAny_tests_nil ⟨H,I,c7.ok p h⟩⟩
theorem cT(h:DT X Z c t):DTs X Z [c] t:=⟨λpins s σ H Q I q=>wpAny_tests_one (h.h pins s σ H Q I q)⟩
def M7(g:Fg)(t:DSt->M Bool)(e:Fe)(ck:DH->Bool):List D->DSt->M (List D)
 |[]=>λ_ G=>if ck G then some (.ok [],G)else none
 | d :: r => λσ G => if ck G then (do
    let WV <-g d σ
    if <-t WV then do
     let y <-e WV
     let ys <-M7 g t e ck r WV
     pure (y::ys)
    else M7 g t e ck r WV:M (List D)) G else none
def N6(it:DSt->M Src)(caps:List (Option Nat))(g:Fg)(t:DSt->M Bool)(e:Fe):Fe:=λσ=>do
 let s <-it σ
 if s.items.length<=zi then do
  let ys <-noX (M7 g t e s.ck s.items (F2 caps σ))
  J4 (.lst ys)
 else M.stuck
theorem vQ(h:t8 c μ H X2 σ):t8 c μ H (F2 caps X2) (F2 caps σ):=by refine⟨by simp[F2],λi d e=>?_⟩;obtain⟨j,e1,e2⟩:=DJ e;obtain⟨v,e3,r⟩:=h.2 j d e2;refine⟨v,?_,r⟩;unfold F2;rw[jr,e1];simp[e3]
section
set_option maxHeartbeats 1000000 in
def CKV(c:Wc)(Q:VK)(d:D)(X9:List Addr)(_:DH)(H':Hp):Prop:=∀v,d7 c X9 H' d v->Q v H'
def CKR(c:Wc)(Z:XC)(Q:VK)(ys rest:List D)(μ:List Addr)(G:DH)(H:Hp):Prop:=c7 c Z μ H (J4 (.lst (ys++rest)) G) (CKV c Q)
def EM(gg:Fg)(tt:DSt->M Bool)(fe:Fe)(ck:DH->Bool)(items:List D)(σ:DSt)(y:D):M (List D):=do let ys <-M7 gg tt fe ck items σ;pure (y::ys)
def tI(gg:Fg)(tt:DSt->M Bool)(fe:Fe)(ck:DH->Bool)(items:List D)(σ:DSt)(b:Bool):M (List D):=if b=true then (do let y <-fe σ;let ys <-M7 gg tt fe ck items σ;pure (y::ys))else M7 gg tt fe ck items σ
def KY(gg:Fg)(tt:DSt->M Bool)(fe:Fe)(ck:DH->Bool)(items:List D)(σ:DSt):M (List D):=do if <-tt σ then do {let y <-fe σ;let ys <-M7 gg tt fe ck items σ;pure (y::ys)}else M7 gg tt fe ck items σ
inductive CG(X:Cx)(Z:XC)(Q:VK)(vs:List V)(DD:Addr)(ys:List D)(X9:List Addr)(H5:Hp)(m:DSt->M (List D))(WQ:St)(H6:Hp):Prop
 |mk (WT:DSt) (μ6:List Addr) (G6:DH) (s:t8 (wc X) μ6 H6 WT WQ) (h:j8 (wc X) μ6 G6 H6) (u:UH (wc X) DD vs X9 H5 (λX2 μ G H=>c7 (wc X) ZF μ H (m X2 G) (CKR (wc X) Z Q ys)) WT μ6 G6 H6)
inductive CT(X:Cx)(Z:XC)(Q:VK)(vs:List V)(DD:Addr)(ys:List D)(WT:DSt)(WQ:St)(μ6:List Addr)(H6:Hp)(m:Bool->M (List D))(b:Bool)(H7:Hp):Prop
 |mk (WM:List Addr) (G7:DH) (s:t8 (wc X) WM H7 WT WQ) (h:j8 (wc X) WM G7 H7) (u:UH (wc X) DD vs μ6 H6 (λb μ G H=>c7 (wc X) ZF μ H (m b G) (CKR (wc X) Z Q ys)) b WM G7 H7)
inductive CE(X:Cx)(Z:XC)(Q:VK)(vs:List V)(DD:Addr)(ys:List D)(WT:DSt)(WQ:St)(WM:List Addr)(H7:Hp)(m:D->M (List D))(v:V)(H8:Hp):Prop
 |mk (y:D) (μ8:List Addr) (G8:DH) (r:d7 (wc X) μ8 H8 y v) (s:t8 (wc X) μ8 H8 WT WQ) (h:j8 (wc X) μ8 G8 H8) (u:UH (wc X) DD vs WM H7 (λy μ G H=>c7 (wc X) ZF μ H (m y G) (CKR (wc X) Z Q ys)) y μ8 G8 H8)
inductive RF(Y:Cx)(Z:XC)(Q:VK)(gg:Fg)(tt:DSt->M Bool)(fe:Fe)(src:Src)(fp:List Addr)(tn:Nat->Heap->Prop)(DD:Addr)(WY:List Addr)(H2:Hp)(n:Nat)(s':zm):Prop
 |mk (i:Nat) (ys:List D) (vs:List V) (X1:St) (H':Hp) (WW:DSt) (X9:List Addr) (G':DH) (e:n=src.items.length-i) (hi:i<=src.items.length) (hv:vs.length<=i)
    (I:Inv Y [] X1 H' s') (st:tn i s'.heap) (fr:∀b∈fp,H' b=none) (hs:H' DD=some (.lst vs)) (nD:DD∉X9)
    (x:Ext WY H2 X9 (hide DD H')) (h:j8 (wc Y) X9 G' (hide DD H')) (sr:t8 (wc Y) X9 (hide DD H') WW X1) (rl:g8 (wc Y) X9 (hide DD H') ys vs)
    (p:c7 (wc Y) ZF X9 (hide DD H') (M7 gg tt fe src.ck (src.items.drop i) WW G') (CKR (wc Y) Z Q ys))
theorem mR{Y:Cx}{Q:VK}{src:Src}{tn:Nat->Heap->Prop}{DD it:Addr}{H2:Hp}{J:It}{R:Result->zm->Prop}(hcX:Y.calm=true)(hg:DG Y ZF tg gg)(ht:DTs Y ZF ifs tt)(he:DE Y ZF elt fe)(T:c5 Y.prog Y.w Y.K tg J fp it tn)
 (fpX:∀(H':Hp) (b:Addr),b∈fp->H' b=none->W0 Y [] H' b) (hJ:ItD (wc Y) WY H2 J src) (Fp:src.items.length<=zi) (fin:∀(H':Hp) (X1:St) (s4:zm),Inv Y [] X1 H' s4->Q (.ref DD) H'->R (.ok .next) s4) (n:Nat) (s':zm) (h:RF Y Z Q gg tt fe src fp tn DD WY H2 n s') {NX:zm->Prop} (nx:∀m s,m<n->RF Y Z Q gg tt fe src fp tn DD WY H2 m s->NX s):
 zp (zy Y.prog Y.w) Y.A (Zm (.ref it)) (λr W1=>match r with
  |none=>R (.ok .next) W1
  | some v => zp (zy Y.prog Y.w) Y.A (yR tg (.ref it) v) (λ_ s₁' => zp (zy Y.prog Y.w) Y.A (Zn tg Y.env v) (λ_ s₂ =>
     zp (zy Y.prog Y.w) Y.A (forIn ifs true λc r=>if r=true then do let ok <-isTrue c Y.env (eval c Y.env);pure (ForInStep.yield ok)else pure (ForInStep.yield r)) (λok s₃=>
      if ok=true then zp (zy Y.prog Y.w) Y.A (eval elt Y.env) (λx s₄=>
       zp (zy Y.prog Y.w) Y.A (call (.builtin "list.append") [.ref DD,x]) (λ_ s₅=>NX s₅) Y.xe s₄) Y.xe s₃
      else NX s₃) Y.xe s₂) Y.xe s₁') Y.xe W1) Y.xe s':=by
 obtain⟨i,ys,vs,X1,H',WW,X9,G',rfl,hi',hvl,I',Fx,fr',hvs,nD',x',h',sr',rl,p'⟩:=h;by_cases Gd:i<src.items.length
 · rw[xE Gd]at p';unfold M7 at p';split at p'
   case isFalse=>exact p'.elim
   rename_i ck;obtain⟨q1,_⟩:=hJ X9 G' H' x'.unhide h'.unhide ck i;obtain⟨go,yl⟩:=q1 _ (zq Gd);refine thn (T.item (Y) rfl rfl rfl hcX i [] s' X1 H' Y.xe I' (λb hb=>fpX H' b hb (fr' b hb)) Fx go) λr s4 z4=>?_;obtain⟨u,rfl,h4⟩:=z4;refine thn h4 λ_ s5 z5=>?_;obtain⟨x,H5,I5,r5,y5,st5,fr5⟩:=z5;obtain⟨k5,h5,rx5⟩:=yl x H5 y5;obtain⟨e5,n5,k5'⟩:=k5.hide nD' hvs;have I5':=I5.pinned (λb hb=>fpX H5 b hb (fr5 b hb)) (T.obj _ _ st5);have keepIt:∀ {WP:St} {H7:Hp} {s7:zm},Inv (Y) ([]++uB fp s5.heap) WP H7 s7->Inv (Y) [] WP H7 s7/\tn (i+1) s7.heap/\∀b∈fp,H7 b=none:=λ{WP H7 s7} I7=>by refine⟨I7.unpinned,T.keep _ _ _ st5 λb hb o e=>(I7.pin (b,o) (zC _ (zC _ (R8 hb e)))).1,λb hb=>?_⟩;obtain⟨o,e,d⟩:=T.obj _ _ st5 b hb;exact(I7.pin (b,o) (zC _ (zC _ (R8 hb e)))).2.1
   have p5:=c7.unhide (Z:=ZF) n5 e5 (c7.bind (p'.from k5'));refine thn (hg.h _ s5 X1 H5 x u _ I5' r5 ⟨_,WW,X9,G',rx5,(sr'.mono k5').sq gB,h5,p5.mono λWT μ6 G6 H6 x6 h6 q6 WQ sr6=>(⟨WT,μ6,G6,sr6,h6,q6⟩:CG Y Z Q vs DD ys X9 H5 (KY gg tt fe src.ck (src.items.drop (i+1))) WQ H6)⟩) λ_ s6 z6=>?_;obtain⟨WQ,H6,I6,WT,μ6,G6,sr6,h6,e6,n6,hh6,x6,p6⟩:=z6;have p6':=c7.unhide (Z:=ZF) n6 e6 (c7.bind p6);refine thn (ht.h _ s6 WQ H6 (CT Y Z Q vs DD ys WT WQ μ6 H6 (tI gg tt fe src.ck (src.items.drop (i+1)) WT)) I6 ⟨WT,μ6,G6,sr6,h6,p6'.mono λb WM G7 H7 x7 h7 q7=>⟨WM,G7,sr6.mono x7,h7,q7⟩⟩) λb s7 z7=>?_;obtain⟨H7,I7,WM,G7,sr7,h7,e7,n7,hh7,x7,p7⟩:=z7;unfold tI at p7;have x27:Ext WY H2 WM (hide DD H7):=x'.trans (k5'.trans (x6.trans x7));have rl7:g8 (wc Y) WM (hide DD H7) ys vs:=rl.mono (k5'.trans (x6.trans x7));rcases b with _|_
   ·
     rw[if_neg zv]at p7 ⊢;obtain⟨I8,st8,fr8⟩:=keepIt I7;exact nx _ _ (Zr _ _ Gd) ⟨i+1,ys,vs,WQ,H7,WT,WM,G7,rfl,Gd,Nat.le_succ_of_le hvl,I8,st8,fr8,e7,n7,x27,hh7,sr7.sq (F8 e7),rl7,p7⟩
   ·
     rw[if_pos rfl]at p7 ⊢;have p7':=c7.unhide (Z:=ZF) n7 e7 (c7.bind p7);refine thn (he.h _ s7 WQ H7 (CE Y Z Q vs DD ys WT WQ WM H7 (EM gg tt fe src.ck (src.items.drop (i+1)) WT)) I7 ⟨WT,WM,G7,sr7,h7,p7'.mono λy μ8 G8 H8 x8 h8 q8 v rv=>⟨y,μ8,G8,rv,sr7.mono x8,h8,q8⟩⟩) λyu s8 z8=>?_;obtain⟨yv,H8,I8,ry,y,μ8,G8,ryd,sr8,h8,e8,n8,hh8,x8,p8⟩:=z8;unfold EM at p8;refine thn (mL _ s8 WQ H8 (.ref DD) [yv] (.ref DD) [yu] (λ_ H9=>H9=upd H8 DD (.lst (vs++[yv]))) I8 rfl (.cons ry .nil) ⟨DD,vs,yv,rfl,rfl,e8,by lia,rfl⟩) λ_ s9 z9=>?_;obtain⟨_,H9,I9,_,rfl⟩:=z9;obtain⟨I10,st10,fr10⟩:=keepIt I9;have hd9:hide DD (upd H8 DD (.lst (vs++[yv])))=hide DD H8:=aB;refine nx _ _ (Zr _ _ Gd) ⟨i+1,ys++[y],vs++[yv],WQ,_,WT,μ8,G8,rfl,Gd,by rw[zf];exact Nat.succ_le_succ hvl,I10,st10,fr10,J3,n8,?_,?_,?_,?_,?_⟩
     ·rw[hd9];exact x27.trans x8
     ·rw[hd9];exact hh8
     ·rw[hd9];exact sr8.sq (F8 e8)
     ·rw[hd9];exact(rl7.mono x8).append ⟨yv, [],rfl,ryd.sq (F8 e8),rfl⟩
     ·rw[hd9];refine(c7.bind p8).mono λrest μ'' G'' H'' x'' h'' q''=>?_;have q3:=c7.ok q'' h'';show c7 (wc Y) Z μ'' H'' (J4 (.lst (ys++[y]++rest)) G'') (CKV (wc Y) Q);rw[zD];exact q3
 · have e:i=src.items.length:=by lia
   subst e;rw[JX]at p';unfold M7 at p';split at p'
   case isFalse=>exact p'.elim
   rename_i ck;obtain⟨_,q2⟩:=hJ X9 G' H' x'.unhide h'.unhide ck src.items.length;refine thn (T.done (Y) rfl rfl rfl hcX src.items.length [] s' X1 H' Y.xe I' (λb hb=>fpX H' b hb (fr' b hb)) Fx (q2 (zh _))) λr s4 ⟨hr,I4⟩=>?_;subst hr;have p9:c7 (wc Y) Z X9 (hide DD H') (J4 (.lst (ys++[])) G') (CKV (wc Y) Q):=c7.ok p' h';rw[jt]at p9;have q9:=Q9 (q:=DD) h' rl p9 Z9;rw[tV hvs]at q9;exact fin H' X1 s4 I4 q9
theorem PL{use:Option (zd->Sem Unit)}{Q:VK}{ps:Pos}{pins:PNS}{s:zm}{σ:St}{H:Hp}{X2:DSt}{G:DH}(hc:X.calm=true)(hi:DI X Z tg iter it)(k:U6 X scope N caps)
 (hg:∀C s H ex,DG (K3 X scope N C s H ex) ZF tg gg) (ht:∀C s H ex,DTs (K3 X scope N C s H ex) ZF ifs tt) (he:∀C s H ex,DE (K3 X scope N C s H ex) ZF elt fe)
 (hs:∀x,yg iter X.env x=pure x) (I:Inv X pins σ H s) (sr:t8 (wc X) μ H X2 σ) (hr:j8 (wc X) μ G H) (p:c7 (wc X) Z μ H (N6 it caps gg tt fe X2 G) λd X9 _ H'=>∀v,d7 (wc X) X9 H' d v->Q v H')
 (fin:∀(DD C:Addr) (s4:zm) (H':Hp) m (o:Flow),s4.heap.Ns C m->(∀h'',yS C s4.heap h''->Inv X pins σ H' {s4 with heap:=h''})->H' C=none->(∀H9:Hp,H9 C=none->W0 X pins H9 C)->Q (.ref DD) H'->compPost (zy X.prog X.w) X.A X.xe use PQ (.ref DD) C (.ok o) s4):
 zp (zy X.prog X.w) X.A (comprehension (.ListComp elt [⟨tg,iter,ifs,0⟩] scope pos) scope X.env ps (newList []) false (eval iter X.env) use) PQ X.xe s:=by
 replace p:c7 (wc X) Z μ H (N6 it caps gg tt fe X2 G) (CKV (wc X) Q):=p;have p1:=c7.bind p;refine wpAny_comprehension_free rfl hs (kf (k.cells I.ok)) k.kind k.names ?_;refine thn (hi.h pins s σ H (λJ H1=>∃src X0 G1,Ext μ H X0 H1/\j8 (wc X) X0 G1 H1/\ItD (wc X) X0 H1 J src/\
  c7 (wc X) Z X0 H1 ((if src.items.length<=zi then (do let ys <-noX (M7 gg tt fe src.ck src.items (F2 caps X2));J4 (.lst ys))else M.stuck:M D) G1) (CKV (wc X) Q))
  I ⟨X2,μ,G,sr,hr,p1.mono λsrc X0 G1 H1 x1 h1 p1 J hJ=>⟨src,X0,G1,x1,h1,hJ,p1⟩⟩) λv s1 q1=>thn q1 λitv s2 q2=>?_
 obtain⟨itA,fp,tn,J,H2,rfl,I2,T,st2,f2,src,WY,G2,x2,h2,hJ,p2⟩:=q2;split at p2
 case isFalse=>exact p2.elim
 rename_i Fp;have hfp:∀b∈fp,b<s2.heap.objs.size:=λb hb=>by obtain⟨o,e,_⟩:=T.obj _ _ st2 b hb;exact zo e
 refine yf (wpAny_newFunctionEnv k.cell (by intro y hy;simp at hy) (λh₁ hns₁ hsb₁=>?_) k.kind);dsimp only at hns₁ hsb₁ ⊢;generalize hHP:s2.heap.push {cls:=.type "list",dict:=none,data:=.seq ([]:List zd).toArray}=HP at hns₁ hsb₁ ⊢;have hC:HP.objs.size=s2.heap.objs.size+1:=by rw[<-hHP,yi]
 have hCl:s2.heap.objs.size<HP.objs.size:=by rw[hC];exact Yr _
 have hDC:s2.heap.objs.size≠HP.objs.size:=zE hCl;have old:∀b o,s2.heap.get? b=some o->h₁.get? b=some o:=λb o e=>hsb₁.extBut b o (by have:=zo e;exact zE (yZ this hCl)) (zc _ (hHP▸zc _ e));have Hg:h₁.get? s2.heap.objs.size=some {cls:=.type "list",data:=.seq ([]:List zd).toArray 0}:=hsb₁.extBut _ _ hDC (zc _ (hHP▸zu _ rfl));have hD:H2 s2.heap.objs.size=none:=I2.hok.fresh (zh _);have nD:s2.heap.objs.size∉WY:=λz=>jQ _ (h2.mem_lt I2 z);have st1:tn 0 h₁:=T.keep _ _ _ st2 λb _ o e=>old b o e;have fpX:∀(H':Hp) (b:Addr),b∈fp->H' b=none->W0 (K3 X scope N HP.objs.size s2 H2 fp) [] H' b:=λH' b hb hn=>
  ⟨hn,zE (yZ (hfp b hb) hCl),λz=>by
   rcases zz.mp (I2.stkSub b z)with e|e
   ·exact(f2 b hb).2.1 e
   ·exact(f2 b hb).2.2.1 e,.inl hb,λx c e=>(f2 b hb).2.2.2.2.1 x c (O1 e),λp hp=>absurd (show p∈([]:PNS)from hp) (by simp)⟩
 have hcX:(K3 X scope N HP.objs.size s2 H2 fp).calm=true:=hc;have p3:=MG (c7.bind p2);generalize hDD:s2.heap.objs.size=DD at *;have loop:∀s₃:zm,s₃= {s2 with heap:=h₁,toks:=s2.toks+([]:List (Str×zd)).length}->
  YA (zy X.prog X.w) X.A (.compLoop (.ListComp elt [⟨tg,iter,ifs,0⟩] scope pos) 0 (.ref itA) (.ref DD) (compEnvC scope (t3 X.env scope.names []) HP.objs.size X.env))
   (compPost (zy X.prog X.w) X.A X.xe use PQ (.ref DD) HP.objs.size) s₃:=by
  rintro s₃ rfl;refine MU (RF (K3 X scope N HP.objs.size s2 H2 fp) Z Q gg tt fe src fp tn DD WY H2) (λn s' h=>mR hcX (hg _ _ _ _) (ht _ _ _ _) (he _ _ _ _) T fpX hJ Fp (λH' X1 s4 I4 q9=>?_) n s' h λm s h1 h2=>⟨m,h1,h2⟩) src.items.length
   ⟨0, [], [],F2 caps σ,upd H2 DD (.lst []),F2 caps X2,WY,G2,rfl,zW _,zh _,?_,st1,λb hb=>?_,J3,nD,?_,?_,?_,rfl,?_⟩
  ·obtain⟨m,hn,_⟩:=I4.loc;exact fin DD HP.objs.size s4 H' m _ hn (λh'' sb=>kU I2 (λb hb=>f2 b hb) (by rw[hDD];exact hCl) I4 sb) I4.free (λH9 hn9=>I2.fpOk (by rw[hDD];exact xa hCl) hn9) q9
  ·have:=SZ (tk:=s2.toks+([]:List (Str×zd)).length) I2 k (by rw[hDD];exact hCl) f2 (λb hb=>by rw[hDD];exact hfp b hb) old hns₁ (by rw[hDD];exact Hg);rw[hDD]at this;exact this
  ·rw[m6 (zE (hfp b hb))];exact(f2 b hb).1
  ·rw[aB,tE hD];exact Ext.refl _ _
  ·rw[aB,tE hD];exact h2
  ·rw[aB,tE hD];exact vQ (sr.mono x2)
  ·rw[aB,tE hD,List.drop_zero];exact p3
 exact codeAny_compStart_list (loop _ rfl) (T.self _ 0 _ _ _ st1 (loop _ rfl))
theorem vv(hc:X.calm=true)(hi:DI X Z tg iter it)(k:U6 X scope N caps)
 (hg:∀C s H ex,DG (K3 X scope N C s H ex) ZF tg gg) (ht:∀C s H ex,DTs (K3 X scope N C s H ex) ZF ifs tt) (he:∀C s H ex,DE (K3 X scope N C s H ex) ZF elt fe)
 (hs:∀x,yg iter X.env x=pure x):DE X Z (.ListComp elt [⟨tg,iter,ifs,0⟩] scope pos) (N6 it caps gg tt fe):=⟨by
 intro pins s σ H Q I Fm;refine Fm.elim λX2 μ G sr hr p=>?_;rw[eval_ListComp];exact PL hc hi k hg ht he hs I sr hr p λDD C s4 H' m o hn fin _ _ q9=>⟨m,hn,λh'' sb=>⟨.ref DD,H',fin h'' sb,rfl,q9⟩⟩⟩
end
def J5(r:Nat):M DO:=λG=>match G[r]? with
 |some o=>some (.ok o,G)
 |none=>none
def listOf:DO->M (List D)
 | .lst l=>pure l
 | .rol l=>pure l
 | .dct _=>M.stuck
 | .rod _=>M.stuck
def vT:D->M (List D)
 | .tup l=>pure l
 | .ref r=>J5 r >>= listOf
 |_=>M.stuck
def N0{α:Type}:Option α->M α
 |some a=>pure a
 |none=>M.stuck
section
theorem IxR.mono(h:IxR X r)(k:∀x y H Q,r' x y H Q->r x y H Q):IxR X r':=λva sl pins s σ H x y v u Q I rx ry q hs=>h va sl pins s σ H x y v u Q I rx ry (k x y H Q q) hs
theorem w6{f:DO->M α}{K:α->List Addr->DH->Hp->Prop}(p:c7 c Z μ H ((J5 r >>= f) G) K):∃o,G[r]? =some o/\c7 c Z μ H (f o G) K:=by
 rw[M.bind_eq]at p;unfold J5 at p;rcases e:G[r]? with _|o
 ·rw[e]at p;exact p.elim
 ·rw[e]at p;exact⟨o,rfl,p⟩
theorem O7{r:Option β}{f:β->M α}{K:α->List Addr->DH->Hp->Prop}(p:c7 c Z μ H ((N0 r >>= f) G) K):∃o,r=some o/\c7 c Z μ H (f o G) K:=by
 rcases r with _|o
 ·exact p.elim
 ·exact⟨o,rfl,p⟩
theorem dE{f:List D->M α}{K:α->List Addr->DH->Hp->Prop}(h:j8 c μ G H)(r:d7 c μ H d v)(p:c7 c Z μ H ((vT d >>= f) G) K):
 ∃l a vs,v= .ref a/\g8 c μ H l vs/\c7 c Z μ H (f l G) K/\((d= .tup l/\SqT c.K H a vs)\/(∃i,d= .ref i/\μ[i]? =some a/\((G[i]? =some (.lst l)/\H a=some (.lst vs))\/(G[i]? =some (.rol l)/\RoL c.K H a vs)))):=by
 rcases d with _|_|_|_|l|i|_|_<;>try (exact p.elim;done)
 ·
   unfold d7 at r;obtain⟨a,vs,e,q,rl⟩:=r;exact⟨l,a,vs,e,rl,p,.inl ⟨rfl,q⟩⟩
 ·
   unfold d7 at r;obtain⟨a,m,e⟩:=r;have p':c7 c Z μ H ((J5 i >>= λo=>listOf o >>= f) G) K:=by rw[<-M.bind_assoc];exact p
   obtain⟨o,g,p2⟩:=w6 p';have ro:=h.obj i o a g m;rcases o with l|l|l|l
   ·obtain⟨vs,q,rl⟩:=ro;exact⟨l,a,vs,e,rl,p2,.inr ⟨i,rfl,m,.inl ⟨g,q⟩⟩⟩
   ·obtain⟨vs,q,rl⟩:=ro;exact⟨l,a,vs,e,rl,p2,.inr ⟨i,rfl,m,.inr ⟨g,q⟩⟩⟩
   ·exact p2.elim
   ·exact p2.elim
theorem Q7(r:d7 c μ H (.int i) v):v= .int i:=by unfold d7 at r;exact r
theorem K0(r:d7 c μ H (.str i) v):v= .str i:=by unfold d7 at r;exact r
theorem D5(r:d7 c μ H (.bl i) v):v= .bl i:=by unfold d7 at r;exact r
theorem BB(r:d7 c μ H .non v):v= .non:=by unfold d7 at r;exact r
theorem ofI:d7 c μ H (.int i) (.int i):=by unfold d7;rfl
theorem ofS:d7 c μ H (.str i) (.str i):=by unfold d7;rfl
theorem ofB:d7 c μ H (.bl i) (.bl i):=by unfold d7;rfl
theorem ofN:d7 c μ H .non .non:=by unfold d7;rfl
def i9(g:Int->Int->M D):D->D->M D:=λx y=>match x,y with
 | .int i,.int j=>g i j
 |_,_=>M.stuck
theorem rG[∀i j,Decidable (C i j)]{g:Int->Int->Int}(h:OpR X f (rI C λi j=>.int (g i j))):OpD X Z f (i9 λi j=>if C i j then pure (.int (g i j))else M.stuck):=
 OpD.of h λx y H Q Fm=>Fm.elim λdx dy μ G rx ry hr p=>by
  rcases dx with _|_|_|_|_|_|_|_<;>rcases dy with _|_|_|_|_|_|_|_<;>first
   |exact p.elim
   |skip
  rename_i i j;unfold i9 at p;dsimp only at p;split at p
  ·rename_i hc;exact⟨i,j,Q7 rx,Q7 ry,hc,c7.ok p hr _ ofI⟩
  ·exact p.elim
theorem AY{g:Int->Int->Int}(h:OpR X f (g6 λi j=>.int (g i j))):OpD X Z f (i9 λi j=>pure (.int (g i j))):=
 OpD.of h λx y H Q Fm=>Fm.elim λdx dy μ G rx ry hr p=>by
  rcases dx with _|_|_|_|_|_|_|_<;>rcases dy with _|_|_|_|_|_|_|_<;>first
   |exact p.elim
   |exact⟨_,_,Q7 rx,Q7 ry,c7.ok p hr _ ofI⟩
def E6:D->D->M D:=i9 λi j=>pure (.int (i-j))
theorem QR:OpD X Z (jF .Sub) E6:=AY NM
instance (i j:Int):Decidable (j5 i j):=by unfold j5;infer_instance
def OA(_ j:Int):Prop:=0<j/\j<2 ^ 100
instance (i j:Int):Decidable (OA i j):=by unfold OA;infer_instance
theorem VW:OpR X (jF .FloorDiv) (rI OA λi j=>.int (i / j)):=opI λi j _ _ _ _ _ hc q=>by
 have h1:(0:Int)<j:=hc.1;have h2:j<2 ^ 100:=hc.2;refine floordiv_int (by lia) (by rw[Int.fdiv_eq_ediv_of_nonneg i (by lia)];exact q) (.inl (PyProof.noPylong_of_log2 ?_));have h3:j.natAbs<2 ^ 100:=by lia
 have h4:j.natAbs≠0:=by lia
 have:=(Nat.log2_lt h4).mpr h3;lia
def C7:D->D->M D:=i9 λi j=>if OA i j then pure (.int (i / j))else M.stuck
theorem vP:OpD X Z (jF .FloorDiv) C7:=rG VW
def B2:D->D->M D:=i9 λi j=>if 0<j then pure (.int (i % j))else M.stuck
theorem BY:OpD X Z (jF .Mod) B2:=rG gU
instance (i j:Int):Decidable (y4 i j):=by unfold y4;infer_instance
def T2:D->D->M D:=i9 λi j=>if y4 i j then pure (.int (i ^ j.toNat))else M.stuck
theorem Dj:OpD X Z (jF .Pow) T2:=rG GK
theorem vc{w:zR}{s:zm}{t b:Addr}{ws:List zd}(ht:Zi s.heap t #[])(hb:Zi s.heap b ws.toArray)
 (h1:Q (.ref b) s):zp (zy prog w) A (jF .Add (.ref t) (.ref b)) Q E s:=by
 obtain⟨⟨cls,dd,data,sl⟩,ho,hc,n,hd⟩:=id ht;obtain⟨⟨cls2,dd2,data2,sl2⟩,Gp,hc2,n2,hd2⟩:=id hb;simp only at hc hd hc2 hd2;subst hc hd hc2 hd2;exact JF ⟨_,ho,rfl⟩ ⟨_,Gp,rfl⟩ YM XX xM xG (xC _ _)
  (tuple_addW0 t b #[] ws.toArray n n2 dd dd2 sl sl2 (by simp)) ⟨ho,Gp,h1⟩
def IU(K:ze):R2:=λx y H Q=>∃a b ys,x= .ref a/\y= .ref b/\SqT K H a []/\SqT K H b ys/\Q (.ref b) H
theorem BV:OpR X (jF .Add) (IU X.K):=by
 intro pins s σ H x y v u Q I rx ry h;obtain⟨a,b,ys,rfl,rfl,ha,hb,q⟩:=h
 cases rx
 cases ry
 obtain⟨Fj,r,p,_⟩:=I.tuple ha;obtain⟨Hd,r2,p2,_⟩:=I.tuple hb
 cases r
 exact vc p p2 ⟨.ref b,H,I,rfl,q⟩
def J6:D->D->M D:=λx y=>match x,y with
 | .int i,.int j=>pure (.int (i+j))
 | .str a,.str b=>if a.length+b.length<=zi then pure (.str (a++b))else M.stuck
 | .tup a,.tup b=>if a.length+b.length<=zi then pure (.tup (a++b))else M.stuck
 | .ref i,.ref j=>do
   match <-J5 i,<-J5 j with
   | .lst a,.lst b=>if a.length+b.length<=zi then J4 (.lst (a++b))else M.stuck
   |_,_=>M.stuck
 |_,_=>M.stuck
theorem WF{Q:VK}(h:j8 c μ G H)(q:SqT c.K H a vs)(r:g8 c μ H xs vs)
 (p:c7 c Z μ H (some (Except.ok (.tup xs),G)) λd X9 _ H'=>∀v,d7 c X9 H' d v->Q v H'):Q (.ref a) H:=c7.ok p h _ (by unfold d7;exact⟨a,vs,rfl,q,r⟩)
theorem lU:OpD X Z (jF .Add) J6:=
 OpD.of (OpR.or vw (OpR.or UN (OpR.or IZ (OpR.or BV IW)))) λx y H Q Fm=>Fm.elim λdx dy μ G rx ry hr p=>by
  rcases dx with _|_|_|_|_|_|_|_<;>rcases dy with _|_|_|_|_|_|_|_<;>first
   |exact p.elim
   |skip
  ·exact .inl ⟨_,_,Q7 rx,Q7 ry,c7.ok p hr _ ofI⟩
  · rename_i a b;refine .inr (.inl ?_);unfold J6 at p;dsimp only at p;split at p
    ·rename_i hz;exact⟨a,b,K0 rx,K0 ry,hz,c7.ok p hr _ ofS⟩
    ·exact p.elim
  · rename_i a b;unfold d7 at rx ry;obtain⟨ax,vx,rfl,qx,lx⟩:=rx;obtain⟨ay,vy,rfl,qy,ly⟩:=ry;unfold J6 at p;dsimp only at p;split at p
    · rename_i hz;by_cases hv:vx= []
      · subst hv;rcases a with _|⟨_,_⟩
        ·exact .inr (.inr (.inr (.inl ⟨ax,ay,vy,rfl,rfl,qx,qy,WF hr qy ly p⟩)))
        ·obtain⟨_,_,z,_⟩:=lx;cases z
      · refine .inr (.inr (.inl ⟨ax,ay,vx,vy,rfl,rfl,qx,qy,hv,by rw[<-lx.length,<-ly.length];exact hz,?_⟩));refine⟨λhy=>?_,λhy q hq=>PD hr (lx.append ly) p q hq⟩;subst hy;refine WF hr qx ?_ p;rcases b with _|⟨_,_⟩
        ·rw[jt];exact lx
        ·obtain⟨_,_,z,_⟩:=ly;cases z
    ·exact p.elim
  · rename_i i j;unfold d7 at rx ry;obtain⟨ax,mx,rfl⟩:=rx;obtain⟨ay,my,rfl⟩:=ry;obtain⟨ox,gx,p⟩:=w6 p;obtain⟨oy,gy,p⟩:=w6 p;have hx:=hr.obj i ox ax gx mx;have hy:=hr.obj j oy ay gy my;rcases ox with _|_|_|_<;>rcases oy with _|_|_|_<;>first
     |exact p.elim
     |skip
    obtain⟨vx,ex,lx⟩:=hx;obtain⟨vy,ey,ly⟩:=hy;dsimp only at p;split at p
    ·rename_i hz;exact .inr (.inr (.inr (.inr ⟨ax,ay,vx,vy,rfl,rfl,ex,ey,by rw[<-lx.length,<-ly.length];exact hz,λq hq=>Q9 hr (lx.append ly) p q hq⟩)))
    ·exact p.elim
end
def V4(G:DH):D->Option (Bool×List D)
 | .tup l=>some (true,l)
 | .ref i=>match G[i]? with
   |some (.lst l)=>some (false,l)
   |some (.rol l)=>some (false,l)
   |_=>none
 |_=>none
def P4:D->Bool
 | .non=>true
 | .bl _=>true
 | .int _=>true
 | .str _=>true
 |_=>false
def eqS:D->D->Option Bool
 | .non,.non=>some true
 | .bl a,.bl b=>some (a==b)
 | .int a,.int b=>some (a==b)
 | .str a,.str b=>some (a==b)
 | .bl a,.int b=>some ((if a then (1:Int)else 0)==b)
 | .int a,.bl b=>some (a==(if b then (1:Int)else 0))
 |x,y=>if P4 x&&P4 y then some false else none
def eqL(f:D->D->Option Bool):List D->List D->Option Bool
 |[], []=>some true
 |[],_::_=>some false
 |_::_, []=>some false
 |x::xs,y::ys=>match f x y,eqL f xs ys with
   |some e,some r=>some (e&&r)
   |_,_=>none
def eqN:Nat->DH->D->D->Option Bool
 |0,_,_,_=>none
 |n+1,G,x,y=>match V4 G x,V4 G y with
   |some (k1,a),some (k2,b)=>if k1=k2 then (if k1=false/\a.length≠b.length then some false else eqL (eqN n G) a b)else some false
   |some _,none=>if P4 y then some false else none
   |none,some _=>if P4 x then some false else none
   |none,none=>eqS x y
theorem OD:eqN (n+1) G x y=match V4 G x,V4 G y with
 |some (k1,a),some (k2,b)=>if k1=k2 then (if k1=false/\a.length≠b.length then some false else eqL (eqN n G) a b)else some false
 |some _,none=>if P4 y then some false else none
 |none,some _=>if P4 x then some false else none
 |none,none=>eqS x y:=rfl
theorem EG:eqL f (x::xs) (y::ys)=match f x y,eqL f xs ys with
 |some e,some r=>some (e&&r)
 |_,_=>none:=rfl
theorem tL:∀a b r,eqL f a b=some r->(∀j x y,a[j]? =some x->b[j]? =some y->f x y=some (e j))->r= ((zJ (min a.length b.length)).all e&&a.length==b.length)
 |[], [],r,h,_=>by cases h;rfl
 |[],_::_,r,h,_=>by cases h;simp
 |_::_, [],r,h,_=>by cases h;simp
 |x::xs,y::ys,r,h,he=>by
   rw[EG]at h;have h0:=he 0 x y rfl rfl;rw[h0]at h;rcases hr:eqL f xs ys with _|r'
   ·rw[hr]at h;exact t6 h
   ·
     rw[hr]at h;have ih:=tL xs ys r' hr λj x' y' h1 h2=>he (j+1) x' y' (by simpa using h1) (by simpa using h2)
     cases h
     rw[ih];have:min (x::xs).length (y::ys).length=min xs.length ys.length+1:=by simp only[zw];lia
     rw[this,yn,jP,List.all_map];simp[Bool.and_assoc,XF]
theorem fF:∀a b r,eqL f a b=some r->∀(j:Nat) x y,a[j]? =some x->b[j]? =some y->∃e,f x y=some e
 |[],_,_,_,_,_,_,h,_=>by simp at h
 |_::_, [],_,_,_,_,_,_,h=>by simp at h
 |x::xs,y::ys,r,h,j,x',y',h1,h2=>by
   rw[EG]at h;rcases hf:f x y with _|e
   ·rw[hf]at h;exact t6 h
   ·
     rcases hr:eqL f xs ys with _|r'
     ·rw[hf,hr]at h;exact t6 h
     ·
       cases j with
       |zero=>simp at h1 h2;subst h1 h2;exact⟨e,hf⟩
       |succ j=>exact fF xs ys r' hr j x' y' (by simpa using h1) (by simpa using h2)
section
def RA(s:zm)(k:Bool)(a:Addr)(Fj:List zd):Prop:=if k then s.heap.IsTuple a Fj.toArray else s.heap.IsList a Fj.toArray
theorem Z2(I:Inv X pins σ H s)(h:j8 (wc X) μ G H)(e:V4 G d=some (k,l))(r:d7 (wc X) μ H d x)(rv:o5 x v):
 ∃a vs Fj,x= .ref a/\v= .ref a/\g8 (wc X) μ H l vs/\j7 vs Fj/\RA s k a Fj/\(if k then SqT X.K H a vs else SqL X.K H a vs):=by
 rcases d with _|_|_|_|l'|i|_|_<;>try (cases e;done)
 ·
   unfold V4 at e
   cases e
   unfold d7 at r;obtain⟨a,vs,rfl,q,rl⟩:=r;obtain⟨Fj,rr,p,_⟩:=I.tuple q;exact⟨a,vs,Fj,rfl,rv,rl,rr,p,q⟩
 ·
   have e':(match G[i]? with|some (.lst l)=>some (false,l)|some (.rol l)=>some (false,l)|_=>none)=some (k,l):=e;unfold d7 at r;obtain⟨a,m,rfl⟩:=r;have key:∀vs,SqL X.K H a vs->g8 (wc X) μ H l vs->k=false->∃a' vs Fj,V.ref a= .ref a'/\v= .ref a'/\g8 (wc X) μ H l vs/\j7 vs Fj/\RA s k a' Fj/\(if k then SqT X.K H a' vs else SqL X.K H a' vs):=λvs q rl hk=>by subst hk;obtain⟨Fj,rr,p,_⟩:=I.list q;exact⟨a,vs,Fj,rfl,rv,rl,rr,p.isList,q⟩
   generalize g:G[i]? =o at e';rcases o with _|l'|l'|_|_<;>cases e'
   ·obtain⟨vs,q,rl⟩:=h.obj i _ a g m;exact key vs (SqL.of q) rl rfl
   ·obtain⟨vs,q,rl⟩:=h.obj i _ a g m;exact key vs q.sq rl rfl
theorem MK(hs:P4 d=true)(r:d7 c μ H d (.ref a)):False:=by
 cases d<;>first
  |exact absurd (show false=true from hs) zv
  |(unfold d7 at r;cases r)
theorem cI(h:eqS x y=some b):P4 x=true/\P4 y=true:=by
 rcases x with _|_|_|_|_|_|_|_<;>rcases y with _|_|_|_|_|_|_|_<;>first
  |exact⟨rfl,rfl⟩
  |(cases h;done)
theorem AN(h:eqS x y=some b)(rx:d7 c μ H x v)(ry:d7 c μ H y v):b=true:=by
 obtain⟨s1,s2⟩:=cI h;rcases x with _|_|_|_|_|_|_|_<;>rcases y with _|_|_|_|_|_|_|_<;>first
  |(cases s1;done)
  |(cases s2;done)
  |(unfold d7 at rx ry;rw[rx]at ry;cases ry;done)
  |(unfold d7 at rx ry;rw[rx]at ry;cases ry;cases h;first|rfl|simp)
theorem NN(I:Inv X pins σ H s)(h1:RA s k a Fj)(h2:RA s k' a its'):k=k':=by
 cases k<;>cases k'<;>first
  |rfl
  |exact absurd rfl (Xg h1 h2)
  |exact absurd rfl (Xg h2 h1)
theorem nN:∀l l' vs b,g8 c μ H l vs->g8 c μ H l' vs->(∀d d' v b,v∈vs->d7 c μ H d v->d7 c μ H d' v->f d d'=some b->b=true)->eqL f l l'=some b->b=true
 |[], [],_,b,_,_,_,e=>by cases e;rfl
 |[],_::_,vs,b,r1,r2,_,_=>by cases r1;obtain⟨_,_,z,_⟩:=r2;exact eD z
 |_::_, [],vs,b,r1,r2,_,_=>by cases r2;obtain⟨_,_,z,_⟩:=r1;cases z
 |d::ds,d'::ds',vs,b,r1,r2,k,e=>by
   obtain⟨v0,vr,rfl,q0,t0⟩:=r1;obtain⟨v1,vr',e1,q1,t1⟩:=r2
   cases e1
   rw[EG]at e;rcases hf:f d d' with _|e0
   ·rw[hf]at e;exact t6 e
   ·
     rcases hr:eqL f ds ds' with _|r'
     ·rw[hf,hr]at e;exact t6 e
     ·
       rw[hf,hr]at e
       cases e
       have z1:=k d d' v0 e0 zr q0 q1 hf;have z2:=nN ds ds' vr r' t0 t1 (λa a' v b hm=>k a a' v b (zk _ hm)) hr;rw[z1,z2];rfl
theorem OM(I:Inv X pins σ H s)(h:j8 (wc X) μ G H):∀n {dx dy} {x} {v} {b},d7 (wc X) μ H dx x->d7 (wc X) μ H dy x->o5 x v->eqN n G dx dy=some b->b=true
 |0,_,_,_,_,_,_,_,_,e=>by exact t6 e
 |n+1,dx,dy,x,v,b,rx,ry,rv,e=>by
   rw[OD]at e;rcases hx:V4 G dx with _|p
   ·
     rw[hx]at e;rcases hy:V4 G dy with _|p
     ·rw[hy]at e;exact AN e rx ry
     ·
       obtain⟨k,l⟩:=p;rw[hy]at e;dsimp only at e;split at e
       ·rename_i hs;obtain⟨a,_,_,rfl,_⟩:=Z2 I h hy ry rv;exact(MK hs rx).elim
       ·exact t6 e
   ·
     obtain⟨k,l⟩:=p;rw[hx]at e;rcases hy:V4 G dy with _|p'
     ·
       rw[hy]at e;dsimp only at e;split at e
       ·rename_i hs;obtain⟨a,_,_,rfl,_⟩:=Z2 I h hx rx rv;exact(MK hs ry).elim
       ·exact t6 e
     ·
       obtain⟨k',l'⟩:=p';rw[hy]at e;dsimp only at e;obtain⟨a,vs,Fj,rfl,rfl,rl,rr,sq,q⟩:=Z2 I h hx rx rv;obtain⟨a',Gm,its',ea,_,Gf,rr',sq',q'⟩:=Z2 I h hy ry rv
       cases ea
       have hk:k=k':=NN I sq sq';subst hk;have hvs:vs=Gm:=by
        rcases k with _|_
        ·exact I.list_inj q q'
        ·exact I.tuple_inj q q'
       subst hvs;rw[if_pos rfl,if_neg (by rw[rl.length,Gf.length];simp)]at e;have hv:∀v∈vs,∃u,o5 v u:=λv hv=>by obtain⟨i,hi⟩:=XU hv;obtain⟨u,_,ru⟩:=rr.get hi;exact⟨u,ru⟩
       exact nN l l' vs b rl Gf (λd d' v b hm r1 r2 ef=>by obtain⟨u,ru⟩:=hv v hm;exact OM I h n r1 r2 ru ef) e
theorem iO(rx:d7 c μ H dx x)(ry:d7 c μ H dy y)(rv:o5 x v)(ru:o5 y u)(e:eqS dx dy=some b):
 Zw A s v u b/\xP A s v u (!b)/\jp A s v u b:=by
 obtain⟨s1,s2⟩:=cI e;rcases dx with _|i|i|i|_|_|_|_<;>try (cases s1;done)
 ·
   unfold d7 at rx;subst rx;cases rv;rcases dy with _|j|j|j|_|_|_|_<;>try (cases s2;done)
   ·unfold d7 at ry;subst ry;cases ru;cases e;exact⟨SeqAt.RcAt.none_none,SeqAt.RcNeAt.none_none,ZC _⟩
   ·unfold d7 at ry;subst ry;cases ru;cases e;exact⟨SeqAt.RcAt.none_bool _,SeqAt.RcNeAt.none_bool _,YF _⟩
   ·unfold d7 at ry;subst ry;obtain⟨t,rfl⟩:=ru;cases e;exact⟨SeqAt.RcAt.none_int _ _,SeqAt.RcNeAt.none_int _ _,YS _ _⟩
   ·unfold d7 at ry;subst ry;obtain⟨t,rfl⟩:=ru;cases e;exact⟨SeqAt.RcAt.none_str _ _,SeqAt.RcNeAt.none_str _ _,YR _ _⟩
 ·
   unfold d7 at rx;subst rx;cases rv;rcases dy with _|j|j|j|_|_|_|_<;>try (cases s2;done)
   ·unfold d7 at ry;subst ry;cases ru;cases e;exact⟨SeqAt.RcAt.bool_none _,SeqAt.RcNeAt.bool_none _,YG _⟩
   ·unfold d7 at ry;subst ry;cases ru;cases e;exact⟨SeqAt.RcAt.bool_bool _ _,SeqAt.RcNeAt.bool_bool _ _,YH _ _⟩
   ·unfold d7 at ry;subst ry;obtain⟨t,rfl⟩:=ru;cases e;exact⟨SeqAt.RcAt.bool_int _ _ _,SeqAt.RcNeAt.bool_int _ _ _,YW _ _ _⟩
   ·unfold d7 at ry;subst ry;obtain⟨t,rfl⟩:=ru;cases e;exact⟨SeqAt.RcAt.bool_str _ _ _,SeqAt.RcNeAt.bool_str _ _ _,YV _ _ _⟩
 ·
   unfold d7 at rx;subst rx;obtain⟨t,rfl⟩:=rv;rcases dy with _|j|j|j|_|_|_|_<;>try (cases s2;done)
   ·unfold d7 at ry;subst ry;cases ru;cases e;exact⟨SeqAt.RcAt.int_none _ _,SeqAt.RcNeAt.int_none _ _,YT _ _⟩
   ·unfold d7 at ry;subst ry;cases ru;cases e;exact⟨SeqAt.RcAt.int_bool _ _ _,SeqAt.RcNeAt.int_bool _ _ _,YU _ _ _⟩
   ·unfold d7 at ry;subst ry;obtain⟨t,rfl⟩:=ru;cases e;exact⟨SeqAt.RcAt.int_int _ _ _ _,SeqAt.RcNeAt.int_int _ _ _ _,Xc _ _ _ _⟩
   ·unfold d7 at ry;subst ry;obtain⟨t,rfl⟩:=ru;cases e;exact⟨SeqAt.RcAt.int_str _ _ _ _,SeqAt.RcNeAt.int_str _ _ _ _,Ze _ _ _ _⟩
 ·
   unfold d7 at rx;subst rx;obtain⟨t,rfl⟩:=rv;rcases dy with _|j|j|j|_|_|_|_<;>try (cases s2;done)
   ·unfold d7 at ry;subst ry;cases ru;cases e;exact⟨SeqAt.RcAt.str_none _ _,SeqAt.RcNeAt.str_none _ _,YO _ _⟩
   ·unfold d7 at ry;subst ry;cases ru;cases e;exact⟨SeqAt.RcAt.str_bool _ _ _,SeqAt.RcNeAt.str_bool _ _ _,YQ _ _ _⟩
   ·unfold d7 at ry;subst ry;obtain⟨t,rfl⟩:=ru;cases e;exact⟨SeqAt.RcAt.str_int _ _ _ _,SeqAt.RcNeAt.str_int _ _ _ _,Zd _ _ _ _⟩
   ·unfold d7 at ry;subst ry;obtain⟨t,rfl⟩:=ru;cases e;exact⟨SeqAt.RcAt.str_str _ _ _ _,SeqAt.RcNeAt.str_str _ _ _ _,Xb _ _ _ _⟩
theorem FJ(hu:A.units<yH)(sq:RA s k a Fj)(ry:d7 c μ H dy y)(ru:o5 y u)(hs:P4 dy=true):
 (Zw A s (.ref a) u false/\xP A s (.ref a) u true/\jp A s (.ref a) u false)/\(Zw A s u (.ref a) false/\xP A s u (.ref a) true/\jp A s u (.ref a) false):=by
 rcases k with _|_
 ·
   rcases dy with _|j|j|j|_|_|_|_<;>try (cases hs;done)
   ·unfold d7 at ry;subst ry;cases ru;exact⟨⟨.list_none sq hu,.list_none sq hu,.list_none sq hu⟩,.none_list sq hu,.none_list sq hu,.none_list sq hu⟩
   ·unfold d7 at ry;subst ry;cases ru;exact⟨⟨.list_bool _ sq hu,.list_bool _ sq hu,.list_bool _ sq hu⟩,.bool_list _ sq hu,.bool_list _ sq hu,.bool_list _ sq hu⟩
   ·unfold d7 at ry;subst ry;obtain⟨t,rfl⟩:=ru;exact⟨⟨.list_int _ _ sq hu,.list_int _ _ sq hu,.list_int _ _ sq hu⟩,.int_list _ _ sq hu,.int_list _ _ sq hu,.int_list _ _ sq hu⟩
   ·unfold d7 at ry;subst ry;obtain⟨t,rfl⟩:=ru;exact⟨⟨.list_str _ _ sq hu,.list_str _ _ sq hu,.list_str _ _ sq hu⟩,.str_list _ _ sq hu,.str_list _ _ sq hu,.str_list _ _ sq hu⟩
 ·
   rcases dy with _|j|j|j|_|_|_|_<;>try (cases hs;done)
   ·unfold d7 at ry;subst ry;cases ru;exact⟨⟨.tuple_none sq hu,.tuple_none sq hu,.tuple_none sq hu⟩,.none_tuple sq hu,.none_tuple sq hu,.none_tuple sq hu⟩
   ·unfold d7 at ry;subst ry;cases ru;exact⟨⟨.tuple_bool _ sq hu,.tuple_bool _ sq hu,.tuple_bool _ sq hu⟩,.bool_tuple _ sq hu,.bool_tuple _ sq hu,.bool_tuple _ sq hu⟩
   ·unfold d7 at ry;subst ry;obtain⟨t,rfl⟩:=ru;exact⟨⟨.tuple_int _ _ sq hu,.tuple_int _ _ sq hu,.tuple_int _ _ sq hu⟩,.int_tuple _ _ sq hu,.int_tuple _ _ sq hu,.int_tuple _ _ sq hu⟩
   ·unfold d7 at ry;subst ry;obtain⟨t,rfl⟩:=ru;exact⟨⟨.tuple_str _ _ sq hu,.tuple_str _ _ sq hu,.tuple_str _ _ sq hu⟩,.str_tuple _ _ sq hu,.str_tuple _ _ sq hu,.str_tuple _ _ sq hu⟩
theorem oB(I:Inv X pins σ H s)(h:j8 (wc X) μ G H):∀n A,A.units+n<yH->∀ {dx dy} {x y:V} {v u} {b:Bool},d7 (wc X) μ H dx x->d7 (wc X) μ H dy y->o5 x v->o5 y u->eqN n G dx dy=some b->
 Zw A s v u b/\xP A s v u (!b)/\jp A s v u b
 |0,_,_,_,_,_,_,_,_,_,_,_,_,_,e=>by exact t6 e
 |n+1,A,hu,dx,dy,x,y,v,u,b,rx,ry,rv,ru,e=>by
   have hu0:A.units<yH:=by lia
   have hu1:A.in1.units+n<yH:=by show A.units+1+n<yH;lia
   have e0:=e;rw[OD]at e;rcases hx:V4 G dx with _|p
   ·
     rw[hx]at e;rcases hy:V4 G dy with _|p
     ·rw[hy]at e;exact iO rx ry rv ru e
     ·
       obtain⟨k,l⟩:=p;rw[hy]at e;dsimp only at e;split at e
       · rename_i hs
         cases e
         obtain⟨a,vs,Fj,rfl,rfl,_,_,sq,_⟩:=Z2 I h hy ry ru;exact(FJ hu0 sq rx rv hs).2
       ·exact t6 e
   ·
     obtain⟨k,l⟩:=p;rw[hx]at e;obtain⟨a,vs,Fj,rfl,rfl,rl,rr,sq,q⟩:=Z2 I h hx rx rv;rcases hy:V4 G dy with _|p'
     ·
       rw[hy]at e;dsimp only at e;split at e
       · rename_i hs
         cases e
         exact(FJ hu0 sq ry ru hs).1
       ·exact t6 e
     ·
       obtain⟨k',l'⟩:=p';rw[hy]at e;dsimp only at e;obtain⟨a',Gm,its',rfl,rfl,Gf,rr',sq',q'⟩:=Z2 I h hy ry ru
       -- the two at one place
       have main:Zw A s (.ref a) (.ref a') b/\xP A s (.ref a) (.ref a') (!b):=by
        have len1:Fj.toArray.size=l.length:=by rw[zg,<-rr.length,rl.length]
        have len2:its'.toArray.size=l'.length:=by rw[zg,<-rr'.length,Gf.length]
        by_cases hk:k=k'
        · subst hk;rw[if_pos rfl]at e;by_cases Fp:k=false/\l.length≠l'.length
          · rw[if_pos Fp]at e
            cases e
            obtain⟨rfl,Gg⟩:=Fp;have hz:(Fj.toArray.size != its'.toArray.size)=true:=by rw[len1,len2];simpa using Gg
            exact⟨SeqAt.RcAt.lists_lengths sq sq' hz hu0,SeqAt.RcNeAt.lists_lengths sq sq' hz hu0⟩
          · rw[if_neg Fp]at e;have items:∀j (h1:j<Fj.toArray.size) (h2:j<its'.toArray.size),∃e,eqN n G (l.getD j .non) (l'.getD j .non)=some e/\jp A.in1 s Fj.toArray[j] its'.toArray[j] e:=λj h1 h2=>by
             have j1:j<l.length:=by rw[<-len1];exact h1
             have j2:j<l'.length:=by rw[<-len2];exact h2
             have g1:l[j]? =some l[j]:=zq j1;have g2:l'[j]? =some l'[j]:=zq j2;obtain⟨e1,he1⟩:=fF l l' b e j _ _ g1 g2;obtain⟨v1,hv1,r1⟩:=rl.get g1;obtain⟨v2,hv2,r2⟩:=Gf.get g2;obtain⟨u1,hu1',ru1⟩:=rr.get hv1;obtain⟨u2,hu2',ru2⟩:=rr'.get hv2;have w1:Fj.toArray[j]=u1:=by
              have:Fj.toArray[j]? =some u1:=by simpa using hu1'
              rw[jE h1]at this;exact je this
             have w2:its'.toArray[j]=u2:=by
              have:its'.toArray[j]? =some u2:=by simpa using hu2'
              rw[jE h2]at this;exact je this
             rw[w1,w2];refine⟨e1,?_,(oB I h n A.in1 hu1 r1 r2 ru1 ru2 he1).2.2⟩;rw[zj,zj,g1,g2];exact he1
            have hr:=tL (e:=λj=>(eqN n G (l.getD j .non) (l'.getD j .non)).getD false) l l' b e λj x y g1 g2=>by obtain⟨e1,he1⟩:=fF l l' b e j x y g1 g2;rw[zj,zj,g1,g2];simp only[Option.getD_some];rw[he1];rfl
            have he:∀j (h1:j<Fj.toArray.size) (h2:j<its'.toArray.size),jp A.in1 s Fj.toArray[j] its'.toArray[j] ((eqN n G (l.getD j .non) (l'.getD j .non)).getD false):=λj h1 h2=>by obtain⟨e1,he1,hh⟩:=items j h1 h2;rw[he1];exact hh
            rcases k with _|_
            ·
              have hl:l.length=l'.length:=jz λz=>Fp ⟨rfl,z⟩;have hsz:Fj.toArray.size=its'.toArray.size:=by rw[len1,len2,hl]
              have z1:=SeqAt.RcAt.lists sq sq' hsz hu0 he;have z2:=SeqAt.RcNeAt.lists sq sq' hsz hu0 he;have hr2:b= (zJ Fj.toArray.size).all λj=>(eqN n G (l.getD j .non) (l'.getD j .non)).getD false:=by rw[hr,len1,hl];simp
              rw[<-hr2]at z1 z2;exact⟨z1,z2⟩
            ·
              have z1:=SeqAt.RcAt.tuples sq sq' hu0 he;have z2:=SeqAt.RcNeAt.tuples sq sq' hu0 he;rw[len1,len2,<-hr]at z1 z2;exact⟨z1,z2⟩
        · rw[if_neg hk]at e
          cases e
          cases k<;>cases k'<;>first
           |exact absurd rfl hk
           |exact⟨SeqAt.RcAt.list_tuple sq sq' hu0,SeqAt.RcNeAt.list_tuple sq sq' hu0⟩
           |exact⟨SeqAt.RcAt.tuple_list sq sq' hu0,SeqAt.RcNeAt.tuple_list sq sq' hu0⟩
       refine⟨main.1,main.2,?_⟩;by_cases ha:a=a'
       ·subst ha;have:b=true:=OM I h (n+1) rx ry rv e0;rw[this];exact ZC _
       ·exact SeqAt.EqAt.of_refs ha main.1
end
section
def eqD:D->D->M D:=λx y G=>match eqN 40 G x y with
 |some b=>some (.ok (.bl b),G)
 |none=>none
def neD:D->D->M D:=λx y G=>match eqN 40 G x y with
 |some b=>some (.ok (.bl (!b)),G)
 |none=>none
theorem bU(hu:X.A.units+64<yH):OpD X Z (zH .Eq) eqD:=⟨by
 intro pins s σ H x y v u Q I rx ry Fm;refine Fm.elim λdx dy μ G Gj Gk hr p=>?_;unfold eqD at p;rcases e:eqN 40 G dx dy with _|b
 ·rw[e]at p;exact p.elim
 ·
   rw[e]at p;exact(oB I hr 40 X.A (by lia) Gj Gk rx ry e).1 X.prog X.w X.xe _ ⟨.bl b,H,I,rfl,c7.ok p hr _ ofB⟩⟩
theorem dP(hu:X.A.units+64<yH):OpD X Z (zH .NotEq) neD:=⟨by
 intro pins s σ H x y v u Q I rx ry Fm;refine Fm.elim λdx dy μ G Gj Gk hr p=>?_;unfold neD at p;rcases e:eqN 40 G dx dy with _|b
 ·rw[e]at p;exact p.elim
 ·
   rw[e]at p;exact(oB I hr 40 X.A (by lia) Gj Gk rx ry e).2.1 X.prog X.w X.xe _ ⟨.bl (!b),H,I,rfl,c7.ok p hr _ ofB⟩⟩
def leD:D->D->M D:=λx y=>match x,y with
 | .int i,.int j=>pure (.bl (decide (i<=j)))
 | .str i,.str j=>pure (.bl (!decide (j.cps.toList<i.cps.toList)))
 |_,_=>M.stuck
def gtD:D->D->M D:=λx y=>match x,y with
 | .int i,.int j=>pure (.bl (decide (j<i)))
 | .str i,.str j=>pure (.bl (decide (j.cps.toList<i.cps.toList)))
 |_,_=>M.stuck
def geD:D->D->M D:=λx y=>match x,y with
 | .int i,.int j=>pure (.bl (decide (j<=i)))
 | .str i,.str j=>pure (.bl (!decide (i.cps.toList<j.cps.toList)))
 |_,_=>M.stuck
theorem RG{op:CmpOp}{fi:Int->Int->Bool}{fs:Str->Str->Bool}(hi:OpR X (zH op) (g6 λi j=>.bl (fi i j)))
 (hs:∀(i j:Str) (t u:Tok) (s:zm) Q E,Q (.bool (fs i j)) s->zp (zy X.prog X.w) X.A (zH op (.str i t) (.str j u)) Q E s)
 (h1:∀i j,o (.int i) (.int j)=pure (.bl (fi i j))) (h2:∀i j,o (.str i) (.str j)=pure (.bl (fs i j)))
 (h3:∀x y,(∀i j,¬(x= .int i/\y= .int j))->(∀i j,¬(x= .str i/\y= .str j))->o x y=M.stuck):OpD X Z (zH op) o:=⟨by
 intro pins s σ H x y v u Q I rx ry Fm;refine Fm.elim λdx dy μ G Gj Gk hr p=>?_;by_cases c1:∃i j,dx= .int i/\dy= .int j
 ·obtain⟨i,j,rfl,rfl⟩:=c1;rw[h1]at p;exact hi pins s σ H x y v u Q I rx ry ⟨i,j,Q7 Gj,Q7 Gk,c7.ok p hr _ ofB⟩
 · by_cases c2:∃i j,dx= .str i/\dy= .str j
   ·obtain⟨i,j,rfl,rfl⟩:=c2;rw[h2]at p;have e1:=K0 Gj;have e2:=K0 Gk;subst e1 e2;obtain⟨t,rfl⟩:=rx;obtain⟨t',rfl⟩:=ry;exact hs i j t t' s _ _ ⟨.bl (fs i j),H,I,rfl,c7.ok p hr _ ofB⟩
   ·rw[h3 dx dy (λi j z=>c1 ⟨i,j,z⟩) (λi j z=>c2 ⟨i,j,z⟩)]at p;exact p.elim⟩
theorem OR:OpD X Z (zH .LtE) leD:=RG lO (λ_ _ _ _ _ _ _ q=>PySem.P.le_str q) (λ_ _=>rfl) (λ_ _=>rfl) λx y n1 n2=>by
 rcases x with _|_|_|_|_|_|_|_<;>rcases y with _|_|_|_|_|_|_|_<;>first
  |rfl
  |exact absurd ⟨rfl,rfl⟩ (n1 _ _)
  |exact absurd ⟨rfl,rfl⟩ (n2 _ _)
theorem OQ:OpD X Z (zH .Gt) gtD:=RG vp (λ_ _ _ _ _ _ _ q=>PySem.P.gt_str q) (λ_ _=>rfl) (λ_ _=>rfl) λx y n1 n2=>by
 rcases x with _|_|_|_|_|_|_|_<;>rcases y with _|_|_|_|_|_|_|_<;>first
  |rfl
  |exact absurd ⟨rfl,rfl⟩ (n1 _ _)
  |exact absurd ⟨rfl,rfl⟩ (n2 _ _)
theorem BO:OpD X Z (zH .GtE) geD:=RG pZ (λ_ _ _ _ _ _ _ q=>PySem.P.ge_str q) (λ_ _=>rfl) (λ_ _=>rfl) λx y n1 n2=>by
 rcases x with _|_|_|_|_|_|_|_<;>rcases y with _|_|_|_|_|_|_|_<;>first
  |rfl
  |exact absurd ⟨rfl,rfl⟩ (n1 _ _)
  |exact absurd ⟨rfl,rfl⟩ (n2 _ _)
def cF:D->Bool
 | .non=>true
 |_=>false
theorem SJ(r:d7 c μ H d v):decide (v= .non)=cF d:=by
 cases d with
 |non=>rw[BB r];rfl
 |tup l=>unfold d7 at r;obtain⟨a,_,rfl,_⟩:=r;rfl
 |ref l=>unfold d7 at r;obtain⟨a,_,rfl⟩:=r;rfl
 |fn l=>unfold d7 at r;obtain⟨a,_,rfl⟩:=r;rfl
 |_=>unfold d7 at r;subst r;rfl
def A2:D->M D:=λx=>match x with
 | .int i=>pure (.int (-i))
 |_=>M.stuck
theorem FZ:UnD X Z (unaryOp .USub) A2:=⟨by
 intro pins s σ H x v Q I rx Fm;refine Fm.elim λdx μ G Gj hr p=>?_
 cases dx<;>first
  |exact p.elim
  |exact MY pins s σ H x v Q I rx ⟨_,Q7 Gj,c7.ok p hr _ ofI⟩⟩
instance (x:Str) (n:Int):Decidable (Yk x n):=by unfold Yk;infer_instance
def L1:D->D->M D:=λx y=>match x,y with
 | .int i,.int j=>if j5 i j then pure (.int (i*j))else M.stuck
 | .str x,.int n=>if Yk x n then pure (.str (Txt.mul x n))else M.stuck
 |_,_=>M.stuck
theorem oX:OpR X (jF .Mult) (λx y H Q=>∃z n,x= .str z/\y= .int n/\Yk z n/\Q (.str (Txt.mul z n)) H):=by intro pins s σ H x y v u Q I rx ry h;obtain⟨z,n,rfl,rfl,hk,q⟩:=h;obtain⟨t,rfl⟩:=rx;obtain⟨t',rfl⟩:=ry;exact PySem.SB.mul hk λt' k=>⟨.str _,H,I.tok _,⟨_,rfl⟩,q⟩
theorem BQ:OpD X Z (jF .Mult) L1:=
 OpD.of (OpR.or sY oX) λx y H Q Fm=>Fm.elim λdx dy μ G Gj Gk hr p=>by
  rcases dx with _|_|_|_|_|_|_|_<;>rcases dy with _|_|_|_|_|_|_|_<;>first
   |exact p.elim
   |skip
  · unfold L1 at p;dsimp only at p;split at p
    ·rename_i hc;exact .inl ⟨_,_,Q7 Gj,Q7 Gk,hc,c7.ok p hr _ ofI⟩
    ·exact p.elim
  · unfold L1 at p;dsimp only at p;split at p
    ·rename_i hc;exact .inr ⟨_,_,K0 Gj,Q7 Gk,hc,c7.ok p hr _ ofS⟩
    ·exact p.elim
end
def mF(A:jb)(s:zm)(y x:zd)(b:Bool):Prop:=
 ∀(prog:zI) (w:zR) (E:VSP) (Q:VSP),Q (.bool b) s->zp (zy prog w) A (richCompare .Lt y x) Q E s
inductive LtR(A:jb)(s:zm):List zd->List zd->Bool->Prop
 |nil:LtR A s [] [] false
 |nilc {y ys}:LtR A s [] (y::ys) true
 |cnil {x xs}:LtR A s (x::xs) [] false
 |eq {x y xs ys b}:jp A s x y true->LtR A s xs ys b->LtR A s (x::xs) (y::ys) b
 |ne {x y xs ys b}:jp A s x y false->mF A s x y b->LtR A s (x::xs) (y::ys) b
section
open PySem.SeqAt
open PySem.AutoSeq1 (wpAny_loadPart')
open PySem.MeetsSeq PySem.MeetsSeq2 PySem.MeetsSeq3
theorem tO(l b:Addr)(items Fv:Array zd)(n n2:Nat)(dd dd2:Option Addr)(sl sl2:Array (Option zd))(k:Bool):
 Meets (yT.«tuple.__lt__» ⟨[.ref l,.ref b], []⟩)
  (λA R s=>s.heap.get? l=some {cls:=.type "tuple",dict:=dd,data:=.seq items n,slots:=sl}/\s.heap.get? b=some {cls:=.type "tuple",dict:=dd2,data:=.seq Fv n2,slots:=sl2}/\
    LtR A.in1 s items.toList Fv.toList k/\R (.ok (.ret (.bool k))) s):=
 .of_wp λprog w A R s h=>by
  obtain⟨hp,g,d,tk,os⟩:=s;obtain⟨hl,hb,hk,h⟩:=h;have f2:=AutoSeq1.sub_tuple_tuple
  wp_walk using jc hl,jc hb,wpAny_forIn_list _ (λrest b s'=>b.1=none/\s'= ⟨hp,g,d,tk,os⟩/\∃(vs ws:List zd),rest=vs.zip ws/\
   vs.length+Fv.size=ws.length+items.size/\LtR A.in1 ⟨hp,g,d,tk,os⟩ vs ws k) _
  case turn=>
   rintro⟨y,x⟩ rest b s' ⟨Hc,rfl,vs,ws,hz,Fp,hR⟩
   cases hR with
   |nil=>exact IG hz
   |nilc=>exact IG hz
   |cnil=>exact IG hz
   |eq he hR'=>
     rw[xx]at hz;injection hz with hyx hrest;injection hyx with hy hx;subst hy hx;refine za (he prog w _ _ ?_)
     wp_walk
     simp only[zw]at Fp;exact⟨rfl,rfl,_,_,hrest,by lia,hR'⟩
   |ne he hc=>
     rw[xx]at hz;injection hz with hyx hrest;injection hyx with hy hx;subst hy hx;refine za (he prog w _ _ ?_);have hri:=hc prog w
     wp_walk using hri
     exact⟨_,rfl,h⟩
  case fin=>
   rintro⟨b1,b2⟩ s' ⟨Hc,rfl,vs,ws,hz,Fp,hR⟩;simp only at Hc;subst Hc;have hv:k=decide (items.size<Fv.size):=by
    cases hR with
    |nil=>simp only[jD]at Fp;exact(decide_eq_false (by lia)).symm
    |nilc=>simp only[jD,zw]at Fp;exact(decide_eq_true (by lia)).symm
    |cnil=>simp only[jD,zw]at Fp;exact(decide_eq_false (by lia)).symm
    |eq _ _=>rw[xx]at hz;exact eD hz
    |ne _ _=>rw[xx]at hz;exact eD hz
   rw[hv]at h
   wp_walk
   exact⟨_,rfl,by simpa [Builtin.Tuple.tupleCompareSizes]using h⟩
  case h=>
   exact⟨rfl,rfl,items.toList,Fv.toList,rfl,by simp;lia,hk⟩
theorem VP(l b:Addr)(items Fv:Array zd)(n n2:Nat)(dd dd2:Option Addr)(sl sl2:Array (Option zd))(k:Bool):∀vs ws i,items.toList.drop i=vs->Fv.toList.drop i=ws->i<=items.size->i<=Fv.size->
 Meets (yT.«list.__eq__.loop» ⟨[.ref l,.ref b,Yq i,Yq 0], []⟩)
  (λA R s=>s.heap.get? l=some {cls:=.type "list",dict:=dd,data:=.seq items n,slots:=sl}/\s.heap.get? b=some {cls:=.type "list",dict:=dd2,data:=.seq Fv n2,slots:=sl2}/\
    LtR A.in1 s vs ws k/\R (.ok (.ret (.bool k))) s):=by
 have dropn:∀(a:Array zd) (i:Nat),a.toList.drop i= []->i<=a.size->i=a.size:=λa i e hi=>by have:=List.drop_eq_nil_iff.mp e;simp at this;lia
 have dropc:∀(a:Array zd) (i:Nat) (v:zd) (r:List zd),a.toList.drop i=v::r->i<a.size/\a[((i:Nat):Int).toNat]? =some v/\a.toList.drop (i+1)=r:=λa i v r e=>by
  have Gd:i<a.toList.length:=by
   rcases ZZ i a.toList.length with q|q
   ·exact q
   ·rw[xU q]at e;exact eD e
  rw[xE Gd]at e;injection e with e1 e2;refine⟨by simpa using Gd,?_,e2⟩;simp at Gd;simp[Gd];simpa using e1
 intro vs
 induction vs with
 |nil=>
   intro ws i hv hw hi hi2 prog w A R s h;obtain⟨hp,g,d,tk,os⟩:=s;obtain⟨hl,hb,he,h⟩:=h;have e1:=dropn items i hv hi
   wp_walk using jc hl,jc hb
   have hi1:items[((i:Nat):Int).toNat]? =none:=by simp;lia
   rw[hi1];rcases ws with _|⟨y,ys⟩
   ·
     have e2:=dropn Fv i hw hi2
     cases he
     wp_walk using jc hl,jc hb
     show R (.ok (.ret (.bool (decide (items.size<Fv.size))))) _;rw[decide_eq_false (by lia)];exact h
   ·
     obtain⟨Gd,_,_⟩:=dropc Fv i y ys hw
     cases he
     wp_walk using jc hl,jc hb
     show R (.ok (.ret (.bool (decide (items.size<Fv.size))))) _;rw[decide_eq_true (by lia)];exact h
 |cons x xs ih=>
   intro ws i hv hw hi hi2 prog w A R s h;obtain⟨hp,g,d,tk,os⟩:=s;obtain⟨hl,hb,he,h⟩:=h;obtain⟨Gd,g1,d1⟩:=dropc items i x xs hv
   wp_walk using jc hl,jc hb
   rcases ws with _|⟨y,ys⟩
   ·
     have e2:=dropn Fv i hw hi2;have hi2':Fv[((i:Nat):Int).toNat]? =none:=by simp;lia
     rw[g1,hi2']
     cases he
     wp_walk using jc hl,jc hb
     show R (.ok (.ret (.bool (decide (items.size<Fv.size))))) _;rw[decide_eq_false (by lia)];exact h
   ·
     obtain⟨hlt2,g2,d2⟩:=dropc Fv i y ys hw;have hc:((i:Int)+1)= ((i+1:Nat):Int):=by push_cast;rfl
     rw[g1,g2]
     cases he with
     |eq he he'=>
       refine za (he prog w _ _ ?_)
       wp_walk
       rw[hc];exact⟨Yh plain_eq_loop _,Zt entry_eq_loop (by rw[xg plain_eq_loop _];exact ih ys (i+1) d1 d2 (by lia) (by lia) prog w A R _ ⟨hl,hb,he',h⟩)⟩
     |ne he hcmp=>
       refine za (he prog w _ _ ?_);have hri:=hcmp prog w
       wp_walk using jc hl,jc hb
       rw[g1,g2]
       wp_walk using hri
       exact h
theorem gS(l b:Addr)(items Fv:Array zd)(n n2:Nat)(dd dd2:Option Addr)(sl sl2:Array (Option zd))(k:Bool):
 Meets (yT.«list.__lt__» ⟨[.ref l,.ref b], []⟩)
  (λA R s=>s.heap.get? l=some {cls:=.type "list",dict:=dd,data:=.seq items n,slots:=sl}/\s.heap.get? b=some {cls:=.type "list",dict:=dd2,data:=.seq Fv n2,slots:=sl2}/\
    LtR A.in1 s items.toList Fv.toList k/\R (.ok (.ret (.bool k))) s):=by
 intro prog w A R s h;obtain⟨hp,g,d,tk,os⟩:=s;obtain⟨hl,hb,he,h⟩:=h;have f3:=AutoSeq1.sub_list_list
 wp_walk using jc hl,jc hb
 exact⟨Yh plain_eq_loop _,Zt entry_eq_loop (by rw[xg plain_eq_loop _];exact VP l b items Fv n n2 dd dd2 sl sl2 k items.toList Fv.toList 0 rfl rfl (zW _) (zW _) prog w A R _ ⟨hl,hb,he,h⟩)⟩
end
def ltS:D->D->Option Bool
 | .int a,.int b=>some (decide (a<b))
 | .str a,.str b=>some (decide (a.cps.toList<b.cps.toList))
 | .bl a,.bl b=>some (decide (b2i a<b2i b))
 |_,_=>none
def ltL(eq lt:D->D->Option Bool):List D->List D->Option Bool
 |[], []=>some false
 |[],_::_=>some true
 |_::_, []=>some false
 |x::xs,y::ys=>match eq x y with
   |some true=>ltL eq lt xs ys
   |some false=>lt x y
   |none=>none
def ltN:Nat->DH->D->D->Option Bool
 |0,_,_,_=>none
 |n+1,G,x,y=>match V4 G x,V4 G y with
   |some (k1,a),some (k2,b)=>if k1=k2 then ltL (eqN n G) (ltN n G) a b else none
   |none,none=>ltS x y
   |_,_=>none
theorem kW:ltN (n+1) G x y=match V4 G x,V4 G y with
 |some (k1,a),some (k2,b)=>if k1=k2 then ltL (eqN n G) (ltN n G) a b else none
 |none,none=>ltS x y
 |_,_=>none:=rfl
section
theorem lW(rx:d7 c μ H dx x)(ry:d7 c μ H dy y)(rv:o5 x v)(ru:o5 y u)(e:ltS dx dy=some b):mF A s v u b:=by
 intro prog w E Q hq;rcases dx with _|_|_|_|_|_|_|_<;>rcases dy with _|_|_|_|_|_|_|_<;>first
  |(cases e;done)
  |skip
 · cases e
   unfold d7 at rx ry;subst rx ry;cases rv;cases ru;exact(lt_bool hq:zp (zy prog w) A (zH .Lt _ _) Q E s)
 · cases e
   unfold d7 at rx ry;subst rx ry;obtain⟨t,rfl⟩:=rv;obtain⟨t',rfl⟩:=ru;exact(lt_int hq:zp (zy prog w) A (zH .Lt _ _) Q E s)
 · cases e
   unfold d7 at rx ry;subst rx ry;obtain⟨t,rfl⟩:=rv;obtain⟨t',rfl⟩:=ru;exact(lt_str hq:zp (zy prog w) A (zH .Lt _ _) Q E s)
theorem lt_at(I:Inv X pins σ H s)(h:j8 (wc X) μ G H):∀n A,A.units+n<yH->∀ {dx dy} {x y} {v u} {b},d7 (wc X) μ H dx x->d7 (wc X) μ H dy y->o5 x v->o5 y u->ltN n G dx dy=some b->mF A s v u b
 |0,_,_,_,_,_,_,_,_,_,_,_,_,_,e=>by exact t6 e
 |n+1,A,hu,dx,dy,x,y,v,u,b,rx,ry,rv,ru,e=>by
   have hu0:A.units<yH:=by lia
   have hu1:A.in1.units+n<yH:=by show A.units+1+n<yH;lia
   rw[kW]at e;rcases hx:V4 G dx with _|p
   ·
     rw[hx]at e;rcases hy:V4 G dy with _|p
     ·rw[hy]at e;exact lW rx ry rv ru e
     ·rw[hy]at e;exact t6 e
   ·
     obtain⟨k,l⟩:=p;rw[hx]at e;rcases hy:V4 G dy with _|p'
     ·rw[hy]at e;exact t6 e
     ·
       obtain⟨k',l'⟩:=p';rw[hy]at e;dsimp only at e;split at e
       case isFalse=>exact t6 e
       rename_i hk;subst hk;obtain⟨a,vs,Fj,rfl,rfl,rl,rr,sq,q⟩:=Z2 I h hx rx rv;obtain⟨a',Gm,its',rfl,rfl,Gf,rr',sq',q'⟩:=Z2 I h hy ry ru;have main:∀(l l':List D) (vs Gm:List V) (Fj its':List zd),g8 (wc X) μ H l vs->g8 (wc X) μ H l' Gm->j7 vs Fj->j7 Gm its'->ltL (eqN n G) (ltN n G) l l'=some b->LtR A.in1 s Fj its' b:=by
        intro l
        induction l with
        |nil=>
          intro l' vs Gm Fj its' r r' q q' e
          cases r;cases q
          rcases l' with _|⟨_,_⟩
          ·cases r';cases q';cases e;exact .nil
          ·
            obtain⟨_,_,rfl,_,_⟩:=r'
            cases q'
            cases e
            exact .nilc
        |cons d ds ih=>
          intro l' vs Gm Fj its' r r' q q' e;obtain⟨v0,vr,rfl,r0,rt⟩:=r
          cases q with
          |cons q0 qt=>
            rcases l' with _|⟨d',ds'⟩
            ·cases r';cases q';cases e;exact .cnil
            ·
              obtain⟨v1,vr',rfl,r1,rt'⟩:=r'
              cases q' with
              |cons q1 qt'=>
                unfold ltL at e;rcases he:eqN n G d d' with _|b0
                ·rw[he]at e;exact t6 e
                ·
                  rw[he]at e;have hE:=(oB I h n A.in1 hu1 r0 r1 q0 q1 he).2.2;rcases b0 with _|_
                  ·exact .ne hE (lt_at I h n A.in1 hu1 r0 r1 q0 q1 e)
                  ·exact .eq hE (ih ds' vr vr' _ _ rt rt' qt qt' e)
       have hR:=main l l' vs Gm Fj its' rl Gf rr rr' e;intro prog w E Q hq;rcases k with _|_
       ·
         obtain⟨⟨cls,dd,data,sl⟩,ho,hc,m,hd⟩:=id sq;obtain⟨⟨cls2,dd2,data2,sl2⟩,Gp,hc2,m2,hd2⟩:=id sq';simp only at hc hd hc2 hd2;subst hc hd hc2 hd2;exact JD ⟨_,ho,rfl⟩ ⟨_,Gp,rfl⟩ PySem.F.slot_list_lt PySem.F.entry_list_lt (PySem.F.args_list_lt_2 _ _) (gS a a' Fj.toArray its'.toArray m m2 dd dd2 sl sl2 b)
          ⟨ho,Gp,hR,show Value.bool b≠Value.notImplemented/\Q (.bool b) s from⟨(λx=>nomatch x),hq⟩⟩ hu0
       ·
         obtain⟨⟨cls,dd,data,sl⟩,ho,hc,m,hd⟩:=id sq;obtain⟨⟨cls2,dd2,data2,sl2⟩,Gp,hc2,m2,hd2⟩:=id sq';simp only at hc hd hc2 hd2;subst hc hd hc2 hd2;exact JD ⟨_,ho,rfl⟩ ⟨_,Gp,rfl⟩ PySem.F.slot_tuple_lt PySem.F.entry_tuple_lt (PySem.F.args_tuple_lt_2 _ _) (tO a a' Fj.toArray its'.toArray m m2 dd dd2 sl sl2 b)
          ⟨ho,Gp,hR,show Value.bool b≠Value.notImplemented/\Q (.bool b) s from⟨(λx=>nomatch x),hq⟩⟩ hu0
def ltD:D->D->M D:=λx y G=>match ltN 40 G x y with
 |some b=>some (.ok (.bl b),G)
 |none=>none
theorem EN(hu:X.A.units+64<yH):OpD X Z (zH .Lt) ltD:=⟨by
 intro pins s σ H x y v u Q I rx ry Fm;refine Fm.elim λdx dy μ G Gj Gk hr p=>?_;unfold ltD at p;rcases e:ltN 40 G dx dy with _|b
 ·rw[e]at p;exact p.elim
 ·
   rw[e]at p;exact lt_at I hr 40 X.A (by lia) Gj Gk rx ry e X.prog X.w X.xe _ ⟨.bl b,H,I,rfl,c7.ok p hr _ ofB⟩⟩
end
def d5:D->Bool
 | .non=>true
 | .bl _=>true
 | .int _=>true
 | .str _=>true
 |_=>false
def toV:D->V
 | .bl b=>.bl b
 | .int i=>.int i
 | .str x=>.str x
 |_=>.non
def u8:D->Option Key
 | .int i=>some (.inl i)
 | .str x=>some (.inr x)
 |_=>none
def f6(l:List (Key×D))(k:Key):Option D:=(l.find? λkv=>decide (kv.1=k)).map (·.2)
def inB(x y:D)(G:DH):Option Bool:=match y with
 | .str j=>match x with
   | .str i=>some (!(xr j i 0 j.length 1).isEmpty)
   |_=>none
 | .ref r=>match G[r]? with
   |some (.dct l)=>(u8 x).map λk=>(f6 l k).isSome
   |some (.rod _)=>none
   |some (.lst l)=>if d5 x&&l.all d5 then some (inV (toV x) (l.map toV))else none
   |some (.rol l)=>if d5 x&&l.all d5 then some (inV (toV x) (l.map toV))else none
   |none=>none
 | .tup l=>if d5 x&&l.all d5 then some (inV (toV x) (l.map toV))else none
 |_=>none
def inD:D->D->M D:=λx y G=>match inB x y G with
 |some b=>some (.ok (.bl b),G)
 |none=>none
section
theorem DM(f:d5 d=true)(r:d7 c μ H d v):v=toV d/\S4 v=true:=by
 cases d<;>first
  |exact absurd (show false=true from f) zv
  |(unfold d7 at r;subst r;exact⟨rfl,rfl⟩)
theorem AH:∀ {l} {vs},l.all d5=true->g8 c μ H l vs->vs=l.map toV/\vs.all S4=true
 |[],_,_,r=>by cases r;exact⟨rfl,rfl⟩
 |d::ds,_,f,r=>by obtain⟨v,t,rfl,q,rt⟩:=r;rw[jP,jl]at f;obtain⟨e1,e2⟩:=DM f.1 q;obtain⟨e3,e4⟩:=AH f.2 rt;refine⟨by rw[zN,<-e1,<-e3],?_⟩;rw[jP,e2,e4];rfl
theorem QF(e:u8 d=some k)(r:d7 c μ H d v):v=kV k:=by
 cases d<;>first
  |(cases e;unfold d7 at r;exact r)
  |exact t6 e
theorem OL:∀ {l} {Fk},Q6 c μ H l Fk->match f6 l k with|some d=>∃v,E2 Fk k=some v/\d7 c μ H d v|none=>E2 Fk k=none
 |[],_,r=>by cases r;exact rfl
 |(k',d)::t,_,r=>by
  obtain⟨v,kt,rfl,q,rt⟩:=r;by_cases e:k'=k
  · have h1:f6 ((k',d)::t) k=some d:=by unfold f6;simp[e]
    rw[h1];exact⟨v,bD e,q⟩
  · have h1:f6 ((k',d)::t) k=f6 t k:=by unfold f6;simp[e]
    rw[h1];have ih:=OL (k:=k) rt;rw[tD e];exact ih
theorem nW(r:Q6 c μ H l Fk):(f6 l k).isSome= (E2 Fk k).isSome:=by
 have q:=OL (k:=k) r;rcases e:f6 l k with _|d
 ·rw[e]at q;rw[q];rfl
 ·rw[e]at q;obtain⟨v,q,_⟩:=q;rw[q];rfl
theorem mT(hu:X.A.units+64<yH)(I:Inv X pins σ H s)(hr:j8 (wc X) μ G H)(Gj:d7 (wc X) μ H dx x)(Gk:d7 (wc X) μ H dy y)(rx:o5 x v)(ry:o5 y u)
 (e:inB dx dy G=some b):
 (Q (.bl b) H->zp (zy X.prog X.w) X.A (zH .In v u) (EP X pins σ Q) X.xe s)/\(Q (.bl (!b)) H->zp (zy X.prog X.w) X.A (zH .NotIn v u) (EP X pins σ Q) X.xe s):=by
 have seq:∀(p:Addr) (l:List D) (vs:List V),y= .ref p->(SqL X.K H p vs\/SqT X.K H p vs)->g8 (wc X) μ H l vs->(if (d5 dx&&l.all d5)=true then some (inV (toV dx) (l.map toV))else none)=some b->
  (Q (.bl b) H->zp (zy X.prog X.w) X.A (zH .In v u) (EP X pins σ Q) X.xe s)/\(Q (.bl (!b)) H->zp (zy X.prog X.w) X.A (zH .NotIn v u) (EP X pins σ Q) X.xe s):=by
  intro p l vs hy hq rl e;split at e
  · rename_i hf;rw[jl]at hf
    cases e
    obtain⟨e1,e2⟩:=DM hf.1 Gj;obtain⟨e3,e4⟩:=AH hf.2 rl;rw[<-e1,<-e3];exact⟨λq=>HW pins s σ H x y v u Q I rx ry ⟨p,vs,hy,hq,e2,e4,q⟩,λq=>OY pins s σ H x y v u Q I rx ry ⟨p,vs,hy,hq,e2,e4,q⟩⟩
  ·exact t6 e
 rcases dy with _|_|_|j|l|i|_|_<;>try (cases e;done)
 ·
   rcases dx with _|_|_|i|_|_|_|_<;>try (cases e;done)
   ·
     cases e
     have e1:=K0 Gj;have e2:=K0 Gk;exact⟨λq=>DN pins s σ H x y v u Q I rx ry ⟨i,j,e1,e2,q⟩,λq=>qd pins s σ H x y v u Q I rx ry ⟨i,j,e1,e2,q⟩⟩
 ·
   unfold d7 at Gk;obtain⟨a,vs,hy,q,rl⟩:=Gk;exact seq a l vs hy (.inr q) rl e
 ·
   unfold d7 at Gk;obtain⟨a,m,hy⟩:=Gk;rcases g:G[i]? with _|o
   ·unfold inB at e;simp only[g]at e;exact t6 e
   ·
     have ro:=hr.obj i o a g m;rcases o with l|l|l|l
     ·
       obtain⟨vs,q,rl⟩:=ro;unfold inB at e;simp only[g]at e;exact seq a l vs hy (.inl (SqL.of q)) rl e
     ·
       obtain⟨vs,q,rl⟩:=ro;unfold inB at e;simp only[g]at e;exact seq a l vs hy (.inl q.sq) rl e
     ·
       obtain⟨Fk,q,rk⟩:=ro;unfold inB at e;simp only[g]at e;rcases hk:u8 dx with _|k
       ·rw[hk]at e;exact t6 e
       ·
         rw[hk]at e
         cases e
         have ek:=QF hk Gj;have dg:FA H a x (E2 Fk k):=by rw[ek];exact FA.k q
         subst hy
         cases ry
         dsimp only;rw[nW rk];exact⟨λq=>aR (by lia) I dg rx λs' I'=>⟨.bl _,H,I',rfl,q⟩,λq=>BS (by lia) I dg rx λs' I'=>⟨.bl _,H,I',rfl,q⟩⟩
     ·unfold inB at e;simp only[g]at e;exact t6 e
theorem AV(hu:X.A.units+64<yH):OpD X Z (zH .In) inD:=⟨by
 intro pins s σ H x y v u Q I rx ry Fm;refine Fm.elim λdx dy μ G Gj Gk hr p=>?_;unfold inD at p;rcases e:inB dx dy G with _|b
 ·rw[e]at p;exact p.elim
 ·rw[e]at p;exact(mT hu I hr Gj Gk rx ry e).1 (c7.ok p hr _ ofB)⟩
inductive Ty where
 |int|bool|str|tuple|list|dict
 deriving DecidableEq
def Ty.name:Ty->String
 | .int=> "int"| .bool=> "bool"| .str=> "str"| .tuple=> "tuple"| .list=> "list"| .dict=> "dict"
def Ty.of(n:String):Option Ty:=if n= "int" then some .int else if n= "bool" then some .bool else if n= "str" then some .str else if n= "tuple" then some .tuple else if n= "list" then some .list else if n= "dict" then some .dict else none
theorem Ty.of_name{n:String}{T:Ty}(h:Ty.of n=some T):n=T.name:=by
 unfold Ty.of at h;split at h
 ·rename_i e;cases h;exact e
 split at h
 ·rename_i e;cases h;exact e
 split at h
 ·rename_i e;cases h;exact e
 split at h
 ·rename_i e;cases h;exact e
 split at h
 ·rename_i e;cases h;exact e
 split at h
 ·rename_i e;cases h;exact e
 ·exact t6 h
inductive Kd where
 |non|bool|int|str|tuple|list|dict
def Kd.is:Kd->Ty->Bool
 | .bool,.int=>true
 | .bool,.bool=>true
 | .int,.int=>true
 | .str,.str=>true
 | .tuple,.tuple=>true
 | .list,.list=>true
 | .dict,.dict=>true
 |_,_=>false
def Kd.name:Kd->String
 | .non=> "NoneType"| .bool=> "bool"| .int=> "int"| .str=> "str"| .tuple=> "tuple"| .list=> "list"| .dict=> "dict"
def L9(G:DH):D->Option Kd
 | .non=>some .non
 | .bl _=>some .bool
 | .int _=>some .int
 | .str _=>some .str
 | .tup _=>some .tuple
 | .ref i=>match G[i]? with
   |some (.lst _)=>some .list
   |some (.rol _)=>some .list
   |some (.dct _)=>some .dict
   |some (.rod _)=>some .dict
   |none=>none
 |_=>none
def IA:List D->Option (List Ty)
 |[]=>some []
 | .ty n::r=>match Ty.of n,IA r with
   |some T,some Ts=>some (T::Ts)
   |_,_=>none
 |_=>none
def J2:List D->M D:=λds G=>match ds with
 |[d,.ty n]=>match L9 G d,Ty.of n with
   |some k,some T=>some (.ok (.bl (k.is T)),G)
   |_,_=>none
 |[d,.tup l]=>match L9 G d,IA l with
   |some k,some Ts=>some (.ok (.bl (Ts.any k.is)),G)
   |_,_=>none
 |_=>none
theorem RU(K:ze)(k:Kd)(T:Ty):PySem.W.kitOne K (.type k.name) (.type T.name)=some (k.is T):=by
 cases k<;>cases T<;>rfl
theorem lM{A:jb}{E:VSP}{pins:PNS}{σ:St}{s:zm}{d:D}{x:V}{v:zd}{k:Kd}(I:Inv X pins σ H s)(hr:j8 (wc X) μ G H)(r:d7 (wc X) μ H d x)(rv:o5 x v)(e:L9 G d=some k):
 ∃HH:Heap->Prop,PySem.W.KitX X.K v (.type k.name) HH/\HH s.heap/\v≠ .builtin "__main__.__loader__#opaque":=by
 rcases d with _|b|b|b|l|i|_|_<;>try (cases e;done)
 ·cases e;unfold d7 at r;subst r;cases rv;exact⟨_,PySem.W.kitx_none,True.intro,λz=>nomatch z⟩
 ·cases e;unfold d7 at r;subst r;cases rv;exact⟨_,PySem.W.kitx_bool,True.intro,λz=>nomatch z⟩
 ·cases e;unfold d7 at r;subst r;obtain⟨t,rfl⟩:=rv;exact⟨_,PySem.W.kitx_int,True.intro,λz=>nomatch z⟩
 ·cases e;unfold d7 at r;subst r;obtain⟨t,rfl⟩:=rv;exact⟨_,PySem.W.kitx_str,True.intro,λz=>nomatch z⟩
 ·
   cases e
   unfold d7 at r;obtain⟨a,vs,rfl,q,_⟩:=r
   cases rv
   obtain⟨Fj,_,⟨o,h1,h2,_⟩,_⟩:=I.tuple q;exact⟨_,PySem.W.kitx_tuple,⟨o,h1,h2⟩,λz=>nomatch z⟩
 ·
   unfold d7 at r;obtain⟨a,m,rfl⟩:=r
   cases rv
   unfold L9 at e;rcases g:G[i]? with _|o
   ·simp only[g]at e;exact t6 e
   ·
     have ro:=hr.obj i o a g m;simp only[g]at e;rcases o with l|l|l|l
     ·
       cases e
       obtain⟨vs,q,_⟩:=ro;obtain⟨Fj,_,⟨o,n,h1,h2,_⟩,_⟩:=I.list (SqL.of q);exact⟨_,XH,⟨o,h1,h2⟩,λz=>nomatch z⟩
     ·
       cases e
       obtain⟨vs,q,_⟩:=ro;obtain⟨Fj,_,⟨o,n,h1,h2,_⟩,_⟩:=I.list q.sq;exact⟨_,XH,⟨o,h1,h2⟩,λz=>nomatch z⟩
     ·
       cases e
       obtain⟨Fk,q,_⟩:=ro;obtain⟨_,_,vs,_,o,es,ep,h1,h2,_⟩:=(show K5 X.prog X.w H s.heap a (.dK Fk)from I.hok a _ q);exact⟨_,XI,⟨o,h1,h2.1⟩,λz=>nomatch z⟩
     ·
       cases e
       obtain⟨Fk,ob,q,_⟩:=ro;obtain⟨_,_,_,vs,_,o,es,ep,h1,h2,_⟩:=(show K5 X.prog X.w H s.heap a (.frz ob (.dK Fk))from I.hok a _ q);exact⟨_,XI,⟨o,h1,h2.1⟩,λz=>nomatch z⟩
theorem IK:∀ {l:List D} {vs:List V} {us:List zd} {Ts:List Ty},IA l=some Ts->g8 c μ H l vs->j7 vs us->us=Ts.map λT=>.type T.name
 |[],_,_,_,e,r,q=>by cases e;cases r;cases q;rfl
 |d::ds,_,_,Ts,e,r,q=>by
   obtain⟨v,t,rfl,r0,rt⟩:=r
   cases q with
   |cons q0 qt=>
     rcases d with _|_|_|_|_|_|_|n<;>try (cases e;done)
     ·
       replace e:(match Ty.of n,IA ds with|some T,some Ts=>some (T::Ts)|_,_=>none)=some Ts:=e;rcases h1:Ty.of n with _|T
       ·rw[h1]at e;exact t6 e
       ·
         rcases h2:IA ds with _|Ts'
         ·rw[h1,h2]at e;exact t6 e
         ·
           rw[h1,h2]at e
           cases e
           unfold d7 at r0;subst r0;rw[IK h2 rt qt,zN,show _=Value.type n from q0,Ty.of_name h1]
theorem bL(K:ze)(k:Kd):∀Ts:List Ty,PySem.W.kitAny K (.type k.name) (Ts.map λT=>.type T.name)=some (Ts.any k.is)
 |[]=>rfl
 |T::Ts=>by
   have ih:=bL K k Ts
   cases k<;>cases T<;>first
    |rfl
    |exact ih
theorem FX:K6 X Z (.builtin "isinstance") J2:=⟨by
 intro pins s σ H xs us Q I r Fm;obtain⟨ds,μ,G,rl,hr,p⟩:=Fm;rcases ds with _|⟨d,_|⟨_|_|_|_|l|_|_|n,_|⟨_,_⟩⟩⟩<;>try exact p.elim
 all_goals (delta J2 at p;dsimp only at p)
 · obtain⟨v,t,rfl,r0,v1,t1,rfl,r1,e⟩:=rl
   cases e
   obtain⟨u,u',rfl,ru,ru'⟩:=wA r;unfold d7 at r1;obtain⟨a,vs,rfl,q,rll⟩:=r1
   cases ru'
   rcases hk:L9 G d with _|k
   ·rw[hk]at p;exact p.elim
   ·
     rcases hT:IA l with _|Ts
     ·rw[hk,hT]at p;exact p.elim
     ·
       rw[hk,hT]at p;obtain⟨HH,kx,hh,Gg⟩:=lM (A:=X.A) (E:=X.xe) I hr r0 ru hk;obtain⟨Fj,rr,⟨⟨cls,dd,data,sl⟩,h1,h2,n,h3⟩,_⟩:=I.tuple q;simp only at h2 h3;subst h2 h3;exact PySem.W.kia_tup kx I.kIn hh h1 (by rw[IK hT rll rr];exact bL X.K k Ts) Gg λtk=>⟨.bl _,H,I.tok tk,rfl,c7.ok p hr _ ofB⟩
 · obtain⟨v,t,rfl,r0,v1,t1,rfl,r1,e⟩:=rl
   cases e
   obtain⟨u,u',rfl,ru,ru'⟩:=wA r;unfold d7 at r1;subst r1
   cases ru'
   rcases hk:L9 G d with _|k
   ·rw[hk]at p;exact p.elim
   ·
     rcases hT:Ty.of n with _|T
     ·rw[hk,hT]at p;exact p.elim
     ·
       rw[hk,hT]at p;rw[Ty.of_name hT];obtain⟨HH,kx,hh,Gg⟩:=lM (A:=X.A) (E:=X.xe) I hr r0 ru hk;exact PySem.W.kia_one kx I.kIn hh (RU X.K k T) Gg λtk=>⟨.bl _,H,I.tok tk,rfl,c7.ok p hr _ ofB⟩⟩
end
theorem tM{c:Wc}{μ:List Addr}{H:Hp}{l:List D}{vs:List V}{i:Int}{d:D}(r:g8 c μ H l vs)(e:atI l i=some d):∃v,atI vs i=some v/\d7 c μ H d v:=by
 unfold atI at e ⊢;rw[<-r.length]
 cases h:ixN l.length i with
 |none=>rw[h]at e;cases e
 |some j=>
   rw[h]at e;obtain⟨v,h1,h2⟩:=r.get e;exact⟨v,h1,h2⟩
def ixD:D->D->M D:=λx y=>match x,y with
 | .tup l,.int i=>N0 (atI l i)
 | .str z,.int i=>if z.length<=zi then do
    let c <-N0 (atI z.cps.toList i)
    pure (.str ⟨#[c]⟩)
   else M.stuck
 | .ref r,.int i=>do
   let l <-J5 r >>= listOf
   N0 (atI l i)
 |_,_=>M.stuck
section
variable{X:Cx}{Z:XC}{a b e:Expr}{fa fb:Fe}{pos:Pos}
def IxD(X:Cx)(Z:XC)(o:D->D->M D):Prop:=IxR X (l8 (wc X) Z o)
theorem pI{o:D->D->M D}(ho:IxD X Z o)(ha:DE X Z a fa)(hb:DE X Z b fb)(hs:vC b):DE X Z (.Subscript a b pos) (j6 o fa fb):=DE.of (QV ho ha.h hb.h hs) qE
theorem lG{c:Wc}{μ:List Addr}{H:Hp}{G:DH}{r:Option D}{K:D->List Addr->DH->Hp->Prop}(h:j8 c μ G H)(p:c7 c Z μ H (N0 r G) K):∃d,r=some d/\K d μ G H:=by
 cases r with
 |none=>exact p.elim
 |some d=>exact⟨d,rfl,c7.ok p h⟩
theorem oQ:IxD X Z ixD:=IxR.mono (BR.or (ix_tup.or lT)) λx y H Q Fm=>Fm.elim λdx dy μ G rx ry hr p=>by
 rcases dx with _|_|_|_|_|_|_|_<;>rcases dy with _|_|_|_|_|_|_|_<;>first
  |exact p.elim
  |skip
 · rename_i z i;refine .inr (.inr ?_);unfold ixD at p;dsimp only at p;split at p
   ·rename_i hz;obtain⟨c,ec,p2⟩:=O7 p;exact⟨z,i,c,K0 rx,Q7 ry,hz,ec,c7.ok p2 hr _ ofS⟩
   ·exact p.elim
 ·rename_i l i;refine .inr (.inl ?_);unfold d7 at rx;obtain⟨a,vs,rfl,q,rl⟩:=rx;obtain⟨d,ed,k⟩:=lG hr p;obtain⟨v,ev,rv⟩:=tM rl ed;exact⟨a,vs,i,v,rfl,Q7 ry,q,ev,k v rv⟩
 · rename_i r i;refine .inl ?_;obtain⟨l,a,vs,rfl,rl,p2,hq⟩:=dE hr rx p;obtain⟨d,ed,k⟩:=lG hr p2;obtain⟨v,ev,rv⟩:=tM rl ed;rcases hq with⟨z,_⟩|⟨_,_,_,⟨_,q⟩|⟨_,q⟩⟩
   ·cases z
   ·exact⟨a,vs,i,v,rfl,Q7 ry,SqL.of q,ev,k v rv⟩
   ·exact⟨a,vs,i,v,rfl,Q7 ry,q.sq,ev,k v rv⟩
theorem aW(ha:DE X Z a fa)(hb:DE X Z b fb)(hs:vC b):DE X Z (.Subscript a b pos) (j6 ixD fa fb):=pI oQ ha hb hs
def cutD(xs:List D)(lo hi:Option Int):List D:=(xs.drop (HT.sIx xs.length 0 lo)).take (HT.sIx xs.length xs.length hi-HT.sIx xs.length 0 lo)
abbrev Fo:=DSt->M (Option Int)
def X4:Fo:=λ_=>pure none
def O2(f:Fe):Fo:=λσ=>do
 match <-f σ with
 | .int i=>pure (some i)
 |_=>M.stuck
def RC(c:Wc)(Z:XC)(f:Fo):TO:=λσ H Q=>∃X2 μ G,t8 c μ H X2 σ/\j8 c μ G H/\c7 c Z μ H (f X2 G) λo _ _ H'=>Q o H'
theorem RC.elim{c:Wc}{Z:XC}{P:Prop}{f:Fo}{σ:St}{H:Hp}{Q:Option Int->Hp->Prop}(h:RC c Z f σ H Q)(k:∀X2 μ G,t8 c μ H X2 σ->j8 c μ G H->c7 c Z μ H (f X2 G) (λo _ _ H'=>Q o H')->P):P:=by obtain⟨e0,e1,e2,e3,e4,e5⟩:=h;exact k e0 e1 e2 e3 e4 e5
structure DOp(X:Cx)(Z:XC)(e:Option Expr)(f:Fo):Prop where
 h:PO X e (RC (wc X) Z f)
theorem PO.mono{e:Option Expr}{t t':TO}(h:PO X e t)(k:∀ σ H Q,t' σ H Q->t σ H Q):PO X e t':=λpins s σ H Q I q=>h pins s σ H Q I (k σ H Q q)
theorem DOp.of{e:Option Expr}{f:Fo}{t:TO}(h:PO X e t)(k:∀ σ H Q,RC (wc X) Z f σ H Q->t σ H Q):DOp X Z e f:=⟨PO.mono h k⟩
theorem sQ:DOp X Z none X4:=DOp.of EY λσ H Q Fm=>Fm.elim λX2 μ G s h p=>c7.ok p h
theorem wg(h:DE X Z e fa):DOp X Z (some e) (O2 fa):=DOp.of (MT h.h) λσ H Q Fm=>Fm.elim λX2 μ G s h p=>⟨X2,μ,G,s,h,(c7.bind p).mono λd X0 G1 H1 x1 h1 p1 v rv=>by
 cases d with
 |int i=>exact⟨i,Q7 rv,c7.ok p1 h1⟩
 |_=>exact p1.elim⟩
def slD:D->Option Int->Option Int->M D:=λx lo hi=>match x with
 | .tup l=>pure (.tup (cutD l lo hi))
 | .ref r=>do
   let l <-J5 r >>= listOf
   J4 (.lst (cutD l lo hi))
 |_=>M.stuck
def SlD(X:Cx)(Z:XC)(o:D->Option Int->Option Int->M D):Prop:=
 SlR X λx lo hi H Q=>∃dx μ G,d7 (wc X) μ H dx x/\j8 (wc X) μ G H/\c7 (wc X) Z μ H (o dx lo hi G) λd X9 _ H'=>∀v,d7 (wc X) X9 H' d v->Q v H'
theorem SlR.mono{r r':V->Option Int->Option Int->Hp->VK->Prop}(h:SlR X r)(k:∀x lo hi H Q,r' x lo hi H Q->r x lo hi H Q):SlR X r':=λpins s σ H x v vl vu lo hi sl Q I rx hs pl pu q=>h pins s σ H x v vl vu lo hi sl Q I rx hs pl pu (k x lo hi H Q q)
theorem cX{prog:zI}{w:zR}{A:jb}{E:VSP}{s:zm}{t sl:Addr}{items:Array zd}{vl vu:zd}{lo hi:Option Int}{Q:VSP}(ht:Zi s.heap t items)(hs:s.heap.IsSliceOf sl vl vu .none)(pl:IsPart vl lo)(pu:IsPart vu hi)
 (hw:HT.sIx items.size 0 lo=0/\HT.sIx items.size items.size hi=items.size) (h:Q (.ref t) s):zp (zy prog w) A (Yz (.ref t) (.ref sl)) Q E s:=by
 obtain⟨os,hos,hcs,hds⟩:=id hs;have hTs:s.TypeIs (.ref sl) "slice":=⟨os,hos,hcs⟩;unfold Yz
 try with_reducible refine ju ?_
 first|refine za (zl ?_)|skip
 refine za (wpAny_sequenceKey ht.typeIs (by decide) ?_);refine za (jL ht.typeIs jj
  (yp jj ht.typeIs entry_tuple_getitem ?_ (args_tuple_getitem _ _)))
 show zp _ _ (Zy (.ref t) >>= _) _ _ s;refine za (tupleItemsOf_ ht ?_);refine za (Zk hTs ?_);rw[if_pos (by decide)];refine za (HT.sliceApplied_gen hs pl pu ?_);have hyes:(((HT.sIx items.size 0 lo:Nat):Int)==0&&(1:Int)==1&&(HT.sIx items.size items.size hi-HT.sIx items.size 0 lo)==items.size)=true:=by rw[hw.1,hw.2];simp
 show zp _ _ (if (((HT.sIx items.size 0 lo:Nat):Int)==0&&(1:Int)==1&&(HT.sIx items.size items.size hi-HT.sIx items.size 0 lo)==items.size)=true then _ else _) _ _ s;rw[if_pos hyes];unfold Builtin.Tuple.tupleIsExact;refine za (za (Zk ht.typeIs (zl ?_)));rw[if_pos (by decide)];exact za (xL (zl ⟨_,rfl,zl h⟩))
def dY(K:ze):V->Option Int->Option Int->Hp->VK->Prop:=λx lo hi H Q=>∃a xs,x= .ref a/\SqT K H a xs/\(HT.sIx xs.length 0 lo=0/\HT.sIx xs.length xs.length hi=xs.length)/\Q (.ref a) H
theorem cV:SlR X (dY X.K):=by
 intro pins s σ H x v vl vu lo hi sl Q I rx hs pl pu h;obtain⟨a,xs,rfl,hx,hw,q⟩:=h
 cases rx
 obtain⟨Fj,r,ht,hz⟩:=I.tuple hx;have Fp:Fj.toArray.size=xs.length:=by rw[zg];exact r.length.symm
 exact⟨"tuple",_,jj.lookup,ht.typeIs,cX ht hs pl pu (by rw[Fp];exact hw) ⟨.ref a,H,I,rfl,q⟩⟩
theorem wG{c:Wc}{μ:List Addr}{H:Hp}{l:List D}{vs:List V}(r:g8 c μ H l vs)(lo hi:Option Int):g8 c μ H (cutD l lo hi) (E4 vs lo hi):=by unfold cutD E4;rw[r.length];exact(r.drop _).take _
theorem fV:SlD X Z slD:=SlR.mono (sl_tup.or (cV.or SQ)) λx lo hi H Q ⟨dx,μ,G,rx,hr,p⟩=>by
 rcases dx with _|_|_|_|l|r|_|_<;>try (exact p.elim;done)
 ·
   unfold d7 at rx;obtain⟨a,vs,rfl,q,rl⟩:=rx;by_cases hw:HT.sIx vs.length 0 lo=0/\HT.sIx vs.length vs.length hi=vs.length
   · refine .inr (.inl ⟨a,vs,rfl,q,hw,WF hr q ?_ p⟩);have e:E4 vs lo hi=vs:=by unfold E4;rw[hw.1,hw.2];simp
     have:=wG rl lo hi;rw[e]at this;exact this
   ·exact .inl ⟨a,vs,rfl,q,hw,λp' hp=>PD hr (wG rl lo hi) p p' hp⟩
 ·
   obtain⟨l,a,vs,rfl,rl,p2,hq⟩:=dE hr rx p;have hs:SqL (wc X).K H a vs:=by
    rcases hq with⟨z,_⟩|⟨_,_,_,⟨_,q⟩|⟨_,q⟩⟩
    ·cases z
    ·exact SqL.of q
    ·exact q.sq
   exact .inr (.inr ⟨a,vs,rfl,hs,λp' hp=>Q9 hr (wG rl lo hi) p2 p' hp⟩)
variable{lo hi:Option Expr}{fl fh:Fo}{p2:Pos}
end
def w4(r:Nat)(o:DO):M Unit:=λG=>some (.ok (),G.set r o)
def FB(l:List (Key×D))(k:Key)(d:D):List (Key×D):=if l.any (λkv=>decide (kv.1=k))then l.map (λkv=>if kv.1=k then (kv.1,d)else kv)else l++[(k,d)]
def cB:D->D->D->M Unit:=λo i d=>match o with
 | .ref r=>do
   match <-J5 r with
   | .lst l=>match i with
     | .int k=>match ixN l.length k with
       |some j=>w4 r (.lst (l.set j d))
       |none=>M.stuck
     |_=>M.stuck
   | .dct l=>match u8 i with
     |some k=>if l.length<zi then w4 r (.dct (FB l k d))else M.stuck
     |none=>M.stuck
   | .rol _=>M.stuck
   | .rod _=>M.stuck
 |_=>M.stuck
def uA(fo fi:Fe):Fg:=λd σ=>do
 let o <-fo σ
 let i <-fi σ
 let _ <-cB o i d
 pure σ
section
variable{X:Cx}{Z:XC}{μ:List Addr}{H:Hp}{G:DH}
theorem OI(rv:d7 c μ H d v):∀ {l} {Fk},Q6 c μ H l Fk->Q6 c μ H (FB l k d) (S1 Fk k v):=by
 have any_eq:∀ {l:List (Key×D)} {Fk:List (Key×V)},Q6 c μ H l Fk->(l.any λkv=>decide (kv.1=k))= (Fk.any λkv=>decide (kv.1=k)):=by
  intro l
  induction l with
  |nil=>intro Fk r;cases r;rfl
  |cons p t ih=>
    intro Fk r;obtain⟨v',kt,rfl,_,rt⟩:=r;rw[jO,jO,ih rt]
 have map_eq:∀ {l:List (Key×D)} {Fk:List (Key×V)},Q6 c μ H l Fk->Q6 c μ H (l.map λkv=>if kv.1=k then (kv.1,d)else kv) (Fk.map λkv=>if kv.1=k then (kv.1,v)else kv):=by
  intro l
  induction l with
  |nil=>intro Fk r;cases r;rfl
  |cons p t ih=>
    intro Fk r;obtain⟨k',d'⟩:=p;obtain⟨v',kt,rfl,q,rt⟩:=r;rw[zN,zN];by_cases e:k'=k
    ·simp only[e,if_true];exact⟨v,_,rfl,rv,ih rt⟩
    ·simp only[e,if_false];exact⟨v',_,rfl,q,ih rt⟩
 have app_eq:∀ {l:List (Key×D)} {Fk:List (Key×V)},Q6 c μ H l Fk->Q6 c μ H (l++[(k,d)]) (Fk++[(k,v)]):=by
  intro l
  induction l with
  |nil=>intro Fk r;cases r;exact⟨v, [],rfl,rv,rfl⟩
  |cons p t ih=>
    intro Fk r;obtain⟨v',kt,rfl,q,rt⟩:=r;exact⟨v',_,rfl,q,ih rt⟩
 intro l Fk r;unfold FB S1;rw[any_eq r];split
 ·exact map_eq r
 ·exact app_eq r
theorem Q6.length:∀ {l} {Fk},Q6 c μ H l Fk->l.length=Fk.length
 |[],_,r=>by cases r;rfl
 |_::_,_,r=>by obtain⟨_,_,rfl,_,t⟩:=r;simp[Q6.length t]
theorem LH{Q:List Addr->DH->Hp->Prop}(h:j8 c μ G H)(g:G[r]? =some o)(n:¬y3 (some o))(m:μ[r]? =some a)(n':¬y3 (some o'))(ho:∀x:Ext μ H μ (upd H a u),C4 c μ (upd H a u) a o')
 (p:c7 c Z μ H (w4 r o' G) λ_ X9 G' H'=>Q X9 G' H'):Q μ (G.set r o') (upd H a u):=by
 obtain⟨u',e,n1,n2⟩:=(h.obj r o a g m).some_of n;have x:Ext μ H μ (upd H a u):=Ext.mut (yb m) e n1 n2 u;exact p μ _ x (h.set g n m x n' (ho x))
def qG(c:Wc)(Z:XC)(f:D->D->D->M Unit):TSet:=λo i v H Q=>∃d1 d2 d3 μ G,d7 c μ H d1 o/\d7 c μ H d2 i/\d7 c μ H d3 v/\j8 c μ G H/\c7 c Z μ H (f d1 d2 d3 G) λ_ _ _ H'=>Q H'
theorem qG.elim{P:Prop}{o:V}{i:V}{v:V}{H:Hp}(h:qG c Z f o i v H Q)(k:∀d1 d2 d3 μ G,d7 c μ H d1 o->d7 c μ H d2 i->d7 c μ H d3 v->j8 c μ G H->c7 c Z μ H (f d1 d2 d3 G) (λ_ _ _ H'=>Q H')->P):P:=by obtain⟨e0,e1,e2,e3,e4,e5,e6,e7,e8,e9⟩:=h;exact k e0 e1 e2 e3 e4 e5 e6 e7 e8 e9
theorem AZ(hu:X.A.units+64<yH):kH X (qG (wc X) Z cB):=by
 intro pins s σ H o i v ov iv u Q I ro ri rv Fm;obtain⟨d1,d2,d3,μ,G,r1,r2,r3,hr,p⟩:=Fm;rcases d1 with _|_|_|_|_|r|_|_<;>try (exact p.elim;done)
 ·
   unfold d7 at r1;obtain⟨a,m,rfl⟩:=r1;obtain⟨ob,g,p1⟩:=w6 p;have rob:=hr.obj r ob a g m;rcases ob with l|l|l|l
   ·
     obtain⟨vs,ea,rl⟩:=rob;rcases d2 with _|_|k|_|_|_|_|_<;>try (exact p1.elim;done)
     ·
       dsimp only at p1;rcases hk:ixN l.length k with _|j
       ·simp only[hk]at p1;exact p1.elim
       ·
         simp only[hk]at p1;exact aY pins s σ H (.ref a) i v ov iv u Q I ro ri rv ⟨a,vs,k,j,rfl,Q7 r2,ea,by rw[<-rl.length];exact hk,LH (o':=.lst (l.set j d3)) hr g (λz=>z) m (λz=>z) (λx=>⟨_,J3,(rl.mono x).set (r3.mono x) j⟩) p1⟩
   ·exact p1.elim
   ·
     obtain⟨Fk,ea,rk⟩:=rob;dsimp only at p1;rcases hk:u8 d2 with _|k
     ·simp only[hk]at p1;exact p1.elim
     ·
       simp only[hk]at p1;split at p1
       · rename_i hz;have ei:=QF hk r2;subst ei
         cases ro
         refine uO (by lia) I (gD.k ea (by rw[<-rk.length];exact hz)) ri rv λs' I'=>⟨_,I',?_⟩;exact LH (o':=.dct (FB l k d3)) hr g (λz=>z) m (λz=>z) (λx=>⟨_,J3,OI (r3.mono x) (rk.mono x)⟩) p1
       ·exact p1.elim
   ·exact p1.elim
variable{a b e o i:Expr}{fa fb fo fi:Fe}
theorem qv(hu:X.A.units+64<yH)(ho:DE X Z o fo)(hi:DE X Z i fi)
 (ha:∀v,Zn (.Subscript o i pos) X.env v= (do
   let ov <-ZN [v] (eval o X.env)
   let iv <-ZN [v,ov] (eval i X.env)
   Xl pos
   ZN [v,ov,iv] (setItem ov iv v)
   release [v,ov,iv] [])):DG X Z (.Subscript o i pos) (uA fo fi):=
 DG.of (BP ho.h hi.h (AZ hu) ha) λv σ H Q Fm=>Fm.elim λd X2 μ G r s h p=>⟨X2,μ,G,s,h,(c7.bind p).mono λd1 X0 G1 H1 x1 h1 p1 v1 r1=>
  ⟨X2,X0,G1,s.mono x1,h1,(c7.bind p1).mono λd2 WY G2 H2 x2 h2 p2 v2 r2=>⟨d1,d2,d,WY,G2,r1.mono x2,r2,r.mono (x1.trans x2),h2,(c7.bind p2).mono λ_ WN G3 H3 x3 h3 p3=>c7.ok p3 h3 σ (s.mono (x1.trans (x2.trans x3)))⟩⟩⟩
def K1:D->M Unit:=λx=>match x with
 | .ref r=>do
   match <-J5 r with
   | .lst _=>pure ()
   |_=>M.stuck
 |_=>M.stuck
def mtE(t:D->M Unit)(m:D->List D->M D)(fo:Fe)(fs:DSt->M (List D)):Fe:=λσ=>do
 let x <-fo σ
 let _ <-t x
 let xs <-fs σ
 m x xs
def lstM(r:Nat):M (List D):=do
 match <-J5 r with
 | .lst l=>pure l
 |_=>M.stuck
def K7:D->List D->M D:=λx xs=>match x,xs with
 | .ref r, [y]=>do
   let l <-lstM r
   if l.length<zi then do
    let _ <-w4 r (.lst (l++[y]))
    pure .non
   else M.stuck
 |_,_=>M.stuck
theorem kK{a:Addr}{f:List D->M α}{K:α->List Addr->DH->Hp->Prop}(h:j8 c μ G H)(m:μ[r]? =some a)(p:c7 c Z μ H ((lstM r >>= f) G) K):
 ∃l vs,G[r]? =some (.lst l)/\H a=some (.lst vs)/\g8 c μ H l vs/\c7 c Z μ H (f l G) K:=by
 have p':c7 c Z μ H ((J5 r >>= λo=>(match o with| .lst l=>pure l|_=>M.stuck:M (List D)) >>= f) G) K:=by rw[<-M.bind_assoc];exact p
 obtain⟨o,g,p2⟩:=w6 p';have ro:=h.obj r o a g m;rcases o with l|_|_|_<;>try (exact p2.elim;done)
 ·obtain⟨vs,e,rl⟩:=ro;exact⟨l,vs,g,e,rl,p2⟩
def MtD(X:Cx)(Z:XC)(id:String)(m:D->List D->M D):Prop:=
 MtR X id λx xs H Q=>∃d ds μ G,d7 (wc X) μ H d x/\g8 (wc X) μ H ds xs/\j8 (wc X) μ G H/\c7 (wc X) Z μ H (m d ds G) λd X9 _ H'=>∀v,d7 (wc X) X9 H' d v->Q v H'
theorem BM{r:Nat}{a:Addr}{f:M α}{K:α->List Addr->DH->Hp->Prop}(h:j8 c μ G H)(g:G[r]? =some (.lst l))(m:μ[r]? =some a)(rl:∀x:Ext μ H μ (upd H a (.lst Gm)),g8 c μ (upd H a (.lst Gm)) l' Gm)
 (p:c7 c Z μ H ((w4 r (.lst l') >>= λ_=>f) G) K):Ext μ H μ (upd H a (.lst Gm))/\j8 c μ (G.set r (.lst l')) (upd H a (.lst Gm))/\c7 c Z μ (upd H a (.lst Gm)) (f (G.set r (.lst l'))) K:=by
 obtain⟨u',e,n1,n2⟩:=(h.obj r _ a g m).some_of (λz=>z);have x:Ext μ H μ (upd H a (.lst Gm)):=Ext.mut (yb m) e n1 n2 _;have h':j8 c μ (G.set r (.lst l')) (upd H a (.lst Gm)):=h.set g (λz=>z) m x (λz=>z) ⟨Gm,J3,rl x⟩;exact⟨x,h',c7.from p x⟩
theorem qO:MtD X Z "list.append" K7:=by
 intro pins s σ H x xs v us Q I rx rs Fm;obtain⟨d,ds,μ,G,rd,rds,hr,p⟩:=Fm;rcases d with _|_|_|_|_|r|_|_<;>try (exact p.elim;done)
 ·
   unfold d7 at rd;obtain⟨a,m,rfl⟩:=rd;rcases ds with _|⟨y,t⟩
   ·exact p.elim
   ·
     rcases t with _|⟨_,_⟩
     ·
       obtain⟨yv,tv,rfl,ry,e⟩:=rds
       cases e
       obtain⟨l,vs,g,ea,rl,p1⟩:=kK hr m p;split at p1
       ·rename_i hz;obtain⟨x1,h1,p2⟩:=BM hr g m (λx=>(rl.mono x).append (g8.cons (ry.mono x) g8.nil)) p1;exact mL pins s σ H (.ref a) [yv] v us Q I rx rs ⟨a,vs,yv,rfl,rfl,ea,by rw[<-rl.length];exact hz,c7.ok p2 h1 _ ofN⟩
       ·exact p1.elim
     ·exact p.elim
variable{es:List Expr}{fs:DSt->M (List D)}{name:Str}{Gq Fz:Pos}{id:String}{mm:D->List D->M D}
theorem aV{f:Unit->M α}{K:α->List Addr->DH->Hp->Prop}(h:j8 c μ G H)(r:d7 c μ H d v)(p:c7 c Z μ H ((K1 d >>= f) G) K):tyV c.K "list" v H/\c7 c Z μ H (f () G) K:=by
 rcases d with _|_|_|_|_|i|_|_<;>try (exact p.elim;done)
 ·
   unfold d7 at r;obtain⟨a,m,rfl⟩:=r;have p':c7 c Z μ H ((J5 i >>= λo=>(match o with| .lst _=>pure ()|_=>M.stuck:M Unit) >>= f) G) K:=by rw[<-M.bind_assoc];exact p
   obtain⟨o,g,p2⟩:=w6 p';have ro:=h.obj i o a g m;rcases o with l|_|_|_<;>try (exact p2.elim;done)
   ·obtain⟨vs,e,rl⟩:=ro;exact⟨.inl ⟨rfl,vs,SqL.of e⟩,p2⟩
theorem dL(slot:Slot "list" name id)(hty:typeOf (.builtin id)=pure (.type "method_descriptor"))(hm:MtD X Z id mm)(ho:DE X Z o fo)(ha:DA X Z (e::es) fs)
 (hbase:xW o name X.env (eval o X.env)=eval o X.env)
 (hfew:((yA Fz (zF (e::es) X.env)).all (λx=> !x.1)&&(Xt Fz (ZI [] X.env)).all (λx=>x.1.isSome)
   && decide ((e::es).length+([]:List Keyword).length+(if ([]:List Keyword).isEmpty then 0 else 1)<30))=true)
 (hline:(Gq.endLine==Fz.line)=true) (hs:zF (e::es) X.env= (false,eval e X.env)::zF es X.env) (Gw:(yA Fz (zF es X.env)).any (·.1)=false):
 DE X Z (.Call (.Attribute o name Gq) (e::es) [] Fz) (mtE K1 mm fo fs):=
 DE.of (PK PySem.F.plainAttrs_list slot hty hm ho.h ha.h hbase hfew hline hs Gw) λσ H Q Fm=>Fm.elim λX2 μ G s h p=>⟨X2,μ,G,s,h,(c7.bind p).mono λd X0 G1 H1 x1 h1 p1 v rv=>by obtain⟨ty,p2⟩:=aV h1 rv p1;exact⟨ty,X2,X0,G1,s.mono x1,h1,(c7.bind p2).mono λds WY G2 H2 x2 h2 p3 vs rvs=>⟨d,ds,WY,G2,rv.mono x2,rvs,h2,p3⟩⟩⟩
end
def SI(k:Bool)(h:Heap)(it a:Addr)(i:Nat):Prop:=if k then h.IsTupleIter it a i else h.IsListIter it a i
def SC(k:Bool)(h:Heap)(a:Addr)(items:Array zd):Prop:=if k then h.IsTuple a items else h.IsList a items
section
variable{prog:zI}{w:zR}{A:jb}{E:VSP}{s:zm}
theorem SI.keep(x:SI k h it a i)(q:∀o,h.get? it=some o->h'.get? it=some o):SI k h' it a i:=by
 rcases k with _|_
 ·exact Heap.IsListIter.at (show h.IsListIter it a i from x) q
 ·exact Heap.IsTupleIter.at (show h.IsTupleIter it a i from x) q
theorem SC.keep(x:SC k h a Fj)(q:∀o,h.get? a=some o->h'.get? a=some o):SC k h' a Fj:=by
 rcases k with _|_
 ·obtain⟨o,e,r⟩:=(show h.IsList a Fj from x);exact⟨o,q o e,r⟩
 ·obtain⟨o,e,r⟩:=(show h.IsTuple a Fj from x);exact⟨o,q o e,r⟩
theorem SI.there(x:SI k h it a i):∃o,h.get? it=some o/\∀v,o.data≠ .cell v:=by
 rcases k with _|_
 ·obtain⟨o,e,c,d⟩:=(show h.IsListIter it a i from x);exact⟨o,e,λv z=>by rw[d]at z;cases z⟩
 ·obtain⟨o,e,c,d⟩:=(show h.IsTupleIter it a i from x);exact⟨o,e,λv z=>by rw[d]at z;cases z⟩
theorem FQ(hit:s.heap.IsTupleIter it t i)(ht:s.heap.IsTuple t items)(hx:items[i]? =some x)
 (hQ:∀h',h'.IsTupleIter it t (i+1)->yS it s.heap h'->Q x {s with heap:=h'}):zp (zy prog w) A (zX (.ref it)) Q E s:=by
 obtain⟨ob,hob,hcls,Gv⟩:=id hit;obtain⟨ot,hot,_,nt,hdt⟩:=ht;unfold zX;refine za (jL hit.typeIs yK (yp yK hit.typeIs Xe ?_ (YX _)));show zp _ _ (Jl (.ref it) 0 >>= _) _ _ s;refine za (jx hob Gv rfl ?_);show zp _ _ (if (Value.ref t==Value.none)=true then _ else _) _ _ s;rw[if_neg (show ¬((Value.ref t==Value.none)=true)from zv)];show zp _ _ (Jl (.ref it) 1 >>= _) _ _ s;refine za (jx hob Gv rfl ?_);show zp _ _ (seqItems? (.ref t) >>= _) _ _ s;refine za (ya hot hdt ?_);simp only[xb,hx];refine za (wpAny_setField hob Gv (by simp) (zl ⟨x,rfl,zl (hQ _ ?_ (YC ..))⟩));exact⟨_,Xv _ hob (Obj.isFreed_of_fields (JL Gv _)),(Obj.cls_mapFields ..).trans hcls,by rw[JL Gv];simp[Yq]⟩
theorem TX(hh:A.handled=none)(hit:s.heap.IsTupleIter it t i)(ht:s.heap.IsTuple t items)(hx:items[i]? =none)
 (hE:∀h' e,Heap.ExtBut it s.heap h'->(∃o,h'.get? e=some o/\o.cls= .type "StopIteration")->E (.ref e) {s with heap:=h'}):zp (zy prog w) A (zX (.ref it)) Q E s:=by
 obtain⟨ob,hob,hcls,Gv⟩:=id hit;obtain⟨ot,hot,_,nt,hdt⟩:=ht;unfold zX;refine za (jL hit.typeIs yK (yp yK hit.typeIs Xe ?_ (YX _)));show zp _ _ (Jl (.ref it) 0 >>= _) _ _ s;refine za (jx hob Gv rfl ?_);show zp _ _ (if (Value.ref t==Value.none)=true then _ else _) _ _ s;rw[if_neg (show ¬((Value.ref t==Value.none)=true)from zv)];show zp _ _ (Jl (.ref it) 1 >>= _) _ _ s;refine za (jx hob Gv rfl ?_);show zp _ _ (seqItems? (.ref t) >>= _) _ _ s;refine za (ya hot hdt ?_);simp only[xb,hx];refine za (xL (za (wpAny_setField hob Gv (by simp) ?_)));show zp _ _ (newExc (.type "StopIteration") [] >>= _) _ _ _;refine za ?_;simp only[newExc,newTuple];refine za (yf ?_ (by size_fits));refine za (wpAny_of_eq (by first|rfl|(simp only[firstArgMember];rfl)) ?_);refine yf ?_ (by size_fits);delta raiseNew;dsimp only;refine za (wpAny_handled ?_)
 first|rw[show A.in1.handled=none from hh]|rw[hh]
 refine za (zl (wpAny_throw ?_));exact hE _ _ (((YC ..).extBut.push _).push _) ⟨_,zu _ rfl,rfl⟩
theorem UE(hit:SI k s.heap it a i)(hl:SC k s.heap a items)(hx:items[i]? =some x)
 (hQ:∀h',SI k h' it a (i+1)->yS it s.heap h'->Q x {s with heap:=h'}):zp (zy prog w) A (zX (.ref it)) Q E s:=by
 rcases k with _|_
 ·exact wpAny_nextOf_list_item hit hl hx hQ
 ·exact FQ hit hl hx hQ
theorem mJ(hh:A.handled=none)(hit:SI k s.heap it a i)(hl:SC k s.heap a items)(hx:items[i]? =none)
 (hE:∀h' e,Heap.ExtBut it s.heap h'->(∃o,h'.get? e=some o/\o.cls= .type "StopIteration")->E (.ref e) {s with heap:=h'}):zp (zy prog w) A (zX (.ref it)) Q E s:=by
 rcases k with _|_
 ·exact wpAny_nextOf_list_end hh hit hl hx hE
 ·exact TX hh hit hl hx hE
structure ZA(z TI TO i1 i2:Addr):Prop where
 TIz:TI≠z
 TOz:TO≠z
 i1z:i1≠z
 i2z:i2≠z
 TITO:TI≠TO
 TIi1:TI≠i1
 TIi2:TI≠i2
 TOi1:TO≠i1
 TOi2:TO≠i2
 i12:i1≠i2
theorem SN(n:Nat):ZA (n+4:Nat) (n+2:Nat) (n+3:Nat) n (n+1:Nat):=⟨(by show @Ne Nat _ _;lia),(by show @Ne Nat _ _;lia),(by show @Ne Nat _ _;lia),(by show @Ne Nat _ _;lia),(by show @Ne Nat _ _;lia),(by show @Ne Nat _ _;lia),(by show @Ne Nat _ _;lia),(by show @Ne Nat _ _;lia),(by show @Ne Nat _ _;lia),(by show @Ne Nat _ _;lia)⟩
theorem QH(h:l<n):¬ @XR Addr (List Addr) Je [(n+4:Nat),(n+3:Nat),n,(n+1:Nat)] l:=by simp only[zz,zT,or_false,not_or];exact⟨(by show ¬ @Eq Nat _ _;lia),(by show ¬ @Eq Nat _ _;lia),(by show ¬ @Eq Nat _ _;lia),(by show ¬ @Eq Nat _ _;lia)⟩
theorem NY(hb: @XR Addr (List Addr) Je [(n+4:Nat),(n+2:Nat),(n+3:Nat),n,(n+1:Nat)] b): @LE.le Nat instLENat n b:=by simp only[zz,zT,or_false]at hb;rcases hb with rfl|rfl|rfl|rfl|rfl<;>(show @LE.le Nat instLENat _ _;lia)
variable{z TI TO i1 i2 l1 l2:Addr}{xs ys:Array zd}{k1 k2:Bool}{i:Nat}
theorem tU{Q:VSP}(Ap:ZA z TI TO i1 i2)(n1:l1∉ [z,TO,i1,i2])(n2:l2∉ [z,TO,i1,i2])
 (hz:xD s.heap z TI TO .none) (hTI:jX s.heap TI (.ref i1) (.ref i2)) (hTO:jX s.heap TO a b)
 (h1:SI k1 s.heap i1 l1 i) (h2:SI k2 s.heap i2 l2 i) (Gx:SC k1 s.heap l1 xs) (Hb:SC k2 s.heap l2 ys) (hx:xs[i]? =some x) (hy:ys[i]? =some y)
 (hQ:∀h',xD h' z TI TO (Yq s.heap.objs.size)->jX h' TO x y->SI k1 h' i1 l1 (i+1)->SI k2 h' i2 l2 (i+1)->jX h' s.heap.objs.size x y->h'.objs.size=s.heap.objs.size+1->
   (∀c o,c≠z->c≠TO->c≠i1->c≠i2->s.heap.get? c=some o->h'.get? c=some o)->Q (.ref s.heap.objs.size) {s with heap:=h'}):
 zp (zy prog w) A (yT.«zip.__next__» ⟨[.ref z], []⟩) (λfin s'=>∃v,fin= .done (.ret v)/\Q v s') E s:=by
 simp only[zz,zT,or_false,not_or]at n1 n2;show zp _ _ (Jl (.ref z) 2 >>= _) _ _ _;refine za (jx hz rfl rfl ?_);show zp _ _ (Jl (.ref z) 3 >>= _) _ _ _;refine za (jx hz rfl rfl ?_);refine za (ya hTI rfl ?_);show zp _ _ (jH (.ref z) >>= _) _ _ _;refine za ?_;unfold jH;refine za (jx hz rfl rfl (zl ?_));simp only[if_true];refine za (xL ?_);refine za (jx hz rfl rfl ?_);refine za (yz hz (by simp) λg₁ hz₁ WU=>?_);replace hz₁:xD g₁ z TI TO .ellipsis:=hz₁;refine za ?_;simp only[JU,List.zipIdx_nil,Zc,YJ];refine za (za (Yf ?_));show zp _ _ (zX (.ref i1) >>= _) _ _ _;refine za (UE (h1.keep λo e=>WU.extBut _ _ Ap.i1z e) (Gx.keep λo e=>WU.extBut _ _ n1.1 e) hx λg₂ h1₂ WR=>zl ?_);have hTO₂:jX g₂ TO a b:=WR.extBut _ _ Ap.TOi1 (WU.extBut _ _ Ap.TOz hTO);refine za (ya hTO₂ rfl ?_);refine za (ZG hTO₂ λg₃ hTO₃ hs₃=>?_);replace hTO₃:jX g₃ TO x b:=hTO₃;refine za (Xa (zl ?_));refine za (za (Yf ?_));show zp _ _ (zX (.ref i2) >>= _) _ _ _;have up3:∀c o,c≠z->c≠TO->c≠i1->s.heap.get? c=some o->g₃.get? c=some o:=λc o c1 c2 c3 e=>hs₃.extBut _ _ c2 (WR.extBut _ _ c3 (WU.extBut _ _ c1 e));refine za (UE (h2.keep λo e=>up3 _ _ Ap.i2z Ap.TOi2.symm Ap.i12.symm e) (Hb.keep λo e=>up3 _ _ n2.1 n2.2.1 n2.2.2.1 e) hy λg₄ h2₄ hs₄=>zl ?_);have hTO₄:jX g₄ TO x b:=hs₄.extBut _ _ Ap.TOi2 hTO₃;refine za (ya hTO₄ rfl ?_);refine za (ZG hTO₄ λWS hTO₅ hs₅=>?_);replace hTO₅:jX WS TO x y:=hTO₅;refine za (Xa (zl (zl ?_)));refine za (ya hTO₅ rfl ?_);refine za (ZH ?_);have hsz:WS.objs.size=s.heap.objs.size:=by rw[hs₅.1,hs₄.1,hs₃.1,WR.1,WU.1]
 have hz₅:xD WS z TI TO .ellipsis:=hs₅.extBut _ _ Ap.TOz.symm (hs₄.extBut _ _ Ap.i2z.symm (hs₃.extBut _ _ Ap.TOz.symm (WR.extBut _ _ Ap.i1z.symm hz₁)));have hk₅:∀c o,c≠z->c≠TO->c≠i1->c≠i2->s.heap.get? c=some o->WS.get? c=some o:=λc o c1 c2 c3 c4 e=>hs₅.extBut _ _ c2 (hs₄.extBut _ _ c4 (up3 c o c1 c2 c3 e));have h1₅:SI k1 WS i1 l1 (i+1):=h1₂.keep λo e=>hs₅.extBut _ _ Ap.TOi1.symm (hs₄.extBut _ _ Ap.i12 (hs₃.extBut _ _ Ap.TOi1.symm e));have h2₅:SI k2 WS i2 l2 (i+1):=h2₄.keep λo e=>hs₅.extBut _ _ Ap.TOi2.symm e;have hzlt:z<WS.objs.size:=zo hz₅;show zp _ _ (xw (.ref z) (.ref WS.objs.size) >>= _) _ _ _;refine za ?_;unfold xw;have hz₆:xD (WS.push {cls:=.type "tuple",data:=.seq #[x,y]}) z TI TO .ellipsis:=zc _ hz₅;refine za (yz hz₆ (by simp) λg₇ hz₇ hs₇=>?_);replace hz₇:xD g₇ z TI TO (Yq WS.objs.size):=hz₇;refine yz hz₇ (by simp) λg₈ hz₈ hs₈=>?_;replace hz₈:xD g₈ z TI TO (Yq WS.objs.size):=hz₈;have up:∀c o,c≠z->WS.get? c=some o->g₈.get? c=some o:=λc o c1 e=>hs₈.extBut _ _ c1 (hs₇.extBut _ _ c1 (zc _ e));have hT₈:jX g₈ WS.objs.size x y:=hs₈.extBut _ _ (xt hzlt) (hs₇.extBut _ _ (xt hzlt) (zu _ rfl));have hz8:g₈.objs.size=WS.objs.size+1:=by rw[hs₈.1,hs₇.1,yi]
 rw[hsz]at hz₈ hT₈ hz8;refine zl ⟨_,rfl,?_⟩;show Q (.ref WS.objs.size) _;rw[hsz];exact hQ g₈ hz₈ (up _ _ Ap.TOz hTO₅) (h1₅.keep λo e=>up _ o Ap.i1z e) (h2₅.keep λo e=>up _ o Ap.i2z e) hT₈ hz8 λc o c1 c2 c3 c4 e=>up c o c1 (hk₅ c o c1 c2 c3 c4 e)
theorem PN(hh:A.handled=none)(Ap:ZA z TI TO i1 i2)(n1:l1∉ [z,TO,i1,i2])(n2:l2∉ [z,TO,i1,i2])
 (hz:xD s.heap z TI TO .none) (hTI:jX s.heap TI (.ref i1) (.ref i2)) (hTO:jX s.heap TO a b)
 (h1:SI k1 s.heap i1 l1 i) (h2:SI k2 s.heap i2 l2 i) (Gx:SC k1 s.heap l1 xs) (Hb:SC k2 s.heap l2 ys) (hend:xs[i]? =none\/ys[i]? =none)
 (hE:∀h' e,(∀c o,c≠z->c≠TO->c≠i1->c≠i2->s.heap.get? c=some o->h'.get? c=some o)->(∃o,h'.get? e=some o/\o.cls= .type "StopIteration")->E (.ref e) {s with heap:=h'}):
 zp (zy prog w) A (yT.«zip.__next__» ⟨[.ref z], []⟩) Q E s:=by
 simp only[zz,zT,or_false,not_or]at n1 n2;show zp _ _ (Jl (.ref z) 2 >>= _) _ _ _;refine za (jx hz rfl rfl ?_);show zp _ _ (Jl (.ref z) 3 >>= _) _ _ _;refine za (jx hz rfl rfl ?_);refine za (ya hTI rfl ?_);show zp _ _ (jH (.ref z) >>= _) _ _ _;refine za ?_;unfold jH;refine za (jx hz rfl rfl (zl ?_));simp only[if_true];refine za (xL ?_);refine za (jx hz rfl rfl ?_);refine za (yz hz (by simp) λg₁ hz₁ WU=>?_);replace hz₁:xD g₁ z TI TO .ellipsis:=hz₁;refine za ?_;simp only[JU,List.zipIdx_nil,Zc,YJ];refine za (za (Yf ?_));show zp _ _ (zX (.ref i1) >>= _) _ _ _;rcases hx:xs[i]? with _|x
 ·
   refine za (mJ hh (h1.keep λo e=>WU.extBut _ _ Ap.i1z e) (Gx.keep λo e=>WU.extBut _ _ n1.1 e) hx λg₂ e WR he=>?_);obtain⟨oe,hoe,hce⟩:=he;have hz₂:xD g₂ z TI TO .ellipsis:=WR _ _ Ap.i1z.symm hz₁;have hez:e≠z:=λq=>by subst q;rw[hz₂]at hoe;cases hoe;simp at hce
   exact yz hz₂ (by simp) λg₃ _ hs₃=>hE g₃ e (λc o c1 _ c3 _ q=>hs₃.extBut _ _ c1 (WR _ _ c3 (WU.extBut _ _ c1 q))) ⟨oe,hs₃.extBut _ _ hez hoe,hce⟩
 ·
   have hy:ys[i]? =none:=by
    rcases hend with h|h
    ·rw[hx]at h;exact PC h
    ·exact h
   refine za (UE (h1.keep λo e=>WU.extBut _ _ Ap.i1z e) (Gx.keep λo e=>WU.extBut _ _ n1.1 e) hx λg₂ h1₂ WR=>zl ?_);have hTO₂:jX g₂ TO a b:=WR.extBut _ _ Ap.TOi1 (WU.extBut _ _ Ap.TOz hTO);refine za (ya hTO₂ rfl ?_);refine za (ZG hTO₂ λg₃ hTO₃ hs₃=>?_);refine za (Xa (zl ?_));refine za (za (Yf ?_));show zp _ _ (zX (.ref i2) >>= _) _ _ _;have up3:∀c o,c≠z->c≠TO->c≠i1->s.heap.get? c=some o->g₃.get? c=some o:=λc o c1 c2 c3 e=>hs₃.extBut _ _ c2 (WR.extBut _ _ c3 (WU.extBut _ _ c1 e));refine za (mJ hh (h2.keep λo e=>up3 _ _ Ap.i2z Ap.TOi2.symm Ap.i12.symm e) (Hb.keep λo e=>up3 _ _ n2.1 n2.2.1 n2.2.2.1 e) hy λg₄ e hs₄ he=>?_);obtain⟨oe,hoe,hce⟩:=he;have hz₄:xD g₄ z TI TO .ellipsis:=hs₄ _ _ Ap.i2z.symm (hs₃.extBut _ _ Ap.TOz.symm (WR.extBut _ _ Ap.i1z.symm hz₁));have hez:e≠z:=λq=>by subst q;rw[hz₄]at hoe;cases hoe;simp at hce
   exact yz hz₄ (by simp) λWS _ hs₅=>hE WS e (λc o c1 c2 c3 c4 q=>hs₅.extBut _ _ c1 (hs₄ _ _ c4 (up3 c o c1 c2 c3 q))) ⟨oe,hs₅.extBut _ _ hez hoe,hce⟩
theorem nO(Ap:ZA z TI TO i1 i2)(n1:l1∉ [z,TO,i1,i2])(n2:l2∉ [z,TO,i1,i2])
 (hz:xD s.heap z TI TO .none) (hTI:jX s.heap TI (.ref i1) (.ref i2)) (hTO:jX s.heap TO a b)
 (h1:SI k1 s.heap i1 l1 i) (h2:SI k2 s.heap i2 l2 i) (Gx:SC k1 s.heap l1 xs) (Hb:SC k2 s.heap l2 ys) (hx:xs[i]? =some x) (hy:ys[i]? =some y)
 (hQ:∀h',xD h' z TI TO (Yq s.heap.objs.size)->jX h' TO x y->SI k1 h' i1 l1 (i+1)->SI k2 h' i2 l2 (i+1)->jX h' s.heap.objs.size x y->h'.objs.size=s.heap.objs.size+1->
   (∀c o,c≠z->c≠TO->c≠i1->c≠i2->s.heap.get? c=some o->h'.get? c=some o)->Q (some (.ref s.heap.objs.size)) {s with heap:=h'}):
 zp (zy prog w) A (Zm (.ref z)) Q E s:=by
 have hT:s.TypeIs (.ref z) "zip":=⟨_,hz,rfl⟩;unfold Zm;exact za (Yg (jL hT Zj (yp Zj hT F.entry_zip_next
  (tU Ap n1 n2 hz hTI hTO h1 h2 Gx Hb hx hy λh' a1 a2 a3 a4 a5 a6 a7=>zl (hQ h' a1 a2 a3 a4 a5 a6 a7)) (F.args_zip_next_1 _))))
theorem GU(hh:A.handled=none)(Ap:ZA z TI TO i1 i2)(n1:l1∉ [z,TO,i1,i2])(n2:l2∉ [z,TO,i1,i2])
 (hz:xD s.heap z TI TO .none) (hTI:jX s.heap TI (.ref i1) (.ref i2)) (hTO:jX s.heap TO a b)
 (h1:SI k1 s.heap i1 l1 i) (h2:SI k2 s.heap i2 l2 i) (Gx:SC k1 s.heap l1 xs) (Hb:SC k2 s.heap l2 ys) (hend:xs[i]? =none\/ys[i]? =none)
 (hQ:∀h',(∀c o,c≠z->c≠TO->c≠i1->c≠i2->s.heap.get? c=some o->h'.get? c=some o)->Q none {s with heap:=h'}):zp (zy prog w) A (Zm (.ref z)) Q E s:=by
 have hT:s.TypeIs (.ref z) "zip":=⟨_,hz,rfl⟩;unfold Zm;refine za (Yg (jL hT Zj (yp Zj hT F.entry_zip_next
  (PN hh Ap n1 n2 hz hTI hTO h1 h2 Gx Hb hend λh' e hk he=>?_) (F.args_zip_next_1 _))))
 obtain⟨o,ho,hc⟩:=he;exact za (wpAny_isInstance ⟨o,ho,hc⟩ isSubtype_stop (zl (hQ _ hk)))
end
def eA(k:Bool)(a:Addr):Obj:={cls:=.type (if k then "tuple_iterator" else "list_iterator"),data:=.fields #[.ref a,.int 0 0]}
abbrev zh1(k1:Bool)(h:Heap)(l1:Addr):Heap:=h.push (eA k1 l1)
abbrev zh2(k1 k2:Bool)(h:Heap)(l1 l2:Addr):Heap:=(zh1 k1 h l1).push (eA k2 l2)
abbrev zh3(k1 k2:Bool)(h:Heap)(l1 l2:Addr):Heap:=(zh2 k1 k2 h l1 l2).push {cls:=.type "tuple",data:=.seq #[.ref h.objs.size,.ref (zh1 k1 h l1).objs.size]}
abbrev zh4(k1 k2:Bool)(h:Heap)(l1 l2:Addr):Heap:=(zh3 k1 k2 h l1 l2).push {cls:=.type "tuple",data:=.seq #[.none,.none]}
abbrev zh5(k1 k2:Bool)(h:Heap)(l1 l2:Addr):Heap:=(zh4 k1 k2 h l1 l2).push {cls:=.type "zip",data:=.fields #[.none,.bool false,.bool false,.ref (zh2 k1 k2 h l1 l2).objs.size,.ref (zh3 k1 k2 h l1 l2).objs.size]}
theorem qI(hl:SC k s.heap a items)(h:Q (.ref s.heap.objs.size) {s with heap:=s.heap.push (eA k a)}):zp (zy prog w) A (pyIter (.ref a)) Q E s:=by
 rcases k with _|_
 ·exact xS hl h
 ·exact wpAny_pyIter_tuple hl h
theorem qj(k1 k2:Bool)(l1 l2:Addr)(xs ys:Array zd):
 Meets (yT.«zip.__new__» ⟨[.type "zip",.ref l1,.ref l2], []⟩) (λ_ R s=>SC k1 s.heap l1 xs/\SC k2 s.heap l2 ys/\R (.ok (.ret (.ref (zh4 k1 k2 s.heap l1 l2).objs.size))) {s with heap:=zh5 k1 k2 s.heap l1 l2}):=
 .of_wp λprog w A R s h=>by
  obtain⟨hp,g,d,tk,os⟩:=s;obtain⟨Gx,Hb,h⟩:=h;have hsub:=sub_zip;have hL1:SC k1 (Shared.heap ⟨hp,g,d,tk,os⟩) l1 xs:=Gx;have hL2:SC k2 (Shared.heap ⟨hp.push (eA k1 l1),g,d,tk,os⟩) l2 ys:=Hb.keep λo e=>zc _ e
  wp_walk using qI hL1,qI hL2
  exact⟨_,rfl,h⟩
section
theorem kX{ch:List Addr}(I:Inv X pins σ H s)(hf:∀b∈ch,W0 X pins H b)(k:∀b o,b∉ch->s.heap.get? b=some o->h'.get? b=some o)
 (hz:vs.length<=zi) (rv:j7 vs us) (ht:W7 h' s.heap.objs.size us.toArray):Inv X pins σ (upd H s.heap.objs.size (.tup vs)) {s with heap:=h',toks:=t'}:=by
 have hq:H s.heap.objs.size=none:=I.hok.fresh (zh _);have neq:∀b o,s.heap.get? b=some o->b≠s.heap.objs.size:=λb o e=>zE (zo e);have nch:∀b u,H b=some u->b∉ch:=λb u e z=>by rw[(hf b z).1]at e;cases e
 refine I.step (λb hb=>⟨(hf b hb).2.2.2.1,(hf b hb).2.1,(hf b hb).2.2.2.2.1,(hf b hb).2.2.2.2.2⟩) (λb o _ _ hc e _=>k b o hc e) (λb o _ _ hc e _=>⟨o.slots,k b o hc e⟩)
  (λb o _ e n=>by rw[m6 (neq b o e)];exact n) (λb o hc e=>⟨o,k b o hc e⟩) (λb xs e=>by rw[m6 (m5 e hq)];exact e) (λb o u e=>by rw[m6 (m5 e hq)];exact e)
  (λb ps e=>⟨#[],by rw[m6 (m5 e hq),e];simp⟩) (λm hm=>?_) (λb u e=>?_) I.bare
 ·obtain⟨o,es,ep,ho,r⟩:=hm;exact⟨o,es,ep,k _ o (λz=>(hf _ z).2.1 rfl) ho,r⟩
 · by_cases hb:b=s.heap.objs.size
   · subst hb;rw[J3]at e
     cases e
     exact⟨hz,us,rv,ht⟩
   · rw[m6 hb]at e;refine(I.hok b u e).stay (λc v hc q=>k c v ?_ q) (λc q=>by rw[m6 (m5 q hq)];exact q) λc xs q=>by rw[m6 (m5 q hq)];exact q
     rcases hc with z|z
     ·rw[z];exact nch b u e
     ·exact nch c _ z
theorem wF{ch:List Addr}(I:Inv X pins σ H s)(hf:∀b∈ch,W0 X pins H b)(k:∀b o,b∉ch->s.heap.get? b=some o->h'.get? b=some o):Inv X pins σ H {s with heap:=h',toks:=t'}:=by
 have nch:∀b u,H b=some u->b∉ch:=λb u e z=>by rw[(hf b z).1]at e;cases e
 refine I.step (λb hb=>⟨(hf b hb).2.2.2.1,(hf b hb).2.1,(hf b hb).2.2.2.2.1,(hf b hb).2.2.2.2.2⟩) (λb o _ _ hc e _=>k b o hc e) (λb o _ _ hc e _=>⟨o.slots,k b o hc e⟩)
  (λ_ _ _ _ n=>n) (λb o hc e=>⟨o,k b o hc e⟩) (λ_ _ e=>e) (λ_ _ _ e=>e) (λb ps e=>⟨#[],by rw[e];simp⟩) (λm hm=>?_) (λb u e=>?_) I.bare
 ·obtain⟨o,es,ep,ho,r⟩:=hm;exact⟨o,es,ep,k _ o (λz=>(hf _ z).2.1 rfl) ho,r⟩
 · refine(I.hok b u e).stay (λc v hc q=>k c v ?_ q) (λ_ q=>q) λ_ _ q=>q;rcases hc with z|z
   ·rw[z];exact nch b u e
   ·exact nch c _ z
end
def Sq(K:ze)(k:Bool)(H:Hp)(a:Addr)(vs:List V):Prop:=if k then SqT K H a vs else SqL K H a vs
theorem sA(I:Inv X pins σ H s)(h:Sq X.K k H a vs):∃Fj:List zd,j7 vs Fj/\SC k s.heap a Fj.toArray/\vs.length<=zi:=by
 rcases k with _|_
 ·obtain⟨Fj,r,p,z⟩:=I.list h;exact⟨Fj,r,p.isList,z⟩
 ·obtain⟨Fj,r,p,z⟩:=I.tuple h;exact⟨Fj,r,p,z⟩
theorem uI(I:Inv X pins σ H s)(h:Sq X.K k H a vs)(h':Sq X.K k H a ws):vs=ws:=by
 rcases k with _|_
 ·exact I.list_inj h h'
 ·exact I.tuple_inj h h'
def Itz(K:ze)(k1 k2:Bool)(a b:Addr):It:=
 ⟨λi H=>∃xs ys x y,Sq K k1 H a xs/\Sq K k2 H b ys/\xs[i]? =some x/\ys[i]? =some y,
  λi H v H'=>∃q x y,H q=none/\v= .ref q/\H'=upd H q (.tup [x,y])/\(∀xs,Sq K k1 H a xs->xs[i]? =some x)/\∀ys,Sq K k2 H b ys->ys[i]? =some y,
  λi H=>∃xs ys,Sq K k1 H a xs/\Sq K k2 H b ys/\(xs.length<=i\/ys.length<=i)⟩
theorem WH(r:j7 vs Fj){i:Nat}(h:vs[i]? =some x):∃u,Fj.toArray[i]? =some u/\o5 x u:=by obtain⟨u,e,ru⟩:=r.get h;exact⟨u,by simpa using e,ru⟩
theorem fP{w:zR}{K:ze}{es:List Expr}{x1:Nat}{tp:Pos}{l1 l2 z TI TO i1 i2:Addr}(Ap:ZA z TI TO i1 i2)(n1:l1∉ [z,TO,i1,i2])(n2:l2∉ [z,TO,i1,i2]):
 c5 P w K (.Tuple es x1 tp) (Itz K k1 k2 l1 l2) [z,TI,TO,i1,i2] z (λi h=>xD h z TI TO .none/\jX h TI (.ref i1) (.ref i2)/\(∃a b,jX h TO a b)/\SI k1 h i1 l1 i/\SI k2 h i2 l2 i) where
 mem:=by simp
 obj:=λi h st b hb=>by
  obtain⟨s1,s2,⟨a,c,s3⟩,s4,s5⟩:=st;simp only[zz,zT,or_false]at hb;rcases hb with rfl|rfl|rfl|rfl|rfl
  ·exact⟨_,s1,λv z=>nomatch z⟩
  ·exact⟨_,s2,λv z=>nomatch z⟩
  ·exact⟨_,s3,λv z=>nomatch z⟩
  ·exact s4.there
  ·exact s5.there
 keep:=λi h h' st k=>by obtain⟨s1,s2,⟨a,c,s3⟩,s4,s5⟩:=st;exact⟨k _ (by simp) _ s1,k _ (by simp) _ s2,⟨a,c,k _ (by simp) _ s3⟩,s4.keep (k _ (by simp)),s5.keep (k _ (by simp))⟩
 item:=by
  intro X hP hw hK hc i pins s σ H E I hf st hg;subst hP hw hK;obtain⟨xs,ys,x,y,q1,q2,hx,hy⟩:=hg;obtain⟨its1,r1,c1,z1⟩:=sA I q1;obtain⟨Hd,r2,c2,z2⟩:=sA I q2;obtain⟨u1,e1,ru1⟩:=WH r1 hx;obtain⟨u2,e2,ru2⟩:=WH r2 hy;obtain⟨s1,s2,⟨a,c,s3⟩,s4,s5⟩:=st;refine nO Ap n1 n2 s1 s2 s3 s4 s5 c1 c2 e1 e2 λg b1 b2 b3 b4 b5 b6 b7=>⟨_,rfl,?_⟩;refine wpAny_letOwnedTupleGo_zip b1 λg2 c1' sb=>?_;have keep:∀b o,b∉ [z,TI,TO,i1,i2]->s.heap.get? b=some o->g2.get? b=some o:=λb o hb e=>by simp only[zz,zT,or_false,not_or]at hb;exact(sb.2 b hb.1).trans (b7 b o hb.1 hb.2.2.1 hb.2.2.2.1 hb.2.2.2.2 e)
  have zlt:z<s.heap.objs.size:=zo s1;have hnew:W7 g2 s.heap.objs.size [u1,u2].toArray:=⟨_,(sb.2 _ (xt zlt)).trans b5,rfl,_,rfl⟩;have hq:H s.heap.objs.size=none:=I.hok.fresh (zh _);refine⟨.ref s.heap.objs.size,upd H s.heap.objs.size (.tup [x,y]),kX I hf keep (by show 2<=zi;decide) (.cons ru1 (.cons ru2 .nil)) hnew,rfl,⟨_,x,y,hq,rfl,rfl,λxs' h=>by rw[uI I h q1];exact hx,λys' h=>by rw[uI I h q2];exact hy⟩,?_,λb hb=>?_⟩
  ·refine⟨c1',?_,⟨_,_,(sb.2 _ Ap.TOz).trans b2⟩,b3.keep λo e=>(sb.2 _ Ap.i1z).trans e,b4.keep λo e=>(sb.2 _ Ap.i2z).trans e⟩;exact(sb.2 _ Ap.TIz).trans (b7 TI _ Ap.TIz Ap.TITO Ap.TIi1 Ap.TIi2 s2)
  · have Hc:b<s.heap.objs.size:=by
     simp only[zz,zT,or_false]at hb;rcases hb with rfl|rfl|rfl|rfl|rfl
     ·exact zlt
     ·exact zo s2
     ·exact zo s3
     ·obtain⟨_,e,_⟩:=s4.there;exact zo e
     ·obtain⟨_,e,_⟩:=s5.there;exact zo e
    rw[m6 (zE Hc)];exact(hf b hb).1
 done:=by intro X hP hw hK hc i pins s σ H E I hf st hg;subst hP hw hK;obtain⟨xs,ys,q1,q2,hend⟩:=hg;obtain⟨its1,r1,c1,z1⟩:=sA I q1;obtain⟨Hd,r2,c2,z2⟩:=sA I q2;obtain⟨s1,s2,⟨a,c,s3⟩,s4,s5⟩:=st;have Gx:=r1.length;have Hb:=r2.length;refine GU (I.ok.hd hc) Ap n1 n2 s1 s2 s3 s4 s5 c1 c2 (by rcases hend with h|h;left;simp;lia;right;simp;lia) λg b7=>⟨rfl,wF I hf λb o hb e=>?_⟩;simp only[zz,zT,or_false,not_or]at hb;exact b7 b o hb.1 hb.2.2.1 hb.2.2.2.1 hb.2.2.2.2 e
 self:=λ_ _ _ _ _ st h=>wpAny_pyIter_zip st.1 h
def wV(K:ze)(ta:TA):TI:=λσ H R=>ta σ H λvs H1=>∃k1 k2 a b xs ys,vs= [.ref a,.ref b]/\Sq K k1 H1 a xs/\Sq K k2 H1 b ys/\R (Itz K k1 k2 a b) H1
section
theorem qf(Gx:SC k1 s.heap l1 xs)(Hb:SC k2 s.heap l2 ys)
 (h:Q (.ref (zh4 k1 k2 s.heap l1 l2).objs.size) {s with heap:=zh5 k1 k2 s.heap l1 l2}):zp (zy prog w) A (call (.type "zip") [.ref l1,.ref l2]) Q E s:=by
 refine callType_new F.called_zip (by decide) (F.typeCall_zip_2 _ _) (F.newCall_zip_2 _ _) (λobj=>F.args_object_init_3 obj _ _) F.entry_zip_new (qj k1 k2 l1 l2 xs ys) ⟨Gx,Hb,?_⟩;exact⟨⟨_,zu _ rfl,rfl⟩,h⟩
structure ZMk(k1 k2:Bool)(h h5:Heap)(l1 l2:Addr)(n:Nat):Prop where
 keep:∀b o,h.get? b=some o->h5.get? b=some o
 sz:h5.objs.size=n+5
 g5:xD h5 (n+4:Nat) (n+2:Nat) (n+3:Nat) .none
 g4:jX h5 (n+3:Nat) .none .none
 g3:jX h5 (n+2:Nat) (.ref n) (.ref (n+1:Nat))
 s1:SI k1 h5 n l1 0
 s2:SI k2 h5 (n+1:Nat) l2 0
theorem zmk:(zh4 k1 k2 h l1 l2).objs.size=h.objs.size+4/\ZMk k1 k2 h (zh5 k1 k2 h l1 l2) l1 l2 h.objs.size:=by
 have z1:(zh1 k1 h l1).objs.size=h.objs.size+1:=yi ..;have z2:(zh2 k1 k2 h l1 l2).objs.size=h.objs.size+2:=by rw[yi,z1]
 have z3:(zh3 k1 k2 h l1 l2).objs.size=h.objs.size+3:=by rw[yi,z2]
 have z4:(zh4 k1 k2 h l1 l2).objs.size=h.objs.size+4:=by rw[yi,z3]
 have z5:(zh5 k1 k2 h l1 l2).objs.size=h.objs.size+5:=by rw[yi,z4]
 have g5:xD (zh5 k1 k2 h l1 l2) (zh4 k1 k2 h l1 l2).objs.size (zh2 k1 k2 h l1 l2).objs.size (zh3 k1 k2 h l1 l2).objs.size .none:=zu _ rfl;have g4:jX (zh5 k1 k2 h l1 l2) (zh3 k1 k2 h l1 l2).objs.size .none .none:=zc _ (zu _ rfl);have g3:jX (zh5 k1 k2 h l1 l2) (zh2 k1 k2 h l1 l2).objs.size (.ref h.objs.size) (.ref (zh1 k1 h l1).objs.size):=zc _ (zc _ (zu _ rfl));have g2:(zh5 k1 k2 h l1 l2).get? (zh1 k1 h l1).objs.size=some (eA k2 l2):=zc _ (zc _ (zc _ (zu _ (by cases k2<;>rfl))));have g1:(zh5 k1 k2 h l1 l2).get? h.objs.size=some (eA k1 l1):=zc _ (zc _ (zc _ (zc _ (zu _ (by cases k1<;>rfl)))));rw[z4,z2,z3]at g5;rw[z3]at g4;rw[z2,z1]at g3;rw[z1]at g2;refine⟨z4,λb o e=>zc _ (zc _ (zc _ (zc _ (zc _ e)))),z5,g5,g4,g3,?_,?_⟩
 · rcases k1 with _|_
   ·exact⟨_,g1,rfl,rfl⟩
   ·exact⟨_,g1,rfl,rfl⟩
 · rcases k2 with _|_
   ·exact⟨_,g2,rfl,rfl⟩
   ·exact⟨_,g2,rfl,rfl⟩
theorem SC.lt(c:SC k h a xs): @LT.lt Nat instLTNat a h.objs.size:=by
 rcases k with _|_
 ·obtain⟨o,e,_⟩:=(show h.IsList a _ from c);exact zo e
 ·obtain⟨o,e,_⟩:=(show h.IsTuple a _ from c);exact zo e
theorem VN(Gx:SC k1 s.heap l1 xs)(Hb:SC k2 s.heap l2 ys)
 (h:∀h5 n,n=s.heap.objs.size->ZMk k1 k2 s.heap h5 l1 l2 n->Q (.ref (n+4:Nat)) {s with heap:=h5}):zp (zy prog w) A (call (.type "zip") [.ref l1,.ref l2]) Q E s:=by
 refine qf Gx Hb ?_;have:=zmk (k1:=k1) (k2:=k2) (h:=s.heap) (l1:=l1) (l2:=l2);rw[this.1];exact h _ _ rfl this.2
theorem qR{es:List Expr}{ta:TA}{p pos:Pos}(hg:Gl X "zip")(hm:X.mg "zip" =none)(ha:PA X [a,b] ta)(hs:zF [a,b] X.env= [(false,eval a X.env),(false,eval b X.env)])(hs2:zF [b] X.env= [(false,eval b X.env)])(hbt:zK "zip" =some (.type "zip")):
 PI X (.Tuple es x1 tp) (.Call (.Name "zip" p) [a,b] [] pos) (wV X.K ta):=by
 intro pins s σ H R I h;refine Call_ (P8 I hg hm hbt (xc (thn (ha pos pins s σ H _ I h) λus s1 Gc=>Gc.elim λvs H1 I1 r1 q1=>?_) (by rw[hs,hs2]) (by rw[hs2];rfl)));obtain⟨k1,k2,l1,l2,xs,ys,rfl,q1,q2,q⟩:=q1;obtain⟨u1,u2,rfl,ru1,ru2⟩:=wA r1
 cases ru1
 cases ru2
 obtain⟨its1,rr1,c1,z1⟩:=sA I1 q1;obtain⟨Hd,rr2,c2,z2⟩:=sA I1 q2;refine VN c1 c2 λh5 n en Z=>?_;have n1:=QH (en▸c1.lt);have n2:=QH (en▸c2.lt);refine wpAny_pyIter_zip Z.g5 ?_;refine⟨(n+4:Nat),_,_,Itz X.K k1 k2 l1 l2,H1,rfl,I1.kept Z.keep,fP (SN n) n1 n2,⟨Z.g5,Z.g3,⟨_,_,Z.g4⟩,Z.s1,Z.s2⟩,λb hb=>?_,q⟩;have Hc:s1.heap.objs.size<=b:=en▸NY hb;exact I1.fpOk Hc (I1.hok.fresh Hc)
end
section
open Classical in
def ckO(r:Nat)(o:DO):DH->Bool:=λG=>decide (G[r]? =some o)
def D3:D->M Src:=λx=>match x with
 | .tup l=>pure ⟨l,λ_=>true⟩
 | .ref r=>do
   let o <-J5 r
   let l <-listOf o
   pure ⟨l,ckO r o⟩
 |_=>M.stuck
def bX(c:Wc)(μ:List Addr)(H:Hp)(k:Bool)(a:Addr)(s:Src):Prop:=∀ X9 G' H',Ext μ H X9 H'->j8 c X9 G' H'->s.ck G'=true->∃vs,Sq c.K k H' a vs/\g8 c X9 H' s.items vs
theorem IF{H:Hp}{G:DH}{d:D}{v:V}{f:Src->M α}{K:α->List Addr->DH->Hp->Prop}(h:j8 c μ G H)(r:d7 c μ H d v)(p:c7 c Z μ H ((D3 d >>= f) G) K):
 ∃s k a vs,v= .ref a/\Sq c.K k H a vs/\g8 c μ H s.items vs/\bX c μ H k a s/\s.ck G=true/\(∀i,d= .ref i->k=false)/\c7 c Z μ H (f s G) K:=by
 rcases d with _|_|_|_|l|i|_|_<;>try (exact p.elim;done)
 ·
   unfold d7 at r;obtain⟨a,vs,rfl,q,rl⟩:=r;exact⟨⟨l,λ_=>true⟩,true,a,vs,rfl,q,rl,λX9 G' H' x h' _=>⟨vs,x.sqT q,rl.mono x⟩,rfl,(λi z=>nomatch z),p⟩
 ·
   unfold d7 at r;obtain⟨a,m,rfl⟩:=r;have p':c7 c Z μ H ((J5 i >>= λo=>(listOf o >>= λl=>(pure ⟨l,ckO i o⟩:M Src)) >>= f) G) K:=by rw[<-M.bind_assoc];exact p
   obtain⟨o,g,p2⟩:=w6 p';have ro:=h.obj i o a g m;have ck:ckO i o G=true:=by unfold ckO;simp[g]
   cases o with
   |lst l=>
     obtain⟨vs,q,rl⟩:=ro;refine⟨⟨l,ckO i (.lst l)⟩,false,a,vs,rfl,SqL.of q,rl,λX9 G' H' x h' Hf=>?_,ck,(λ_ _=>rfl),p2⟩;have g':G'[i]? =some (.lst l):=by unfold ckO at Hf;simpa using Hf
     obtain⟨Gm,q',Gf⟩:=h'.obj i _ a g' (oH x.pre m);exact⟨Gm,SqL.of q',Gf⟩
   |rol l=>
     obtain⟨vs,q,rl⟩:=ro;refine⟨⟨l,ckO i (.rol l)⟩,false,a,vs,rfl,q.sq,rl,λX9 G' H' x h' Hf=>?_,ck,(λ_ _=>rfl),p2⟩;have g':G'[i]? =some (.rol l):=by unfold ckO at Hf;simpa using Hf
     obtain⟨Gm,q',Gf⟩:=h'.obj i _ a g' (oH x.pre m);exact⟨Gm,q'.sq,Gf⟩
   |dct l=>exact p2.elim
   |rod l=>exact p2.elim
theorem MM{H:Hp}{i:Nat}{d:D}{x:V}(r:g8 c μ H l vs)(h:l[i]? =some d)(hx:vs[i]? =some x):d7 c μ H d x:=by
 obtain⟨v,e,q⟩:=r.get h;rw[hx]at e
 cases e
 exact q
def V3(lo:Int)(n:Nat):List D:=(zJ n).map fun(i:Nat)=>D.int (lo+(i:Int))
def L7(fs:DSt->M (List D)):DSt->M Src:=λσ=>do
 match <-fs σ with
 |[.int j]=>if -(2 ^ 62)<=j/\j<2 ^ 62 then pure ⟨V3 0 j.toNat,λ_=>true⟩else M.stuck
 |_=>M.stuck
theorem GQ(lo:Int)(n:Nat):ItD c μ H (Itr lo n) ⟨V3 lo n,λ_=>true⟩:=λX9 G' H' x' h' _ i=>by
 refine⟨λd hd=>?_,λhi=>?_⟩
 · have hi:i<n:=by have:=lt_of_get hd;simpa [V3]using this
   have e:d= .int (lo+i):=by unfold V3 at hd;rw[jr,List.getElem?_range hi]at hd;simp at hd;exact hd.symm
   subst e;exact⟨hi,λx H2 ⟨e1,e2⟩=>by subst e1 e2;exact⟨Ext.refl _ _,h',ofI⟩⟩
 ·show n<=i;simpa [V3]using hi
theorem gX(hg:Gl X "range")(hm:X.mg "range" =none)(ha:DA X Z [a] fs)(hs:zF [a] X.env= [(false,eval a X.env)]):DI X Z tg (.Call (.Name "range" p) [a] [] pos) (L7 fs):=
 DI.of (Dz hg hm ha.h hs) λσ H R Fm=>Fm.elim λX2 μ G s h p=>⟨X2,μ,G,s,h,(c7.bind p).mono λds X0 G1 H1 x1 h1 p1 vs rv=>by
  rcases ds with _|⟨_|_|j|_|_|_|_|_,_|⟨_,_⟩⟩<;>dsimp only at p1<;>try exact p1.elim
  · split at p1
    · rename_i hj;obtain⟨v,t,rfl,r0,e⟩:=rv
      cases e
      exact⟨j,by rw[Q7 r0],hj.1,hj.2,c7.ok p1 h1 _ (GQ 0 _)⟩
    ·exact p1.elim⟩
def F5(fs:DSt->M (List D)):DSt->M Src:=λσ=>do
 match <-fs σ with
 |[a,b]=>do
   let s1 <-D3 a
   let s2 <-D3 b
   pure ⟨(s1.items.zip s2.items).map λp=>.tup [p.1,p.2],λG=>s1.ck G&&s2.ck G⟩
 |_=>M.stuck
theorem qT(h:j8 c μ G H)(hq:H q=none)(r:g8 c μ H ds vs):Ext μ H μ (upd H q (.tup vs))/\j8 c μ G (upd H q (.tup vs))/\d7 c μ (upd H q (.tup vs)) (.tup ds) (.ref q):=by have k:Ext μ H μ (upd H q (.tup vs)):=Ext.lay hq _;refine⟨k,h.same k λa o e n=>by rw[m6 (m5 e hq)];exact e,?_⟩;unfold d7;exact⟨q,vs,rfl,SqT.of J3,r.mono k⟩
theorem tZ{tp:Pos}{p pos:Pos}(hg:Gl X "zip")(hm:X.mg "zip" =none)(ha:DA X Z [a,b] fs)(hs:zF [a,b] X.env= [(false,eval a X.env),(false,eval b X.env)])(hs2:zF [b] X.env= [(false,eval b X.env)])(hbt:zK "zip" =some (.type "zip")):
 DI X Z (.Tuple es x1 tp) (.Call (.Name "zip" p) [a,b] [] pos) (F5 fs):=
 DI.of (qR hg hm ha.h hs hs2 hbt) λσ H R Fm=>Fm.elim λX2 μ G s h p=>⟨X2,μ,G,s,h,(c7.bind p).mono λds X0 G1 H1 x1 h1 p1 vs rv=>by
  rcases ds with _|⟨d1,_|⟨d2,_|⟨_,_⟩⟩⟩<;>dsimp only at p1<;>try exact p1.elim
  · obtain⟨v1,t1,rfl,r1,v2,t2,rfl,r2,e⟩:=rv
    cases e
    obtain⟨s1,k1,a1,w1,rfl,q1,l1,is1,ck1,_,p2⟩:=IF h1 r1 p1;obtain⟨s2,k2,a2,w2,rfl,q2,l2,is2,ck2,_,p3⟩:=IF h1 r2 p2;refine⟨k1,k2,a1,a2,w1,w2,rfl,q1,q2,c7.ok p3 h1 _ λX9 G' H' x' h' ck' i=>?_⟩;have ck'':s1.ck G'=true/\s2.ck G'=true:=by simpa using ck'
    obtain⟨u1,q1',l1'⟩:=is1 X9 G' H' x' h' ck''.1;obtain⟨u2,q2',l2'⟩:=is2 X9 G' H' x' h' ck''.2;refine⟨λd hd=>?_,λhi=>?_⟩
    · rw[jr]at hd;rcases hz:(s1.items.zip s2.items)[i]? with _|pr
      ·rw[hz]at hd;cases hd
      ·
        rw[hz]at hd;obtain⟨e1,e2⟩:=pr;have Hk:d= .tup [e1,e2]:=by simpa using hd.symm
        subst Hk;rw[List.getElem?_zip_eq_some]at hz;obtain⟨y1,hy1,ry1⟩:=l1'.get hz.1;obtain⟨y2,hy2,ry2⟩:=l2'.get hz.2;refine⟨⟨u1,u2,y1,y2,q1',q2',hy1,hy2⟩,λx H2 ⟨q,z1,z2,hq,ex,eH,f1,f2⟩=>?_⟩;subst ex eH;have g1:=f1 u1 q1';have g2:=f2 u2 q2';rw[hy1]at g1;rw[hy2]at g2
        cases g1
        cases g2
        exact qT h' hq ⟨y1,_,rfl,ry1,y2,_,rfl,ry2,rfl⟩
    ·refine⟨u1,u2,q1',q2',?_⟩;rw[<-l1'.length,<-l2'.length];simp at hi;lia⟩
end
def S8:List D->M D:=λds=>match ds with
 |[.str z]=>if z.length<=zi then pure (.int z.length)else M.stuck
 |[.tup l]=>pure (.int l.length)
 |[.ref r]=>do
   match <-J5 r with
   | .lst l=>pure (.int l.length)
   | .rol l=>pure (.int l.length)
   | .dct l=>pure (.int l.length)
   | .rod _=>M.stuck
 |_=>M.stuck
def S3:List D->M D:=λds=>match ds with
 |[.tup l]=>pure (.tup l)
 |[.ref r]=>do
   let l <-J5 r >>= listOf
   pure (.tup l)
 |_=>M.stuck
def c8:List D->M D:=λds=>match ds with
 |[.tup l]=>J4 (.lst l)
 |[.ref r]=>do
   let l <-J5 r >>= listOf
   J4 (.lst l)
 |_=>M.stuck
def B8:List D->M D:=λds=>match ds with
 |[.int i,.int j]=>pure (.int (if j<i then j else i))
 |_=>M.stuck
def aA:List D->M D:=λds=>match ds with
 |[.int i,.int j]=>pure (.int (if j>i then j else i))
 |_=>M.stuck
def P9:List D->M D:=λds=>match ds with
 |[.int i]=>pure (.int (if i<0 then -i else i))
 |_=>M.stuck
def EL:List D->M D:=λds=>match ds with
 |[.int i]=>pure (.int i)
 |[.bl k]=>pure (.int (if k then 1 else 0))
 |_=>M.stuck
def kB:List D->Option (List Bool)
 |[]=>some []
 | .bl b::r=>(kB r).map (b :: ·)
 |_=>none
def qH:List D->M D:=λds=>match ds with
 |[.ref r]=>do
   let l <-J5 r >>= listOf
   let bs <-N0 (kB l)
   pure (.bl (bs.any id))
 |_=>M.stuck
theorem wQ{F:List D->M α}{c:Wc}{Z:XC}{H:Hp}{G:DH}{K:α->List Addr->DH->Hp->Prop}(p:c7 c Z μ H (F ds G) K)(h0:F []=M.stuck)(h2:∀a b t,F (a::b::t)=M.stuck)(hn:F [.non]=M.stuck)(hb:∀b,F [.bl b]=M.stuck)(hi:∀b,F [.int b]=M.stuck)(hs:∀b,F [.str b]=M.stuck)(ht:∀b,F [.tup b]=M.stuck)(hf:∀b,F [.fn b]=M.stuck)(hy:∀b,F [.ty b]=M.stuck):∃r,ds= [.ref r]:=by
 rcases ds with _|⟨d,_|⟨_,_⟩⟩
 ·rw[h0]at p;exact p.elim
 · rcases d with _|b|b|b|b|b|b|b
   ·rw[hn]at p;exact p.elim
   ·rw[hb]at p;exact p.elim
   ·rw[hi]at p;exact p.elim
   ·rw[hs]at p;exact p.elim
   ·rw[ht]at p;exact p.elim
   ·exact⟨b,rfl⟩
   ·rw[hf]at p;exact p.elim
   ·rw[hy]at p;exact p.elim
 ·rw[h2]at p;exact p.elim
section
theorem F1(r:g8 c μ H [d] vs):∃v,vs= [v]/\d7 c μ H d v:=by
 obtain⟨v,t,rfl,q,e⟩:=r
 cases e
 exact⟨v,rfl,q⟩
theorem OC(r:g8 c μ H [d,e] vs):∃v w,vs= [v,w]/\d7 c μ H d v/\d7 c μ H e w:=by
 obtain⟨v,t,rfl,q,v',t',rfl,q',z⟩:=r
 cases z
 exact⟨v,v',rfl,q,q'⟩
theorem Dv:K6 X Z (.builtin "len") S8:=K6.of (N7.or sP (N7.or vV mV)) λxs H Q Fm=>Fm.elim λds μ G rl hr p=>by
 rcases ds with _|⟨_|_|_|z|l|i|_|_,_|⟨_,_⟩⟩<;>try exact p.elim
 all_goals (delta S8 at p;dsimp only at p)
 · obtain⟨v,rfl,r⟩:=F1 rl;split at p
   ·rename_i hz;exact .inr (.inl ⟨z,by rw[K0 r],hz,c7.ok p hr _ ofI⟩)
   ·exact p.elim
 ·obtain⟨v,rfl,r⟩:=F1 rl;unfold d7 at r;obtain⟨a,vs,rfl,q,Gf⟩:=r;exact .inl ⟨a,vs,rfl,.inr q,by rw[<-Gf.length];exact c7.ok p hr _ ofI⟩
 · obtain⟨v,rfl,r⟩:=F1 rl;unfold d7 at r;obtain⟨a,m,rfl⟩:=r;obtain⟨o,g,p1⟩:=w6 p;have ro:=hr.obj i o a g m;rcases o with l|l|l|l
   ·obtain⟨vs,q,Gf⟩:=ro;exact .inl ⟨a,vs,rfl,.inl (SqL.of q),by rw[<-Gf.length];exact c7.ok p1 hr _ ofI⟩
   ·obtain⟨vs,q,Gf⟩:=ro;exact .inl ⟨a,vs,rfl,.inl q.sq,by rw[<-Gf.length];exact c7.ok p1 hr _ ofI⟩
   ·obtain⟨Fk,q,rk⟩:=ro;exact .inr (.inr ⟨a,Fk,rfl,q,by rw[<-rk.length];exact c7.ok p1 hr _ ofI⟩)
   ·exact p1.elim
theorem pC{f:List D->M α}{K:α->List Addr->DH->Hp->Prop}(h:j8 c μ G H)(rv:d7 c μ H (.ref r) v)(p:c7 c Z μ H (((J5 r >>= listOf) >>= f) G) K):
 ∃l a vs,v= .ref a/\g8 c μ H l vs/\SqL c.K H a vs/\c7 c Z μ H (f l G) K:=by
 obtain⟨l,a,vs,rfl,rl,p2,hq⟩:=dE h rv p;refine⟨l,a,vs,rfl,rl,?_,p2⟩;rcases hq with⟨z,_⟩|⟨_,_,_,⟨_,q⟩|⟨_,q⟩⟩
 ·cases z
 ·exact SqL.of q
 ·exact q.sq
theorem uQ:K6 X Z (.type "tuple") S3:=K6.of TW λxs H Q Fm=>Fm.elim λds μ G rl hr p=>by
 rcases ds with _|⟨_|_|_|_|l|i|_|_,_|⟨_,_⟩⟩<;>try exact p.elim
 all_goals (delta S3 at p;dsimp only at p)
 ·obtain⟨v,rfl,r⟩:=F1 rl;have r':=r;unfold d7 at r';obtain⟨a,vs,rfl,q,Gf⟩:=r';exact⟨a,vs,rfl,.inr ⟨q,c7.ok p hr _ r⟩⟩
 ·obtain⟨v,rfl,r⟩:=F1 rl;obtain⟨l,a,vs,rfl,Gf,q,p2⟩:=pC hr r p;exact⟨a,vs,rfl,.inl ⟨q,λl' hl=>PD hr Gf p2 l' hl⟩⟩
theorem qq:K6 X Z (.type "list") c8:=K6.of CP λxs H Q Fm=>Fm.elim λds μ G rl hr p=>by
 rcases ds with _|⟨_|_|_|_|l|i|_|_,_|⟨_,_⟩⟩<;>try exact p.elim
 all_goals (delta c8 at p;dsimp only at p)
 ·obtain⟨v,rfl,r⟩:=F1 rl;unfold d7 at r;obtain⟨a,vs,rfl,q,Gf⟩:=r;exact⟨a,vs,rfl,.inr q,λl' hl=>Q9 hr Gf p l' hl⟩
 ·obtain⟨v,rfl,r⟩:=F1 rl;obtain⟨l,a,vs,rfl,Gf,q,p2⟩:=pC hr r p;exact⟨a,vs,rfl,.inl q,λl' hl=>Q9 hr Gf p2 l' hl⟩
theorem tR(hc:X.calm=true):K6 X Z (.builtin "min") B8:=K6.of (qc hc) λxs H Q Fm=>Fm.elim λds μ G rl hr p=>by
 delta B8 at p;rcases ds with _|⟨_|_|i|_|_|_|_|_,t⟩<;>try exact p.elim
 rcases t with _|⟨_|_|j|_|_|_|_|_,_|⟨_,_⟩⟩<;>try exact p.elim
 obtain⟨v,w,rfl,r,r'⟩:=OC rl;exact⟨_,_,by rw[Q7 r,Q7 r'],c7.ok p hr _ ofI⟩
theorem QW(hc:X.calm=true):K6 X Z (.builtin "max") aA:=K6.of (mS hc) λxs H Q Fm=>Fm.elim λds μ G rl hr p=>by
 delta aA at p;rcases ds with _|⟨_|_|i|_|_|_|_|_,t⟩<;>try exact p.elim
 rcases t with _|⟨_|_|j|_|_|_|_|_,_|⟨_,_⟩⟩<;>try exact p.elim
 obtain⟨v,w,rfl,r,r'⟩:=OC rl;exact⟨_,_,by rw[Q7 r,Q7 r'],c7.ok p hr _ ofI⟩
theorem fT:K6 X Z (.builtin "abs") P9:=K6.of RP λxs H Q Fm=>Fm.elim λds μ G rl hr p=>by
 rcases ds with _|⟨_|_|_|_|_|_|_|_,_|⟨_,_⟩⟩<;>try exact p.elim
 all_goals (delta P9 at p;dsimp only at p)
 ·obtain⟨v,rfl,r⟩:=F1 rl;exact⟨_,by rw[Q7 r],c7.ok p hr _ ofI⟩
theorem gL:K6 X Z (.type "int") EL:=K6.of CS λxs H Q Fm=>Fm.elim λds μ G rl hr p=>by
 rcases ds with _|⟨_|_|_|_|_|_|_|_,_|⟨_,_⟩⟩<;>try exact p.elim
 all_goals (delta EL at p;dsimp only at p)
 ·obtain⟨v,rfl,r⟩:=F1 rl;exact .inr ⟨_,by rw[D5 r],c7.ok p hr _ ofI⟩
 ·obtain⟨v,rfl,r⟩:=F1 rl;exact .inl ⟨_,by rw[Q7 r],c7.ok p hr _ ofI⟩
theorem vL:∀ {l} {bs} {vs} {us},kB l=some bs->g8 c μ H l vs->j7 vs us->us.length=bs.length/\∀i u,us[i]? =some u->u=Value.bool (bs.getD i false)
 |[],_,_,_,e,r,q=>by cases e;cases r;cases q;exact⟨rfl,λi u h=>by simp at h⟩
 |d::ds,ns,_,_,e,r,q=>by
   obtain⟨v,t,rfl,r0,rt⟩:=r
   cases q with
   |cons q0 qt=>
     rcases d with _|n|_|_|_|_|_|_<;>try (cases e;done)
     ·
       replace e:(kB ds).map (n :: ·)=some ns:=e;rcases h:kB ds with _|ms
       ·rw[h]at e;exact t6 e
       ·
         rw[h]at e
         cases e
         obtain⟨h1,h2⟩:=vL h rt qt;refine⟨by simp[h1],λi u hu=>?_⟩
         cases i with
         |zero=>
           simp at hu;subst hu;rw[D5 r0]at q0;exact q0
         |succ i=>simpa using h2 i u (by simpa using hu)
theorem nX(bs:List Bool):((zJ bs.length).any λi=>bs.getD i false)=bs.any id:=by
 induction bs with
 |nil=>rfl
 |cons b t ih=>rw[zw,yn,jO,List.any_map,jO];simp[XF];rw[<-ih];simp
theorem oT{σ:St}{a:Addr}{Fj:List zd}(hc:X.calm=true)(I:Inv X pins σ H s)(hl:s.heap.IsList a Fj.toArray)
 (h:Walks X.prog X.w X.A.in1 s.heap.objs.size [s.heap.objs.size,a] [s.heap.objs.size] Fj.toArray.size (λi v=>Fj.toArray[i]? =some v) (λi h=>h.IsListIter s.heap.objs.size a i/\h.IsList a Fj.toArray)->
   ∀h2:Heap,(h2.IsListIter s.heap.objs.size a 0/\h2.IsList a Fj.toArray)->(∀b∈ [s.heap.objs.size,a],b<h2.objs.size)->(∀h' tk,(∀b o,b∉ [s.heap.objs.size]->h2.get? b=some o->h'.get? b=some o)->Inv X pins σ H {s with heap:=h',toks:=tk})->Q (.ref s.heap.objs.size) {s with heap:=h2}):
 zp (zy X.prog X.w) X.A.in1 (pyIter (.ref a)) Q E s:=by
 have Gd:a<s.heap.objs.size:=by obtain⟨_,e,_⟩:=hl;exact zo e
 refine xS hl ?_;have hh:X.A.in1.handled=none:=I.ok.hd hc;refine h (Walks.list hh s.heap.objs.size a (zE Gd) Fj.toArray) _ ⟨⟨_,zu _ rfl,rfl,rfl⟩,hl.push _⟩ (λb hb=>?_) λh' tk k=>?_
 · rw[yi];simp only[zz,zT,or_false]at hb;rcases hb with rfl|rfl
   ·exact Yr _
   ·exact yd Gd
 ·exact I.kept λb o e=>k b o (by simp only[zA];exact zE (zo e)) (zc _ e)
theorem SW(hc:X.calm=true):K6 X Z (.builtin "any") qH:=⟨by
 intro pins s σ H xs us Q I r Fm;obtain⟨ds,μ,G,rl,hr,p⟩:=Fm;obtain⟨i,rfl⟩:=wQ p rfl (λa _ _=>by cases a<;>rfl) rfl (λ_=>rfl) (λ_=>rfl) (λ_=>rfl) (λ_=>rfl) (λ_=>rfl) λ_=>rfl
 · obtain⟨v,rfl,rv⟩:=F1 rl;obtain⟨u,rfl,ru⟩:=W2 r;obtain⟨l,a,vs,rfl,Gf,q,p2⟩:=pC hr rv p
   cases ru
   obtain⟨bs,en,p3⟩:=O7 p2;obtain⟨Fj,rr,pl,hz⟩:=I.list q;obtain⟨h1,h2⟩:=vL en Gf rr;refine call_any_walk (oT hc I pl.isList λW g hg hb hk=>⟨_,_,_,_,_,_,λi=>bs.getD i false,rfl,W,hg,λi v s' Q' E' hv hq=>?_,λh' tk k=>?_⟩)
   ·rw[h2 i v (by simpa using hv)];exact yG hq
   · refine⟨.bl (bs.any id),H,hk h' tk k,?_,c7.ok p3 hr _ ofB⟩;have e:Fj.toArray.size=bs.length:=by rw[zg];exact h1
     rw[e,nX];rfl⟩
theorem Fc(hg:Gl X x)(hm:X.mg x=none)(hv:zK x=some (.type n))(hn:x≠ "__name__")(hd:(x==("__debug__" :Str))=false):DE X Z (.Name x pos) (cE (.ty n)):=
 KB (v:=.ty n) (MX hg hm hv rfl hn hd) λ_ _=>by unfold d7;rfl
end
def T6:D->M Bool:=λx=>match x with
 | .non=>pure false
 | .bl b=>pure b
 | .int i=>pure (i != 0)
 | .str y=>if y.length<=zi then pure ((y.length:Int) != 0)else M.stuck
 | .tup l=>pure (!l.isEmpty)
 | .ref r=>do
   match <-J5 r with
   | .lst l=>pure (!l.isEmpty)
   | .rol l=>pure (!l.isEmpty)
   | .dct l=>pure (!l.isEmpty)
   | .rod _=>M.stuck
 |_=>M.stuck
def truthE(f:Fe):DSt->M Bool:=λσ=>do T6 (<-f σ)
section
theorem V2(r:g8 cc μ H l vs):vs.isEmpty=l.isEmpty:=by
 cases l with
 |nil=>cases r;rfl
 |cons _ _=>obtain⟨_,_,rfl,_⟩:=r;rfl
theorem eL(r:Q6 cc μ H l vs):vs.isEmpty=l.isEmpty:=by
 cases l with
 |nil=>cases r;rfl
 |cons _ _=>obtain⟨_,_,rfl,_⟩:=r;rfl
theorem aO(ha:DE X Z a fa)(he:∀whole,isTrue a X.env whole= (do let v <-whole;Xl a.pos;ZN [v] (truthy v))):DT X Z a (truthE fa):=
 DT.of (PY ha.h he) λσ H Q Fm=>Fm.elim λX2 μ G s h p=>⟨X2,μ,G,s,h,(c7.bind p).mono λd X0 G1 H1 x1 h1 p1 v rv=>by
  cases d with
  |non=>rw[BB rv];exact⟨false,rfl,c7.ok p1 h1⟩
  |bl b=>rw[D5 rv];exact⟨b,rfl,c7.ok p1 h1⟩
  |int b=>rw[Q7 rv];exact⟨_,rfl,c7.ok p1 h1⟩
  |str y=>
    rw[K0 rv];unfold T6 at p1;dsimp only at p1;split at p1
    ·rename_i hz;exact⟨_,⟨hz,rfl⟩,c7.ok p1 h1⟩
    ·exact p1.elim
  |tup l=>
    unfold d7 at rv;obtain⟨a,vs,rfl,q,rl⟩:=rv;exact⟨!vs.isEmpty,.inr (.inl ⟨vs,q,rfl⟩),by rw[V2 rl];exact c7.ok p1 h1⟩
  |ref r=>
    unfold d7 at rv;obtain⟨a,m,rfl⟩:=rv;obtain⟨o,g,p2⟩:=w6 p1;have ro:=h1.obj r o a g m
    cases o with
    |lst l=>obtain⟨vs,q,rl⟩:=ro;exact⟨!vs.isEmpty,.inl ⟨vs,SqL.of q,rfl⟩,by rw[V2 rl];exact c7.ok p2 h1⟩
    |rol l=>obtain⟨vs,q,rl⟩:=ro;exact⟨!vs.isEmpty,.inl ⟨vs,q.sq,rfl⟩,by rw[V2 rl];exact c7.ok p2 h1⟩
    |dct l=>obtain⟨vs,q,rl⟩:=ro;exact⟨!vs.isEmpty,.inr (.inr ⟨vs,q,rfl⟩),by rw[eL rl];exact c7.ok p2 h1⟩
    |rod l=>exact p2.elim
  |_=>exact p1.elim⟩
def WB(o o':D->D->M D)(fa fb fc:Fe):Fe:=λσ=>do
 let x <-fa σ
 let y <-fb σ
 if <-lC (<-o x y)then o' y (<-fc σ)else pure (.bl false)
end
def AD(osc scope:Scope)(N XN:List Str)(caps:List (Option Nat)):Bool:=
 decide (scope.kind= .function)&&scope.names.all (λy=>decide (y.2≠ .cell))&&scope.names.all (λy=>decide (y.2= .local->scope.names.lookup y.1=some .local)) &&
 scope.names.all (λy=>decide (y.2= .free->(osc.names.lookup y.1=some .cell\/osc.names.lookup y.1=some .free)))&&scope.names.all (λy=>decide (y.2= .free->scope.names.lookup y.1=some .free)) &&
 decide (caps.length=N.length)&&(zJ caps.length).all λi=>match caps[i]? with
  |some (some j)=>match N[i]?,XN[j]? with
    |some x,some y=>decide (x=y)&&decide ((x,NameKind.free)∈scope.names)
    |_,_=>false
  |_=>true
theorem U6.of{caps:List (Option Nat)}(h:AD osc scope N XN caps=true)(hs:X.env.scope=osc)(hN:X.N=XN):U6 X scope N caps:=by
 unfold AD at h;simp only[jl,decide_eq_true_eq,List.all_eq_true]at h;obtain⟨⟨⟨⟨⟨⟨h1,h2⟩,h3⟩,h4⟩,h5⟩,h6⟩,h7⟩:=h;refine⟨h1,h2,h3,λy hy e=>?_,h5,h6,λi j e=>?_⟩
 ·have:=h4 y hy e;show X.env.scope.names.lookup y.1=_\/X.env.scope.names.lookup y.1=_;rw[hs];exact this
 · have hi:i∈zJ caps.length:=by rw[jW];exact lt_of_get e
   have q:=h7 i hi;simp only[e]at q;rw[hN];split at q
   ·rename_i x y e1 e2;simp only[jl,decide_eq_true_eq]at q;exact⟨x,e1,by rw[e2,q.1],q.2⟩
   ·exact mE q
def m8(m:Nat)(fb:Fs):List D->M D:=λds=>do
 match <-fb (ds.map some++jV (m-ds.length) none) with
 | .nx _=>pure .non
 | .rt d=>pure d
 |_=>M.stuck
structure FF(K:ze)(mg:Str->Option zd)(x:Str)(st:Stmt)(ps:List Str)(f:Addr)(fd:yF):Prop where
 F:Fun K x x st f fd
 b:v3 K fd ps []
 m:mg x=some (.ref f)
theorem EU(r:g8 c μ H ds vs):t8 c μ H (ds.map some++jV (N.length-ds.length) none) (L2.start N vs):=by
 unfold L2.start;rw[r.length];refine⟨by simp[r.length],λi d e=>?_⟩;by_cases hi:i<ds.length
 · rw[zt (by simpa using hi),jr]at e;have hd:ds[i]? =some d:=by
    cases h:ds[i]? with
    |none=>rw[h]at e;exact t6 e
    |some d'=>rw[h]at e;simpa using e
   obtain⟨v,hv,rv⟩:=r.get hd;refine⟨v,?_,rv⟩;rw[zt (by simp;rw[<-r.length];exact hi),jr,hv];rfl
 ·rw[jy (by simpa using hi),Xk]at e;split at e<;>cases e
theorem lN{w:zR}{K:ze}{base:Heap}{x:Str}{st:Stmt}{f:Addr}{k n m:Nat}{fb:Fs}(F:FF K mg x st ps f fd)(S:R3 N ps (t7 st))(hn:ps.length=n)(hm:N.length=m)
 (hbody:∀(Gh:zd) (A:jb) (outer:List Env) (s:zm) (H:Hp) (E:XK),K8 k (A.deeper (xZ x (t7 st) s.heap.objs.size f Gh))->DB (t5 CX0 P w K mg base N x (t7 st) f Gh A outer s H E).nox ZF (O9 st) fb):
 V1 P w K mg base CX0 (k+1) f fd ps (spD ⟨K,mg⟩ n (m8 m fb)):=by
 refine F.F.ok S (λvs H Q E h=>by rw[hn];exact h.1) λGh A outer s H vs Q E hr h=>⟨_,(hbody Gh A outer s H E hr).h,?_⟩;obtain⟨hl,ds,μ,G,rl,hG,p⟩:=h;subst hm;refine⟨_,μ,G,EU rl,hG,(c7.bind p).mono λfl X0 G1 H1 x1 h1 p1=>?_⟩
 cases fl with
 |nx X2=>exact λσ _=>c7.ok p1 h1 _ ofN
 |rt d=>exact λv rv=>c7.ok p1 h1 v rv
 |bk _=>exact p1.elim
 |ct _=>exact p1.elim
def AE(K:ze):Sp:=λvs H Q _=>∃(a:Addr) (ns:List Int),vs= [.ref a]/\SqL K H a (ns.map V.int)/\HD H/\ns.length<=63/\∀H',Q (.bl true) H'
theorem gN:∀ns:List Int,g8 c μ H (ns.map D.int) (ns.map V.int)
 |[]=>rfl
 |n::t=>⟨.int n,_,rfl,ofI,gN t⟩
theorem km{w:zR}{K:ze}{base:Heap}{f:Addr}{k:Nat}(hF:V1 P w K mg base CX0 k f fd ["script"] (spD ⟨K,mg⟩ 1 F))
 (pure:∀ns:List Int,ns.length<=63->∃G',F [.ref 0] [.rol (ns.map D.int)]=some (.ok (.bl true),G')):V1 P w K mg base CX0 k f fd ["script"] (AE K):=
 hF.imp λvs H Q E h=>by
  obtain⟨a,ns,rfl,hS,hO,hl,q⟩:=h;obtain⟨G',e⟩:=pure ns hl;refine⟨rfl, [.ref 0], [a], [.rol (ns.map D.int)],⟨.ref a, [],rfl,by unfold d7;exact⟨a,rfl,rfl⟩,rfl⟩,⟨rfl,λi j b e1 e2=>?_,λi o b e1 e2=>?_⟩,?_⟩
  ·have h1:=lt_of_get e1;have h2:=lt_of_get e2;simp at h1 h2;left;lia
  · have h1:=lt_of_get e2;simp at h1;subst h1;have e1':o= .rol (ns.map D.int):=by simpa using e1.symm
    have e2':b=a:=by simpa using e2.symm
    subst e1' e2';refine⟨ns.map V.int,?_,gN ns⟩;rcases hS with(hS|⟨o,hS⟩)|hS
    · rcases hO b with z|⟨o,xs,z⟩
      ·rw[z]at hS;exact t6 hS
      ·rw[z]at hS;cases hS
    ·exact .inl ⟨o,hS⟩
    ·exact .inr (.inr hS)
  ·rw[e];exact λX9 H' _ _ v rv=>by rw[D5 rv];exact q H'
theorem gY:zK "len" =some (.builtin "len"):=by decide +kernel
theorem MV:zK "isinstance" =some (.builtin "isinstance"):=by decide +kernel
theorem LS:zK "any" =some (.builtin "any"):=by decide +kernel
theorem tS:zK "min" =some (.builtin "min"):=by decide +kernel
theorem kT:zK "max" =some (.builtin "max"):=by decide +kernel
theorem SU:zK "abs" =some (.builtin "abs"):=by decide +kernel
theorem vF:zK "sorted" =some (.builtin "sorted"):=by decide +kernel
theorem uT:zK "tuple" =some (.type "tuple"):=by decide +kernel
theorem PZ:zK "list" =some (.type "list"):=by decide +kernel
theorem mP:zK "int" =some (.type "int"):=by decide +kernel
theorem Cm:zK "str" =some (.type "str"):=by decide +kernel
theorem sZ:zK "dict" =some (.type "dict"):=by decide +kernel
theorem lP:zK "zip" =some (.type "zip"):=by decide +kernel
end DL
namespace DL
open PySem L2
def Wp{α:Type}(m:M α)(G:DH)(Q:α->DH->Prop):Prop:=∃a G',m G=some (.ok a,G')/\Q a G'
section
theorem Wp.mono(h:Wp m G Q)(k:∀a G',Q a G'->Q' a G'):Wp m G Q':=let ⟨a,G',e,q⟩:=h;⟨a,G',e,k a G' q⟩
theorem d8:Wp (pure a) G Q↔Q a G:=by
 constructor
 · rintro⟨b,G',e,q⟩
   cases e
   exact q
 ·exact λq=>⟨a,G,rfl,q⟩
theorem B9:Wp (M.stuck:M α) G Q↔False:=by
 constructor
 ·rintro⟨b,G',e,q⟩;exact t6 e
 ·exact jS
theorem d9:Wp (m >>= f) G Q↔Wp m G λa G1=>Wp (f a) G1 Q:=by
 constructor
 · rintro⟨a,G',e,q⟩;rw[M.bind_eq]at e
   match h:m G,e with
   |some (.ok b,G1),e=>exact⟨b,G1,h,a,G',e,q⟩
 ·rintro⟨b,G1,e,a,G',e',q⟩;exact⟨a,G',by rw[M.bind_ok e];exact e',q⟩
theorem SG(h:m G=some (.ok a,G')):Wp m G Q↔Q a G':=⟨fun⟨b,G2,e,q⟩=>by rw[h]at e;cases e;exact q,λq=>⟨a,G',h,q⟩⟩
theorem n9:Wp (N0 o) G Q↔∃a,o=some a/\Q a G:=by
 rcases o with _|a
 ·
   constructor
   ·rintro⟨_,_,e,_⟩;exact t6 e
   ·rintro⟨_,e,_⟩;exact t6 e
 ·
   constructor
   · rintro⟨_,_,e,q⟩
     cases e
     exact⟨_,rfl,q⟩
   · rintro⟨_,e,q⟩
     cases e
     exact⟨_,_,rfl,q⟩
theorem K4{Q:DO->DH->Prop}:Wp (J5 r) G Q↔∃o,G[r]? =some o/\Q o G:=by
 constructor
 · rintro⟨a,G',e,q⟩;delta J5 at e;rcases h:G[r]? with _|o
   ·rw[h]at e;exact t6 e
   ·rw[h]at e;cases e;exact⟨_,rfl,q⟩
 ·rintro⟨o,e,q⟩;refine⟨o,G,?_,q⟩;delta J5;rw[e]
theorem R0{Q:DPP}:Wp (J4 o) G Q↔Q (.ref G.length) (G++[o]):=SG rfl
theorem HG{Q:Unit->DH->Prop}:Wp (w4 r o) G Q↔Q () (G.set r o):=SG rfl
end
section
theorem L5:Wp (M4 i σ) G Q↔∃d,σ[i]? =some (some d)/\Q d G:=by
 constructor
 · rintro⟨d,G',e,q⟩;delta M4 at e;rcases h:σ[i]? with _|o
   ·rw[h]at e;exact t6 e
   ·
     rw[h]at e;rcases o with _|d'
     ·exact t6 e
     ·cases e;exact⟨_,rfl,q⟩
 ·rintro⟨d,h,q⟩;exact⟨d,G,by delta M4;rw[h],q⟩
theorem C5:Wp (cE d σ) G Q↔Q d G:=d8
theorem D6:Wp (j6 o a b σ) G Q↔Wp (a σ) G λx G1=>Wp (b σ) G1 λy G2=>Wp (o x y) G2 Q:=by unfold j6;simp only[d9]
theorem mM:Wp (unE o a σ) G Q↔Wp (a σ) G λx G1=>Wp (o x) G1 Q:=by unfold unE;simp only[d9]
theorem A6:Wp (if k=true then m else n) G R↔if k=true then Wp m G R else Wp n G R:=by cases k<;>exact Iff.rfl
theorem iI:Wp (lC d) G B↔∃k,d= .bl k/\B k G:=by
 constructor
 · rintro⟨k,G',e,q⟩;rcases d with _|b|_|_|_|_|_|_<;>try (cases e;done)
   ·cases e;exact⟨_,rfl,q⟩
 ·rintro⟨k,e,q⟩;subst e;exact⟨k,G,rfl,q⟩
theorem vA:Wp (ifE t a b σ) G Q↔Wp (t σ) G λk G1=>if k=true then Wp (a σ) G1 Q else Wp (b σ) G1 Q:=by unfold ifE;simp only[d9,A6]
theorem AB:Wp (n4 a σ) G B↔Wp (a σ) G λx G1=>∃k,x= .bl k/\B k G1:=by unfold n4;simp only[d9,iI]
theorem a9:Wp (truthE a σ) G B↔Wp (a σ) G λx G1=>Wp (T6 x) G1 B:=by unfold truthE;simp only[d9]
theorem qF:Wp (Q1 t u σ) G B↔Wp (t σ) G λk G1=>if k=true then Wp (u σ) G1 B else B false G1:=by unfold Q1;simp only[d9,A6,d8]
theorem fY:Wp (orT t u σ) G B↔Wp (t σ) G λk G1=>if k=true then B true G1 else Wp (u σ) G1 B:=by unfold orT;simp only[d9,A6,d8]
theorem L6:Wp (B5 t σ) G B↔Wp (t σ) G λk G1=>B (!k) G1:=by unfold B5;simp only[d9,d8]
theorem w5:Wp (o0 σ) G R↔R [] G:=d8
theorem F7:Wp (x0 a fs σ) G R↔Wp (a σ) G λx G1=>Wp (fs σ) G1 λxs G2=>R (x::xs) G2:=by unfold x0;simp only[d9,d8]
theorem gA:Wp (C1 F fs σ) G Q↔Wp (fs σ) G λds G1=>Wp (F ds) G1 Q:=by unfold C1;simp only[d9]
theorem vD{α:Type}{m:M α}{R:α->DH->Prop}:Wp (noX m) G R↔Wp m G R:=by
 constructor
 · rintro⟨x,G',e,q⟩;delta noX at e;rcases h:m G with _|p
   ·rw[h]at e;exact t6 e
   ·
     rw[h]at e;obtain⟨_|y,G1⟩:=p
     ·exact t6 e
     ·cases e;exact⟨_,_,h,q⟩
 ·rintro⟨x,G',e,q⟩;exact⟨x,G',by delta noX;rw[e],q⟩
theorem N4:Wp (fnX n F ds) G Q↔ds.length=n/\Wp (F ds) G Q:=by
 unfold fnX;by_cases h:ds.length=n
 ·rw[if_pos h,vD];exact⟨λq=>⟨h,q⟩,λq=>q.2⟩
 ·rw[if_neg h];exact⟨λq=>(B9.mp q).elim,λq=>(h q.1).elim⟩
theorem D4:Wp (F3 fs σ) G Q↔Wp (fs σ) G λxs G1=>xs.length<=zi/\Q (.tup xs) G1:=by
 unfold F3;simp only[d9];constructor
 · rintro⟨xs,G1,e,q⟩;refine⟨xs,G1,e,?_⟩;by_cases h:xs.length<=zi
   ·rw[if_pos h]at q;exact⟨h,d8.mp q⟩
   ·rw[if_neg h]at q;exact(B9.mp q).elim
 ·rintro⟨xs,G1,e,h,q⟩;exact⟨xs,G1,e,by dsimp only;rw[if_pos h];exact d8.mpr q⟩
theorem WG:Wp (U9 fs σ) G Q↔Wp (fs σ) G λxs G1=>xs.length<=zi/\Q (.ref G1.length) (G1++[.lst xs]):=by
 unfold U9;simp only[d9];constructor
 · rintro⟨xs,G1,e,q⟩;refine⟨xs,G1,e,?_⟩;by_cases h:xs.length<=zi
   ·rw[if_pos h]at q;exact⟨h,R0.mp q⟩
   ·rw[if_neg h]at q;exact(B9.mp q).elim
 ·rintro⟨xs,G1,e,h,q⟩;exact⟨xs,G1,e,by dsimp only;rw[if_pos h];exact R0.mpr q⟩
theorem u5:Wp (nextS σ) G P↔P (.nx σ) G:=d8
theorem f9:Wp (seqS f g σ) G P↔Wp (f σ) G λfl G1=>match fl with
 | .nx X1=>Wp (g X1) G1 P
 |r=>P r G1:=by
 delta seqS;refine Iff.trans d9 ?_;constructor
 · rintro⟨fl,G1,e,q⟩;refine⟨fl,G1,e,?_⟩
   cases fl<;>first
    |exact q
    |exact d8.mp q
 · rintro⟨fl,G1,e,q⟩;refine⟨fl,G1,e,?_⟩
   cases fl<;>first
    |exact q
    |exact d8.mpr q
theorem MC:Wp (o8 a σ) G P↔Wp (a σ) G λd G1=>P (.rt d) G1:=by unfold o8;simp only[d9,d8]
theorem QA:Wp (i3 a σ) G P↔Wp (a σ) G λ_ G1=>P (.nx σ) G1:=by unfold i3;simp only[d9,d8]
theorem vH:Wp (ifS t f g σ) G P↔Wp (t σ) G λk G1=>if k=true then Wp (f σ) G1 P else Wp (g σ) G1 P:=by unfold ifS;simp only[d9,A6]
theorem l7:Wp (G9 a gg σ) G P↔Wp (a σ) G λd G1=>Wp (gg d σ) G1 λX1 G2=>P (.nx X1) G2:=by unfold G9;simp only[d9,d8]
theorem O6:Wp (B1 i d σ) G S↔S (σ.set i (some d)) G:=d8
theorem VE:Wp (m8 m f ds) G Q↔Wp (f (ds.map some++jV (m-ds.length) none)) G λfl G1=>match fl with
 | .nx _=>Q .non G1
 | .rt d=>Q d G1
 |_=>False:=by
 delta m8;refine Iff.trans d9 ?_;constructor
 · rintro⟨fl,G1,e,q⟩;refine⟨fl,G1,e,?_⟩
   cases fl<;>first
    |exact d8.mp q
    |exact B9.mp q
 · rintro⟨fl,G1,e,q⟩;refine⟨fl,G1,e,?_⟩
   cases fl<;>first
    |exact d8.mpr q
    |exact B9.mpr q
def eR(o:Option Bool)(g:Bool->Bool)(G:DH):Option (Except Str D×DH):=match o with
 |some b=>some (.ok (.bl (g b)),G)
 |none=>none
theorem tH{g:Bool->Bool}(h:m G=eR o g G):Wp m G Q↔∃k,o=some k/\Q (.bl (g k)) G:=by
 unfold Wp;rw[h];rcases o with _|k
 ·
   constructor
   ·rintro⟨_,_,e,_⟩;exact t6 e
   ·rintro⟨_,e,_⟩;exact t6 e
 ·
   constructor
   · rintro⟨_,_,e,q⟩
     cases e
     exact⟨_,rfl,q⟩
   · rintro⟨_,e,q⟩
     cases e
     exact⟨_,_,rfl,q⟩
theorem CA:Wp (eqD x y) G Q↔∃k,eqN 40 G x y=some k/\Q (.bl k) G:=tH rfl
theorem pG:Wp (neD x y) G Q↔∃k,eqN 40 G x y=some k/\Q (.bl (!k)) G:=tH rfl
theorem sX:Wp (ltD x y) G Q↔∃k,ltN 40 G x y=some k/\Q (.bl k) G:=tH rfl
end
end DL
namespace DL
open PySem PySem.Spec L2
open PyProof.Rows hiding St
section
theorem LP(hc:X.calm=true)(hi:DI X Z tg iter it)(k:U6 X scope N caps)
 (hg:∀C s H ex,DG (K3 X scope N C s H ex) ZF tg gg) (ht:∀C s H ex,DTs (K3 X scope N C s H ex) ZF ifs tt) (he:∀C s H ex,DE (K3 X scope N C s H ex) ZF elt fe)
 (hs:∀x,yg iter X.env x=pure x) (hgo:DG X Z (.Name y py) g2) (hsw:Jh (.ListComp elt [⟨tg,iter,ifs,0⟩] scope pos) (some (.Name y py)) spos.line X.env=pure true):
 DS X Z (.Assign [.Name y py] (.ListComp elt [⟨tg,iter,ifs,0⟩] scope pos) spos) (G9 (N6 it caps gg tt fe) g2):=by
 refine⟨?_⟩;intro pins s σ H En I Fm;refine Fm.elim λX2 μ G sr hr p0=>?_;obtain⟨Q,hQ,p⟩:∃Q:VK,(∀v H',Q v H'->bA (wc X) Z g2 v σ H' En.nx)/\c7 (wc X) Z μ H (N6 it caps gg tt fe X2 G) λd X9 _ H'=>∀v,d7 (wc X) X9 H' d v->Q v H':=
  ⟨λv H'=>bA (wc X) Z g2 v σ H' En.nx,λ_ _ z=>z,(c7.bind p0).mono λd X0 G1 H1 x' h1 p1 v rv=>⟨d,X2,X0,G1,rv,sr.mono x',h1,(c7.bind p1).mono λdσ2 WY G2 H2 x2 h2 p2 σ2 s2=>c7.ok p2 h2 σ2 s2⟩⟩
 rw[exec_Assign_Name_used _ _ _ _ hsw];refine za (xV (za ?_));show zp _ X.A (do let _ <-comprehension (.ListComp elt [⟨tg,iter,ifs,0⟩] scope pos) scope X.env _ (newList []) false (eval iter X.env) (some (Zn (.Name y py) X.env))) _ _ s;refine za (jf (PL hc hi k hg ht he hs I sr hr p λDD C s4 H' m o hn fin hCn hf q9=>?_) (λ_ s' hq=>zl (zl hq)) λ_ _ e=>e);have fC:∀ {H9:Hp},H9 C=none->∀b∈ [C],W0 X pins H9 b:=λ{H9} hn9 b hb=>by rw[zA]at hb;subst hb;exact hf H9 hn9
 obtain⟨oC,zC1,zC2,hoC,zC3⟩:=id hn;have I5:=(fin s4.heap ⟨rfl,λ_ _=>rfl⟩).pinned (fC hCn) (λb hb=>by rw[zA]at hb;subst hb;exact⟨oC,hoC,λv z=>by first|(rw[zC3.1]at z;cases z)|(rw[zC3.2.1]at z;cases z)⟩)
 refine thn (hgo.h _ s4 σ H' (.ref DD) (.ref DD) _ I5 rfl (hQ _ _ q9)) λ_ s5 ⟨σ5,H5,I6,q6⟩=>?_;obtain⟨g5,g5n,_⟩:=I6.pin (C,oC) (zC _ (zC _ (R8 (by simp) hoC)));refine⟨m,hn.at' (λo e=>by rw[hoC]at e;cases e;exact g5),λh'' sb=>⟨σ5,H5,wF I6.unpinned (fC g5n) λb o hb e=>(sb.2 b (by simpa using hb)).trans e,q6⟩⟩
end
def i8:List D->Option (List Str)
 |[]=>some []
 | .str x::r=>(i8 r).map (x :: ·)
 |_=>none
def D7:List (Key×D)->Option (List Str)
 |[]=>some []
 |(.inr x,_)::r=>(D7 r).map (x :: ·)
 |_=>none
section
end
section
theorem nM:∀ {l} {ss},D7 l=some ss->ss.length=l.length
 |[],_,e=>by cases e;rfl
 |(.inr x,_)::r,ss,e=>by
  replace e:=show (D7 r).map (_ :: ·)=some _ from e;rcases h:D7 r with _|t
  ·rw[h]at e;cases e
  ·rw[h]at e;cases e;simp[nM h]
 |(.inl _,_)::_,_,e=>by cases e
theorem qN{w:zR}:∀ {l} {ss:List Str} {Fk} {xs} {vs},D7 l=some ss->Q6 c μ H l Fk->KV Fk xs->vs.length=xs.length->
 (∀(j:Nat) (v:zd),vs[j]? =some v->∃k x,xs[j]? =some (k,x)/\(v7 P w).is k v=true)->StrsAre vs ss
 |[],_,_,xs,vs,e,r,kv,hl,hv=>by
   cases e;cases r;cases kv
   rcases vs with _|⟨_,_⟩
   ·exact .nil
   ·simp at hl
 |(.inr x,d)::t,ss,Fk,xs,vs,e,r,kv,hl,hv=>by
  replace e:=show (D7 t).map (_ :: ·)=some _ from e;rcases h:D7 t with _|q
  ·rw[h]at e;cases e
  ·
    rw[h]at e
    cases e
    obtain⟨v0,tl,rfl,r0,rt⟩:=r
    cases kv with
    |cons hk ht=>
      cases vs with
      |nil=>simp at hl
      |cons u us=>
        obtain⟨k,y,e1,e2⟩:=hv 0 u rfl;simp only[zL,ja]at e1;have hk1:(Sum.inr x:Key)=_:=hk.1;rw[e1]at hk1;have e3:y8 (.inr x) u=true:=by rw[hk1];exact e2
        rcases J0 e3 with⟨_,_,z,_⟩|⟨x',t',z,eu⟩
        ·cases z
        · cases z
          subst eu;exact .cons _ _ (qN h rt ht (by simpa using hl) λj v hj=>by simpa using hv (j+1) v (by simpa using hj))
 |(.inl _,_)::_,_,_,_,_,e,_,_,_,_=>by cases e
theorem aI:∀ {out} {ss},StrsAre out ss->∃vs,vs=ss.map V.str/\j7 vs out/\g8 c μ H (ss.map D.str) vs
 |_,_,.nil=>⟨[],rfl,.nil,rfl⟩
 |_,_,.cons x t q=>by obtain⟨vs,e,h1,h2⟩:=aI q;subst e;exact⟨_,rfl,.cons ⟨t,rfl⟩ h1,_,_,rfl,by unfold d7;rfl,h2⟩
end
def Its(z:Str):It:=⟨λi _=>∃c,z.cps[i]? =some c,λi H x H'=>H'=H/\∃c,z.cps[i]? =some c/\x= .str ⟨#[c]⟩,λi _=>z.cps[i]? =none⟩
theorem HR{K:ze}(z:Str)(t:Tok)(it:Addr):c5 P w K tg (Its z) [it] it (λi h=>h.IsStrIter it "str_ascii_iterator" z t i) where
 mem:=by simp
 obj:=λi h st b hb=>by
  have e:b=it:=by simpa using hb
  subst e;obtain⟨o,e,c,d⟩:=st;exact⟨o,e,λv z=>by rw[d]at z;cases z⟩
 keep:=λi h h' st k=>let ⟨o,ho,r⟩:=st;⟨o,k it (by simp) o ho,r⟩
 item:=by intro X hP hw hK hc i pins s σ H E I hf st hg;subst hP hw hK;obtain⟨c,hx⟩:=hg;obtain⟨f0,f1,f2,f3,f4,f5⟩:=hf it (by simp);refine wpAny_pyNext_ascii_item st hx λh' Fx sb=>?_;have I1:Inv X pins σ H {s with heap:=h',toks:=s.toks+1}:=I.turned (λb o hb e=>(sb.2 b hb).trans e) f0 f1 f3 f4 f5;obtain⟨o,e,cc,d⟩:=id Fx;exact⟨_,rfl,MA e cc d (by decide) ⟨.str ⟨#[c]⟩,H,I1,⟨_,rfl⟩,⟨rfl,c,hx,rfl⟩,Fx,λb hb=>(hf b hb).1⟩⟩
 done:=by intro X hP hw hK hc i pins s σ H E I hf st hg;subst hP hw hK;obtain⟨f0,f1,f2,f3,f4,f5⟩:=hf it (by simp);exact wpAny_pyNext_ascii_end (I.ok.hd hc) st hg λh' eb=>⟨rfl,I.turned (λb o hb e=>eb b o hb e) f0 f1 f3 f4 f5⟩
 self:=λ_ _ _ _ _ st h=>wpAny_pyIter_striter_ascii st h
theorem iX{K:ze}(z:Str)(t:Tok)(it:Addr):c5 P w K tg (Its z) [it] it (λi h=>h.IsStrIter it "str_iterator" z t i) where
 mem:=by simp
 obj:=λi h st b hb=>by
  have e:b=it:=by simpa using hb
  subst e;obtain⟨o,e,c,d⟩:=st;exact⟨o,e,λv z=>by rw[d]at z;cases z⟩
 keep:=λi h h' st k=>let ⟨o,ho,r⟩:=st;⟨o,k it (by simp) o ho,r⟩
 item:=by intro X hP hw hK hc i pins s σ H E I hf st hg;subst hP hw hK;obtain⟨c,hx⟩:=hg;obtain⟨f0,f1,f2,f3,f4,f5⟩:=hf it (by simp);refine wpAny_pyNext_wide_item st hx λh' Fx sb=>?_;have I1:Inv X pins σ H {s with heap:=h',toks:=s.toks+1}:=I.turned (λb o hb e=>(sb.2 b hb).trans e) f0 f1 f3 f4 f5;obtain⟨o,e,cc,d⟩:=id Fx;exact⟨_,rfl,MA e cc d (by decide) ⟨.str ⟨#[c]⟩,H,I1,⟨_,rfl⟩,⟨rfl,c,hx,rfl⟩,Fx,λb hb=>(hf b hb).1⟩⟩
 done:=by intro X hP hw hK hc i pins s σ H E I hf st hg;subst hP hw hK;obtain⟨f0,f1,f2,f3,f4,f5⟩:=hf it (by simp);exact wpAny_pyNext_wide_end (I.ok.hd hc) st hg λh' eb=>⟨rfl,I.turned (λb o hb e=>eb b o hb e) f0 f1 f3 f4 f5⟩
 self:=λ_ _ _ _ _ st h=>wpAny_pyIter_striter_wide st h
section
def eF(z:Str):List D:=z.cps.toList.map λc=>.str ⟨#[c]⟩
def TD:D->M Src:=λx=>match x with
 | .str z=>pure ⟨eF z,λ_=>true⟩
 | .tup l=>D3 (.tup l)
 | .ref r=>D3 (.ref r)
 |_=>M.stuck
end
section
end
theorem VQ{w:zR}{K:ze}{base:Heap}{CX:CXT}{k n:Nat}{f:Addr}(hn:ps.length=n):V1 P w K mg base CX k f fd ps (spD ⟨K,mg⟩ n λ_=>M.stuck):=
 ⟨λvs H Q E h=>by rw[hn];exact h.1,λA outer s H args us vs Q E hr=>by
  intros;rename_i h
  first
   |exact h.2.elim
   |(obtain⟨_,_,_,_,_,_,z⟩:=h;exact z.elim)⟩
end DL
namespace W
open PySem PySem.Spec L2 DL
open PyProof.Rows hiding St
def eB(G:DH)(d:D):Prop:=∃k,L9 G d=some k
theorem st1:([d].map some++jV n none:DSt)[0]? =some (some d):=by rfl
theorem GG{P:Bool->Prop}:(∃k,D.bl b= .bl k/\P k)↔P b:=⟨fun⟨k,e,p⟩=>by cases e;exact p,λp=>⟨b,rfl,p⟩⟩
theorem Q5{P:α->Prop}:(∃k,some b=some k/\P k)↔P b:=⟨fun⟨k,e,p⟩=>by cases e;exact p,λp=>⟨b,rfl,p⟩⟩
def VG:Option Int->D
 |none=>.non
 |some i=>.int i
theorem A9:Wp (gtD (.int i) (.int j)) G Q↔Q (.bl (decide (j<i))) G:=d8
theorem ix_tup:Wp (ixD (.tup l) (.int i)) G Q↔∃d,atI l i=some d/\Q d G:=n9
def bC:Nat->DH->D->Prop
 |0,G,d=>eB G d
 |n+1,G,d=>eB G d/\∀l,d= .tup l->∀x∈l,bC n G x
theorem bC.there(h:bC n G d):eB G d:=by cases n;exact h;exact h.1
theorem O5:Wp (T6 (.bl b)) G B↔B b G:=d8
theorem mI:Wp (S8 [.tup l]) G Q↔Q (.int l.length) G:=d8
theorem P5:Wp (eqD (.int i) (.int j)) G Q↔Q (.bl (decide (i=j))) G:=by
 have e:eqN 40 G (.int i) (.int j)=some (decide (i=j)):=by rfl
 rw[CA,e];exact Q5
theorem j3(h:Wp m G λa G'=>a=x/\G'=G):m G=some (.ok x,G):=by obtain⟨a,G',e,e1,e2⟩:=h;subst e1 e2;exact e
theorem lt_int:Wp (ltD (.int i) (.int j)) G Q↔Q (.bl (decide (i<j))) G:=by
 have e:ltN 40 G (.int i) (.int j)=some (decide (i<j)):=by rfl
 rw[sX,e];exact Q5
theorem x9:Wp (J6 (.int i) (.int j)) G Q↔Q (.int (i+j)) G:=d8
section
theorem EA:Wp (M0 g b ck [] σ) G P↔ck G=true/\P (.nx σ) G:=by
 unfold M0;constructor
 · rintro⟨a,G',e,q⟩;by_cases h:ck G=true
   ·simp only[h,if_true]at e;cases e;exact⟨h,q⟩
   ·simp only[h]at e;exact t6 e
 ·rintro⟨h,q⟩;exact⟨_,G,by simp only[h,if_true],q⟩
theorem Z4:Wp (M0 g b ck (d::r) σ) G P↔ck G=true/\Wp (g d σ) G λWV G1=>Wp (b WV) G1 λfl G2=>match fl with
 | .nx X1=>Wp (M0 g b ck r X1) G2 P
 | .ct X1=>Wp (M0 g b ck r X1) G2 P
 | .bk X1=>P (.nx X1) G2
 | .rt d=>P (.rt d) G2:=by
 have e:Wp (M0 g b ck (d::r) σ) G P↔ck G=true/\Wp (do
  match <-b (<-g d σ) with
  | .nx X1=>M0 g b ck r X1
  | .ct X1=>M0 g b ck r X1
  | .bk X1=>pure (.nx X1)
  | .rt d=>pure (.rt d):M Fl) G P:=by
  rw[M0];constructor
  · rintro⟨a,G',e,q⟩;by_cases h:ck G=true
    ·simp only[h,if_true]at e;exact⟨h,a,G',e,q⟩
    ·simp only[h]at e;exact t6 e
  ·rintro⟨h,a,G',e,q⟩;exact⟨a,G',by simp only[h,if_true];exact e,q⟩
 rw[e];simp only[d9];refine and_congr_right λ_=>?_;constructor
 · rintro⟨WV,G1,e1,fl,G2,e2,q⟩;refine⟨WV,G1,e1,fl,G2,e2,?_⟩
   cases fl<;>first
    |exact q
    |exact d8.mp q
 · rintro⟨WV,G1,e1,fl,G2,e2,q⟩;refine⟨WV,G1,e1,fl,G2,e2,?_⟩
   cases fl<;>first
    |exact q
    |exact d8.mpr q
theorem C8:Wp (A3 it g b σ) G P↔Wp (it σ) G λs G1=>Wp (M0 g b s.ck s.items σ) G1 P:=by unfold A3;simp only[d9]
end
theorem OB:Wp (E6 (.int i) (.int j)) G Q↔Q (.int (i-j)) G:=d8
theorem atI_nat{k:Nat}(h:l[k]? =some s):atI l (k:Int)=some s:=by
 have hk:k<l.length:=by
  by_cases hk:k<l.length
  ·exact hk
  ·rw[zM (by omega)]at h;exact t6 h
 unfold atI ixN;rw[if_pos (by omega),if_pos (by omega)];simpa using h
section
theorem R5(h:0<j):Wp (B2 (.int i) (.int j)) G Q↔Q (.int (i % j)) G:=by have e:B2 (.int i) (.int j)=if 0<j then pure (.int (i % j))else M.stuck:=rfl;rw[e,if_pos h];exact d8
theorem fB(h:0<j/\j<2 ^ 100):Wp (C7 (.int i) (.int j)) G Q↔Q (.int (i / j)) G:=by have e:C7 (.int i) (.int j)=if OA i j then pure (.int (i / j))else M.stuck:=rfl;rw[e,if_pos (show OA i j from h)];exact d8
theorem Q3(h:j5 i j):Wp (L1 (.int i) (.int j)) G Q↔Q (.int (i*j)) G:=by have e:L1 (.int i) (.int j)=if j5 i j then pure (.int (i*j))else M.stuck:=rfl;rw[e,if_pos h];exact d8
theorem QD{l:List D}(h:G[r]? =some (.lst l)):Wp (ixD (.ref r) (.int i)) G Q↔∃d,atI l i=some d/\Q d G:=by
 have e:ixD (.ref r) (.int i)= (do
  let l <-J5 r >>= DL.listOf
  N0 (atI l i)):=rfl
 rw[e];simp only[d9,K4,h,Q5,DL.listOf,d8,n9]
theorem GS{d:D}{R:Unit->DH->Prop}(h:G[r]? =some (.lst l))(hj:ixN l.length k=some j):Wp (cB (.ref r) (.int k) d) G R↔R () (G.set r (.lst (l.set j d))):=by unfold cB;simp only[d9,K4,h,Q5,hj,HG]
theorem KR:Wp (uA fo fi d σ) G S↔Wp (fo σ) G λo G1=>Wp (fi σ) G1 λi G2=>Wp (cB o i d) G2 λ_ G3=>S σ G3:=by unfold uA;simp only[d9,d8]
end
def i4(G:DH)(r:Nat):Prop:=∃a b c e:Int,G[r]? =some (.lst [.int a,.int b,.int c,.int e])/\0<=b/\b<2 ^ 40
def Fr(r:Nat)(G G':DH):Prop:=G.length<=G'.length/\(∀i,i≠r->i<G.length->G'[i]? =G[i]?)/\i4 G' r
theorem i4.lt(h:i4 G r):r<G.length:=by
 obtain⟨a,b,c,e,hr,_⟩:=h;by_cases hi:r<G.length
 ·exact hi
 ·rw[zM (by omega)]at hr;exact t6 hr
theorem i4.app(h:i4 G r):i4 (G++t) r:=by have hl:=h.lt;obtain⟨a,b,c,e,hr,hb⟩:=h;exact⟨a,b,c,e,by rw[zt hl];exact hr,hb⟩
theorem Fr.refl(h:i4 G r):Fr r G G:=⟨zh _,λ_ _ _=>rfl,h⟩
theorem Fr.trans(h:Fr r G G1)(k:Fr r G1 G2):Fr r G G2:=
 ⟨zP h.1 k.1,λi hi hl=>by rw[k.2.1 i hi (by have:=h.1;omega),h.2.1 i hi hl],k.2.2⟩
theorem Fr.app(h:i4 G r):Fr r G (G++t):=⟨by simp,λi _ hl=>zt hl,h.app⟩
theorem Fr.set(h:i4 (G.set r o) r):Fr r G (G.set r o):=⟨by simp,λi hi hl=>by rw[zY (Ne.symm hi)],h⟩
theorem mD(h:y4 i j):Wp (T2 (.int i) (.int j)) G Q↔Q (.int (i ^ j.toNat)) G:=by have e:T2 (.int i) (.int j)=if y4 i j then pure (.int (i ^ j.toNat))else M.stuck:=rfl;rw[e,if_pos h];exact d8
theorem p18:Wp (T2 (.int 10) (.int 18)) G Q↔Q (.int 1000000000000000000) G:=by rw[mD (by decide)];exact Iff.rfl
theorem aK:Wp (A2 (.int i)) G Q↔Q (.int (-i)) G:=d8
theorem kq{l:List D}{k:Int}(h0:0<=k)(h1:k<l.length):∃d,d∈l/\atI l k=some d:=by
 obtain⟨n,rfl⟩:=Int.eq_ofNat_of_zero_le h0;have hn:n<l.length:=by omega
 exact⟨l[n],List.getElem_mem hn,atI_nat (zq hn)⟩
theorem sz{l:List D}(h:Nat.ble l.length 100=true:=by rfl):l.length<=zi:=zP (XQ h) (by decide)
theorem Fr.lt(h:Fr r G G'):r<G'.length:=h.2.2.lt
theorem Fr.at(h:Fr r G G')(hp:p≠r)(e:G[p]? =some o):G'[p]? =some o:=by
 have hl:p<G.length:=by
  by_cases hi:p<G.length
  ·exact hi
  ·rw[zM (by omega)]at e;exact t6 e
 rw[h.2.1 p hp hl];exact e
theorem wY{G t:DH}:(G++t)[G.length+k]? =t[k]? :=by rw[jy (by omega)];congr 1;omega
theorem BK{G t:DH}:(G++t)[G.length]? =t[0]? :=wY (k:=0)
section
theorem VI:Wp (B8 [.int i,.int j]) G Q↔Q (.int (if j<i then j else i)) G:=d8
theorem B4:Wp (mtE t m fo fs σ) G Q↔Wp (fo σ) G λx G1=>Wp (t x) G1 λ_ G2=>Wp (fs σ) G2 λxs G3=>Wp (m x xs) G3 Q:=by unfold mtE;simp only[d9]
theorem U4(h:G[r]? =some (.lst l)):Wp (K1 (.ref r)) G R↔R () G:=by delta K1;exact d9.trans ((K4.trans (by rw[h];exact Q5)).trans d8)
theorem dC{l:List D}(h:G[r]? =some (.lst l))(hl:l.length<zi):Wp (K7 (.ref r) [y]) G Q↔Q .non (G.set r (.lst (l++[y]))):=by
 have e:K7 (.ref r) [y]= (do
  let l <-lstM r
  if l.length<zi then do
   let _ <-w4 r (.lst (l++[y]))
   pure .non
  else M.stuck):=rfl
 rw[e];unfold lstM;simp only[d9,K4,h,Q5,d8,hl,if_true,HG]
theorem EC{l:List D}(h:G[r]? =some (.lst l)):Wp (S3 [.ref r]) G Q↔Q (.tup l) G:=by
 have e:S3 [.ref r]= (do
  let l <-J5 r >>= DL.listOf
  pure (.tup l)):=rfl
 rw[e];simp only[d9,K4,h,Q5,DL.listOf,d8]
theorem ww:Wp (c8 [.tup l]) G Q↔Q (.ref G.length) (G++[.lst l]):=R0
theorem KJ:Wp (L7 fs σ) G R↔Wp (fs σ) G λxs G1=>Wp (match xs with
 |[.int j]=>if -(2 ^ 62)<=j/\j<2 ^ 62 then pure ⟨V3 0 j.toNat,λ_=>true⟩else M.stuck
 |_=>M.stuck:M Src) G1 R:=by
 delta L7;exact d9
theorem AM(h: -(2 ^ 62)<=j/\j<2 ^ 62):Wp (match [D.int j] with
 |[.int j]=>if -(2 ^ 62)<=j/\j<2 ^ 62 then pure ⟨V3 0 j.toNat,λ_=>true⟩else M.stuck
 |_=>M.stuck:M Src) G R↔R ⟨V3 0 j.toNat,λ_=>true⟩ G:=by
 show Wp (if -(2 ^ 62)<=j/\j<2 ^ 62 then pure ⟨V3 0 j.toNat,λ_=>true⟩else M.stuck:M Src) G R↔_;rw[if_pos h];exact d8
theorem QE{a b:List D}(ha:G[i]? =some (.lst a))(hb:G[j]? =some (.lst b))(hl:a.length+b.length<=zi):Wp (J6 (.ref i) (.ref j)) G Q↔Q (.ref G.length) (G++[.lst (a++b)]):=by
 have e:J6 (.ref i) (.ref j)= (do
  match <-J5 i,<-J5 j with
  | .lst a,.lst b=>if a.length+b.length<=zi then J4 (.lst (a++b))else M.stuck
  |_,_=>M.stuck):=rfl
 rw[e];simp only[d9,K4,ha,hb,Q5,if_pos hl,R0]
theorem UY(hl:a.length+b.length<=zi):Wp (J6 (.tup a) (.tup b)) G Q↔Q (.tup (a++b)) G:=by have e:J6 (.tup a) (.tup b)=if a.length+b.length<=zi then pure (.tup (a++b))else M.stuck:=rfl;rw[e,if_pos hl];exact d8
theorem BL:Wp (X4 σ) G R↔R none G:=d8
theorem vI:Wp (O2 f σ) G R↔Wp (f σ) G λx G1=>∃i,x= .int i/\R (some i) G1:=by
 delta O2;refine Iff.trans d9 ?_;constructor
 · rintro⟨x,G1,e,q⟩;refine⟨x,G1,e,?_⟩;rcases x with _|_|i|_|_|_|_|_<;>try (exact(B9.mp q).elim;done)
   ·exact⟨i,rfl,d8.mp q⟩
 ·rintro⟨x,G1,e,i,rfl,q⟩;exact⟨_,G1,e,d8.mpr q⟩
theorem sl_tup{lo hi:Option Int}:Wp (slD (.tup l) lo hi) G Q↔Q (.tup (DL.cutD l lo hi)) G:=d8
theorem NP{P:Int->Prop}:(∃k,D.int i= .int k/\P k)↔P i:=⟨fun⟨k,e,p⟩=>by cases e;exact p,λp=>⟨i,rfl,p⟩⟩
end
def qA(d:D):Prop:=∃x y:Option Int,d= .tup [VG x,VG y]
def Fr2(r p:Nat)(G G':DH):Prop:=G.length<=G'.length/\(∀i,i≠r->i≠p->i<G.length->G'[i]? =G[i]?)/\i4 G' r
theorem Fr2.trans(h:Fr2 r p G G1)(k:Fr2 r p G1 G2):Fr2 r p G G2:=
 ⟨zP h.1 k.1,λi hi hp hl=>by rw[k.2.1 i hi hp (by have:=h.1;omega),h.2.1 i hi hp hl],k.2.2⟩
theorem Fr.two(h:Fr r G G1):Fr2 r p G G1:=⟨h.1,λi hi _ hl=>h.2.1 i hi hl,h.2.2⟩
theorem Fr2.set(hp:p≠r)(h:i4 G r):Fr2 r p G (G.set p o):=by refine⟨by simp,λi _ hi hl=>by rw[zY (Ne.symm hi)],?_⟩;obtain⟨a,b,c,e,hr,hb⟩:=h;exact⟨a,b,c,e,by rw[zY hp];exact hr,hb⟩
theorem qA.set{xs:List D}(h:∀d∈xs,qA d)(hd:qA d):∀x∈xs.set j d,qA x:=λx hx=>by
 rcases List.mem_or_eq_of_mem_set hx with hx|rfl
 ·exact h x hx
 ·exact hd
theorem j9{G:DH}:(G++[o])[G.length]? =some o:=BK
theorem v9{G t:DH}{p:Nat}(e:G[p]? =some o):(G++t)[p]? =some o:=by
 have Gd:p<G.length:=by
  by_cases hi:p<G.length
  ·exact hi
  ·rw[zM (by omega)]at e;exact t6 e
 rw[zt Gd];exact e
def okD:D->Bool
 | .non=>true
 | .bl _=>true
 | .int _=>true
 | .str _=>true
 | .tup _=>true
 |_=>false
theorem MN(x:Option Int):okD (VG x)=true:=by cases x<;>rfl
theorem Dq(h:okD d=true):eB G d:=by
 cases d<;>first|exact⟨_,rfl⟩|exact mE h
theorem UT(h:∀x∈l,okD x=true):bC 1 G (.tup l):=⟨⟨_,rfl⟩,λl' e x hx=>by cases e;exact Dq (h x hx)⟩
theorem qA.there(h:qA d):bC 1 G d:=by
 obtain⟨x,y,rfl⟩:=h;exact UT λz hz=>by simp only[zz,zT,or_false]at hz;rcases hz with rfl|rfl<;>exact MN _
def Gr(G G':DH):Prop:=G.length<=G'.length/\∀i,i<G.length->G'[i]? =G[i]?
theorem Gr.refl:Gr G G:=⟨zh _,λ_ _=>rfl⟩
theorem Gr.trans(h:Gr G G1)(k:Gr G1 G2):Gr G G2:=⟨zP h.1 k.1,λi hi=>by rw[k.2 i (by have:=h.1;omega),h.2 i hi]⟩
theorem Gr.app:Gr G (G++t):=⟨by simp,λi hi=>zt hi⟩
theorem Gr.of(h:Gr G G1)(f:Fr r G1 G2)(hr:G.length<=r):Gr G G2:=⟨zP h.1 f.1,λi hi=>by rw[f.2.1 i (by omega) (by have:=h.1;omega),h.2 i hi]⟩
theorem Gr.at{p:Nat}(h:Gr G G')(e:G[p]? =some o):G'[p]? =some o:=by
 have hl:p<G.length:=by
  by_cases hi:p<G.length
  ·exact hi
  ·rw[zM (by omega)]at e;cases e
 rw[h.2 p hl];exact e
theorem Bg{σ:DSt}{l:List D}{R:Src->DH->Prop}(e:G[p]? =some (.lst l)):Wp (D3 (.ref p)) G R↔R ⟨l,ckO p (.lst l)⟩ G:=by
 have h:D3 (.ref p)= (do
  let o <-J5 p
  let l <-DL.listOf o
  pure ⟨l,ckO p o⟩):=rfl
 rw[h];simp only[d9,K4,e,Q5,DL.listOf,d8]
def ok1:D->Bool
 | .tup l=>l.all okD
 |d=>okD d
def ok2:D->Bool
 | .tup l=>l.all ok1&&decide (l.length<=40)
 |d=>okD d
section
theorem uJ:Wp (WB o o' a b c σ) G Q↔Wp (a σ) G λx G1=>Wp (b σ) G1 λy G2=>Wp (o x y) G2 λz G3=>∃k,z= .bl k/\if k=true then Wp (c σ) G3 λw G4=>Wp (o' y w) G4 Q else Q (.bl false) G3:=by unfold WB;simp only[d9,iI,A6,d8]
theorem aD:Wp (M7 g t e ck [] σ) G R↔ck G=true/\R [] G:=by
 unfold M7;constructor
 · rintro⟨a,G',e,q⟩;by_cases h:ck G=true
   ·simp only[h,if_true]at e;cases e;exact⟨h,q⟩
   ·simp only[h]at e;exact t6 e
 ·rintro⟨h,q⟩;exact⟨_,G,by simp only[h,if_true],q⟩
theorem EJ:Wp (M7 g t e ck (d::r) σ) G R↔ck G=true/\Wp (g d σ) G λWV G1=>Wp (t WV) G1 λb G2=>if b=true then Wp (e WV) G2 λy G3=>Wp (M7 g t e ck r WV) G3 λys G4=>R (y::ys) G4 else Wp (M7 g t e ck r WV) G2 R:=by
 have h0:Wp (M7 g t e ck (d::r) σ) G R↔ck G=true/\Wp (do
  let WV <-g d σ
  if <-t WV then do
   let y <-e WV
   let ys <-M7 g t e ck r WV
   pure (y::ys)
  else M7 g t e ck r WV:M (List D)) G R:=by
  rw[M7];constructor
  · rintro⟨a,G',e,q⟩;by_cases h:ck G=true
    ·simp only[h,if_true]at e;exact⟨h,a,G',e,q⟩
    ·simp only[h]at e;exact t6 e
  ·rintro⟨h,a,G',e,q⟩;exact⟨a,G',by simp only[h,if_true];exact e,q⟩
 rw[h0];simp only[d9,A6,d8]
theorem wp_comp:Wp (N6 it caps g t e σ) G Q↔Wp (it σ) G λs G1=>s.items.length<=zi/\Wp (M7 g t e s.ck s.items (F2 caps σ)) G1 λys G2=>Q (.ref G2.length) (G2++[.lst ys]):=by
 unfold N6;simp only[d9];constructor
 · rintro⟨s,G1,e1,q⟩;refine⟨s,G1,e1,?_⟩;by_cases h:s.items.length<=zi
   ·rw[if_pos h]at q;simp only[d9,vD,R0]at q;exact⟨h,q⟩
   ·rw[if_neg h]at q;exact(B9.mp q).elim
 ·rintro⟨s,G1,e1,h,q⟩;refine⟨s,G1,e1,?_⟩;dsimp only;rw[if_pos h];simp only[d9,vD,R0];exact q
end
section
theorem HQ:Wp (eqD (.str a) (.str b)) G Q↔Q (.bl (a==b)) G:=by
 have e:eqN 40 G (.str a) (.str b)=some (a==b):=by rfl
 rw[CA,e];exact Q5
theorem kb:Wp (neD (.str a) (.str b)) G Q↔Q (.bl (!(a==b))) G:=by
 have e:eqN 40 G (.str a) (.str b)=some (a==b):=by rfl
 rw[pG,e];exact Q5
theorem Cp:Wp (leD (.str a) (.str b)) G Q↔Q (.bl (!decide (b.cps.toList<a.cps.toList))) G:=d8
theorem IQ(h:a.length+b.length<=zi):Wp (J6 (.str a) (.str b)) G Q↔Q (.str (a++b)) G:=by have e:J6 (.str a) (.str b)=if a.length+b.length<=zi then pure (.str (a++b))else M.stuck:=rfl;rw[e,if_pos h];exact d8
theorem SE(h:z.length<=zi):Wp (S8 [.str z]) G Q↔Q (.int z.length) G:=by have e:S8 [.str z]=if z.length<=zi then pure (.int z.length)else M.stuck:=rfl;rw[e,if_pos h];exact d8
theorem EW(e:G[p]? =some (.lst l)):Wp (TD (.ref p)) G R↔R ⟨l,ckO p (.lst l)⟩ G:=Bg (σ:= []) e
end
end W
namespace DL
open PySem PySem.Spec L2
open PyProof.Rows hiding St
section
end
section
end
end DL
namespace DL
open PySem PySem.Spec L2 Builtin Builtin.Str
open PyProof.Rows hiding St
section
variable{X:Cx}{Z:XC}{e:Expr}{fa:Fe}{p2 pos:Pos}{lo hi:Option Expr}{fl fh:Fo}
theorem UM(p:IsPart v o):∃l:Option (Int×Tok),v=partValue l/\l.map (·.1)=o:=by
 cases p with
 |none=>exact⟨none,rfl,rfl⟩
 |int i t=>exact⟨some (i,t),rfl,rfl⟩
theorem TV:SlR X (λx lo hi H Q=>∃z,x= .str z/\z.length<=zi/\Q (.str (xv z lo hi)) H):=by
 intro pins s σ H x v vl vu lo hi sl Q I rx hs pl pu h;obtain⟨z,rfl,hz,q⟩:=h;obtain⟨t,rfl⟩:=rx;obtain⟨l,el,eml⟩:=UM pl;obtain⟨u,eu,emu⟩:=UM pu;subst el eu eml emu;refine⟨"str",_,PySem.F.slot_str_getitem.lookup,Xp _ z t,?_⟩;refine wpAny_getItem_str_slice (st:=none) (let ⟨o,h1,h2,h3⟩:=hs;⟨o,h1,h2,h3⟩) rfl ?_;unfold sliceMade;unfold xv at q;unfold slicePicked;have e1:((Option.map (λx:Int×Tok=>x.1) none).getD 1)= (1:Int):=rfl;simp only[e1];by_cases hc:((1:Int)==1&&(strSliceIndices (l.map (·.1)) (u.map (·.1)) 1 z.length).length==z.length)=true
 ·rw[if_pos hc]at q;rw[if_pos hc];exact⟨.str z,H,I,⟨t,rfl⟩,q⟩
 ·rw[if_neg hc]at q;rw[if_neg hc];refine⟨?_,.str _,H,I.tok _,⟨_,rfl⟩,q⟩;have hle:=Txt.slice_le z (l.map (·.1)) (u.map (·.1));unfold xv at hle;rw[if_neg hc]at hle;exact zP hle hz
def slT:D->Option Int->Option Int->M D:=λx lo hi=>match x with
 | .str z=>if z.length<=zi then pure (.str (xv z lo hi))else M.stuck
 | .tup l=>slD (.tup l) lo hi
 | .ref r=>slD (.ref r) lo hi
 |_=>M.stuck
def X3(f:Fe)(lo hi:Fo):Fe:=λσ=>do
 let x <-f σ
 let l <-lo σ
 let h <-hi σ
 slT x l h
theorem Bd:SlD X Z slT:=SlR.mono (TV.or (fV)) λx lo hi H Q ⟨dx,μ,G,rx,hr,p⟩=>by
 rcases dx with _|_|_|z|l|r|_|_<;>try (exact p.elim;done)
 ·
   unfold slT at p;dsimp only at p;split at p
   ·rename_i hz;exact .inl ⟨z,K0 rx,hz,c7.ok p hr _ (by unfold d7;rfl)⟩
   ·exact p.elim
 ·exact .inr ⟨.tup l,μ,G,rx,hr,p⟩
 ·exact .inr ⟨.ref r,μ,G,rx,hr,p⟩
theorem LN(he:DE X Z e fa)(hl:DOp X Z lo fl)(hu:DOp X Z hi fh):DE X Z (.Subscript e (.Slice lo hi none p2) pos) (X3 fa fl fh):=
 DE.of (dX Bd he.h hl.h hu.h) λσ H Q Fm=>Fm.elim λX2 μ G s h p=>⟨X2,μ,G,s,h,(c7.bind p).mono λd X0 G1 H1 x1 h1 p1 v rv=>
  ⟨X2,X0,G1,s.mono x1,h1,(c7.bind p1).mono λl WY G2 H2 x2 h2 p2=>⟨X2,WY,G2,s.mono (x1.trans x2),h2,(c7.bind p2).mono λu WN G3 H3 x3 h3 p3=>⟨d,WN,G3,rv.mono (x2.trans x3),h3,p3⟩⟩⟩⟩
end
section
end
end DL
namespace W
open PySem PySem.Spec L2 DL Builtin Builtin.Str
open PyProof.Rows hiding St
section
theorem lB{lo hi:Fo}:Wp (X3 f lo hi σ) G Q↔Wp (f σ) G λx G1=>Wp (lo σ) G1 λl G2=>Wp (hi σ) G2 λh G3=>Wp (slT x l h) G3 Q:=by unfold X3;simp only[d9]
theorem HY{lo hi:Option Int}(h:z.length<=zi):Wp (slT (.str z) lo hi) G Q↔Q (.str (xv z lo hi)) G:=by have e:slT (.str z) lo hi=if z.length<=zi then pure (.str (xv z lo hi))else M.stuck:=rfl;rw[e,if_pos h];exact d8
end
end W
namespace DL
open PySem PySem.Spec L2
open PyProof.Rows hiding St
def T0:D->D->M D:=λx y=>match y with
 | .non=>pure (.bl (cF x))
 | .bl c=>match x with
   | .bl d=>pure (.bl (d==c))
   |_=>M.stuck
 |_=>M.stuck
def i6:D->D->M D:=λx y=>match y with
 | .non=>pure (.bl (!cF x))
 | .bl c=>match x with
   | .bl d=>pure (.bl (d != c))
   |_=>M.stuck
 |_=>M.stuck
def GC(a b:Fe):Fe:=λσ=>do
 let x <-a σ
 if <-T6 x then pure x else b σ
def S2(a b:Fe):Fe:=λσ=>do
 let x <-a σ
 if <-T6 x then b σ else pure x
section
theorem oZ:OpR X (zH .Is) (λx y H Q=>(y= .non/\Q (.bl (decide (x= .non))) H)\/∃c d,x= .bl c/\y= .bl d/\Q (.bl (c==d)) H):=by
 intro pins s σ H x y v u Q I rx ry h;rcases h with h|⟨c,d,rfl,rfl,q⟩
 ·exact fU pins s σ H x y v u Q I rx ry h
 · cases rx
   cases ry
   exact is_bool ⟨.bl (c==d),H,I,rfl,q⟩
theorem cZ:OpR X (zH .IsNot) (λx y H Q=>(y= .non/\Q (.bl (!decide (x= .non))) H)\/∃c d,x= .bl c/\y= .bl d/\Q (.bl (c != d)) H):=by
 intro pins s σ H x y v u Q I rx ry h;rcases h with h|⟨c,d,rfl,rfl,q⟩
 ·exact eX pins s σ H x y v u Q I rx ry h
 · cases rx
   cases ry
   exact isnot_bool ⟨.bl (c != d),H,I,rfl,q⟩
theorem bO:OpD X Z (zH .Is) T0:=OpD.of oZ λx y H Q Fm=>Fm.elim λdx dy μ G Gj Gk hr p=>by
 rcases dy with _|d|_|_|_|_|_|_<;>try (exact p.elim;done)
 ·exact .inl ⟨BB Gk,by rw[SJ Gj];exact c7.ok p hr _ ofB⟩
 ·
   rcases dx with _|c|_|_|_|_|_|_<;>try (exact p.elim;done)
   ·exact .inr ⟨c,d,D5 Gj,D5 Gk,c7.ok p hr _ ofB⟩
theorem HS:OpD X Z (zH .IsNot) i6:=OpD.of cZ λx y H Q Fm=>Fm.elim λdx dy μ G Gj Gk hr p=>by
 rcases dy with _|d|_|_|_|_|_|_<;>try (exact p.elim;done)
 ·exact .inl ⟨BB Gk,by rw[SJ Gj];exact c7.ok p hr _ ofB⟩
 ·
   rcases dx with _|c|_|_|_|_|_|_<;>try (exact p.elim;done)
   ·exact .inr ⟨c,d,D5 Gj,D5 Gk,c7.ok p hr _ ofB⟩
theorem IJ{G:DH}{d:D}{v:V}{f:Bool->M α}{K:α->List Addr->DH->Hp->Prop}(h:j8 (wc X) μ G H)(rv:d7 (wc X) μ H d v)(p:c7 (wc X) Z μ H ((T6 d >>= f) G) K):
 ∃k,fH X.K v H k/\c7 (wc X) Z μ H (f k G) K:=by
 have p1:=c7.bind p;rcases d with _|b|b|y|l|r|_|_<;>try (exact p1.elim;done)
 ·rw[BB rv];exact⟨false,rfl,c7.ok p1 h⟩
 ·rw[D5 rv];exact⟨b,rfl,c7.ok p1 h⟩
 ·rw[Q7 rv];exact⟨_,rfl,c7.ok p1 h⟩
 ·
   rw[K0 rv];unfold T6 at p1;dsimp only at p1;split at p1
   ·rename_i hz;exact⟨_,⟨hz,rfl⟩,c7.ok p1 h⟩
   ·exact p1.elim
 ·
   unfold d7 at rv;obtain⟨a,vs,rfl,q,rl⟩:=rv;exact⟨!vs.isEmpty,.inr (.inl ⟨vs,q,rfl⟩),by rw[V2 rl];exact c7.ok p1 h⟩
 ·
   unfold d7 at rv;obtain⟨a,m,rfl⟩:=rv;obtain⟨o,g,p2⟩:=w6 p1;have ro:=h.obj r o a g m;rcases o with l|l|l|l
   ·obtain⟨vs,q,rl⟩:=ro;exact⟨!vs.isEmpty,.inl ⟨vs,SqL.of q,rfl⟩,by rw[V2 rl];exact c7.ok p2 h⟩
   ·obtain⟨vs,q,rl⟩:=ro;exact⟨!vs.isEmpty,.inl ⟨vs,q.sq,rfl⟩,by rw[V2 rl];exact c7.ok p2 h⟩
   ·obtain⟨vs,q,rl⟩:=ro;exact⟨!vs.isEmpty,.inr (.inr ⟨vs,q,rfl⟩),by rw[eL rl];exact c7.ok p2 h⟩
   ·exact p2.elim
theorem vj{rest:List Expr}(ha:DE X Z a fa)(hb:DE X Z (.BoolOp .Or (b::rest) pos) fb):DE X Z (.BoolOp .Or (a::b::rest) pos) (GC fa fb):=by
 refine⟨?_⟩;intro pins s σ H Q I Fm;refine Fm.elim λX2 μ G sr h p=>?_;refine BoolOp_or (thn (ha.h pins s σ H _ I ⟨X2,μ,G,sr,h,(c7.bind p).mono λd X0 G1 H1 x1 h1 p1 v rv=>(⟨d,X0,G1,x1,rv,h1,p1⟩:∃d X0 G1,Ext μ H X0 H1/\d7 (wc X) X0 H1 d v/\j8 (wc X) X0 G1 H1/\c7 (wc X) Z X0 H1 ((T6 d >>= λk=>if k=true then pure d else fb X2) G1) λd X9 _ H'=>∀v,d7 (wc X) X9 H' d v->Q v H')⟩) λv s1 ⟨x,H1,I1,r1,d,X0,G1,x1,rd,h1,p1⟩=>?_);obtain⟨k,tk,p2⟩:=IJ h1 rd p1;refine thn (kF pins s1 σ H1 x v (λc H'=>c=k/\H'=H1) I1 r1 ⟨k,tk,rfl,rfl⟩) λc s2 ⟨H2,I2,e1,e2⟩=>?_;subst e1 e2;rcases c with _|_
 ·exact hb.h pins s2 σ H2 Q I2 ⟨X2,X0,G1,sr.mono x1,h1,p2⟩
 ·exact⟨x,H2,I2,r1,c7.ok p2 h1 _ rd⟩
theorem KW{rest:List Expr}(ha:DE X Z a fa)(hb:DE X Z (.BoolOp .And (b::rest) pos) fb):DE X Z (.BoolOp .And (a::b::rest) pos) (S2 fa fb):=by
 refine⟨?_⟩;intro pins s σ H Q I Fm;refine Fm.elim λX2 μ G sr h p=>?_;refine BoolOp_and (thn (ha.h pins s σ H _ I ⟨X2,μ,G,sr,h,(c7.bind p).mono λd X0 G1 H1 x1 h1 p1 v rv=>(⟨d,X0,G1,x1,rv,h1,p1⟩:∃d X0 G1,Ext μ H X0 H1/\d7 (wc X) X0 H1 d v/\j8 (wc X) X0 G1 H1/\c7 (wc X) Z X0 H1 ((T6 d >>= λk=>if k=true then fb X2 else pure d) G1) λd X9 _ H'=>∀v,d7 (wc X) X9 H' d v->Q v H')⟩) λv s1 ⟨x,H1,I1,r1,d,X0,G1,x1,rd,h1,p1⟩=>?_);obtain⟨k,tk,p2⟩:=IJ h1 rd p1;refine thn (kF pins s1 σ H1 x v (λc H'=>c=k/\H'=H1) I1 r1 ⟨k,tk,rfl,rfl⟩) λc s2 ⟨H2,I2,e1,e2⟩=>?_;subst e1 e2;rcases c with _|_
 ·exact⟨x,H2,I2,r1,c7.ok p2 h1 _ rd⟩
 ·exact hb.h pins s2 σ H2 Q I2 ⟨X2,X0,G1,sr.mono x1,h1,p2⟩
end
end DL
namespace W
open PySem PySem.Spec L2 DL
open PyProof.Rows hiding St
section
theorem QJ:Wp (GC a b σ) G Q↔Wp (a σ) G λx G1=>Wp (T6 x) G1 λk G2=>if k=true then Q x G2 else Wp (b σ) G2 Q:=by unfold GC;simp only[d9,A6,d8]
theorem RJ:Wp (S2 a b σ) G Q↔Wp (a σ) G λx G1=>Wp (T6 x) G1 λk G2=>if k=true then Wp (b σ) G2 Q else Q x G2:=by unfold S2;simp only[d9,A6,d8]
end
end W
namespace DL
open PySem PySem.Spec L2
open PyProof.Rows hiding St
structure W3(F:List D->M D)(n:Nat)(x:Str)(P:zI)(w:zR)(K:ze)(mg:Str->Option zd)(base:Heap)(k:Nat):Prop where
 ex:∃f fd ps,V1 P w K mg base CX0 k f fd ps (spD ⟨K,mg⟩ n F)/\mg x=some (.ref f)/\jN K (.ref f)=true/\v3 K fd ps []
theorem W3.of{P:zI}{w:zR}{K:ze}{base:Heap}{k n:Nat}{x:Str}{st:Stmt}{f:Addr}(c:FF K mg x st ps f fd)(h:V1 P w K mg base CX0 k f fd ps (spD ⟨K,mg⟩ n F)):W3 F n x P w K mg base k:=
 ⟨f,fd,ps,h,c.m,c.F.kp,c.b⟩
def bltL:List Str:= ["len", "isinstance", "all", "any", "sum", "min", "max", "abs", "sorted", "tuple", "list", "int", "str", "bool", "dict", "zip", "enumerate", "range", "reversed", "set"]
structure BLs(mg:Str->Option zd):Prop where
 h:∀b∈bltL,mg b=none
theorem EB:(yA p l).any (·.1)=l.any (·.1):=by unfold yA;rw[List.any_map];rfl
theorem cA:∀ {es},es.all Q0=true->(zF es env).any (·.1)=false
 |[],_=>rfl
 |e::es,h=>by rw[jP,jl]at h;rw[t4 h.1,jO,cA h.2];rfl
section
theorem bW(hN:∃N ps sc,R3 N ps sc/\X.N=N)(hi:X.N[i]? =some x)(hx:Loc X.env.scope x)(hf:X.fn x=true\/X.env.scope.names.lookup x=some .local):DG X Z (.Name x pos) (B1 i):=by obtain⟨N,ps,sc,S,e⟩:=hN;exact fI (by rw[e];exact S.nd) hi hx hf
theorem VR(ha:DE X Z e fa)(hr:DA X Z es fs)(hs:Q0 e=true):DA X Z (e::es) (x0 fa fs):=AF ha hr (t4 hs)
theorem RN(hF:∃k kk,W3 F n x X.prog X.w X.K X.mg X.base k/\K8 kk X.A/\k<=kk)(hg:Gl X x)(ha:DA X Z (e::es) fs)(hdb:(x==("__debug__" :Str))=false)(hs:(e::es).all Q0=true):
 DE X Z (.Call (.Name x p) (e::es) [] pos) (C1 (fnX n F) fs):=by
 obtain⟨k,kk,hF,hr,hk⟩:=hF;obtain⟨f,fd,ps,h1,h2,h3,h4⟩:=hF.ex;rw[jP,jl]at hs;exact OZ h1 (hr.mono hk) hg h2 h3 h4 ha hdb (t4 hs.1) (by rw[EB];exact cA hs.2)
structure BD(F:List D->M D)(x:Str)(X:Cx)(Z:XC):Prop where
 ex:(∃id,K6 X Z (.builtin id) F/\zK x=some (.builtin id))\/(∃T,K6 X Z (.type T) F/\zK x=some (.type T))
theorem uY(hc:X.calm=true)(hF:X.calm=true->BD F x X Z)(hb:BLs X.mg)(hx:bltL.elem x=true)(hg:Gl X x)(ha:DA X Z (e::es) fs)(hn:x≠ "__name__")(hdb:(x==("__debug__" :Str))=false)(hs:(e::es).all Q0=true):
 DE X Z (.Call (.Name x p) (e::es) [] pos) (C1 F fs):=by
 have hm:=hb.h x (List.elem_iff.mp hx);rw[jP,jl]at hs;rcases (hF hc).ex with⟨id,h1,h2⟩|⟨T,h1,h2⟩
 ·exact BT h1 hg hm h2 ha hn hdb (t4 hs.1) (by rw[EB];exact cA hs.2)
 ·exact VS h1 hg hm h2 ha hn hdb (t4 hs.1) (by rw[EB];exact cA hs.2)
theorem bS(_:X.calm=true):BD S8 "len" X Z:=⟨.inl ⟨_,Dv,gY⟩⟩
theorem HN(_:X.calm=true):BD J2 "isinstance" X Z:=⟨.inl ⟨_,FX,MV⟩⟩
theorem KS(h:X.calm=true):BD qH "any" X Z:=⟨.inl ⟨_,SW h,LS⟩⟩
theorem OS(h:X.calm=true):BD B8 "min" X Z:=⟨.inl ⟨_,tR h,tS⟩⟩
theorem FY(h:X.calm=true):BD aA "max" X Z:=⟨.inl ⟨_,QW h,kT⟩⟩
theorem nV(_:X.calm=true):BD P9 "abs" X Z:=⟨.inl ⟨_,fT,SU⟩⟩
theorem QQ(_:X.calm=true):BD S3 "tuple" X Z:=⟨.inr ⟨_,uQ,uT⟩⟩
theorem kj(_:X.calm=true):BD c8 "list" X Z:=⟨.inr ⟨_,qq,PZ⟩⟩
theorem uV:∀n∈ ["int", "bool", "str", "tuple", "list", "dict"],zK (jd n)=some (.type n):=by decide +kernel
theorem vz(hb:BLs X.mg)(hn:n∈ ["int", "bool", "str", "tuple", "list", "dict"])(hx:bltL.elem (jd n)=true)(hg:Gl X (jd n))(hnn:jd n≠ "__name__")(hd:(jd n==("__debug__" :Str))=false):DE X Z (.Name (jd n) pos) (cE (.ty n)):=
 Fc hg (hb.h _ (List.elem_iff.mp hx)) (uV n hn) hnn hd
theorem qg(hb:BLs X.mg)(hg:Gl X "range")(ha:DA X Z [a] fs)(hs:Q0 a=true):DI X Z tg (.Call (.Name "range" p) [a] [] pos) (L7 fs):=gX hg (hb.h _ (by decide +kernel)) ha (bB hs)
theorem pP(hb:BLs X.mg)(hg:Gl X "zip")(ha:DA X Z [a,b] fs)(hs:Q0 a=true)(hs2:Q0 b=true):DI X Z (.Tuple es1 x1 tp) (.Call (.Name "zip" p) [a,b] [] pos) (F5 fs):=tZ hg (hb.h _ (by decide +kernel)) ha (kY hs hs2) (bB hs2) lP
def W8(sc:Scope):List Str:=(sc.names.filterMap λy=>if y.2 == .local&&y.1 != (".0" :Str)then some y.1 else none)++(sc.names.filterMap λy=>if y.2 == .free then some y.1 else none)
theorem rX(hc:X.calm=true)(hi:DI X Z tg iter it)(k:∃XN ps osc,R3 XN ps osc/\X.env.scope=osc/\X.N=XN/\AD osc scope (W8 scope) XN caps=true)(nd:(W8 scope).Nodup)
 (hg:(W8 scope).Nodup->∀C s H ex,DG (K3 X scope (W8 scope) C s H ex) ZF tg gg) (ht:∀C s H ex,DTs (K3 X scope (W8 scope) C s H ex) ZF ifs tt) (he:∀C s H ex,DE (K3 X scope (W8 scope) C s H ex) ZF elt fe)
 (hf:∀x,yg iter X.env x=pure x):DE X Z (.ListComp elt [⟨tg,iter,ifs,0⟩] scope pos) (N6 it caps gg tt fe):=let ⟨_,_,_,_,hs,hN,k⟩:=k;vv hc hi (U6.of k hs hN) (hg nd) ht he hf
theorem Cb(hc:X.calm=true)(hi:DI X Z tg iter it)(k:∃XN ps osc,R3 XN ps osc/\X.env.scope=osc/\X.N=XN/\AD osc scope (W8 scope) XN caps=true)(nd:(W8 scope).Nodup)
 (hg:(W8 scope).Nodup->∀C s H ex,DG (K3 X scope (W8 scope) C s H ex) ZF tg gg) (ht:∀C s H ex,DTs (K3 X scope (W8 scope) C s H ex) ZF ifs tt) (he:∀C s H ex,DE (K3 X scope (W8 scope) C s H ex) ZF elt fe)
 (hf:∀x,yg iter X.env x=pure x) (hgo:DG X Z (.Name y py) g2) (hsw:Jh (.ListComp elt [⟨tg,iter,ifs,0⟩] scope pos) (some (.Name y py)) spos.line X.env=pure true):
 DS X Z (.Assign [.Name y py] (.ListComp elt [⟨tg,iter,ifs,0⟩] scope pos) spos) (G9 (N6 it caps gg tt fe) g2):=let ⟨_,_,_,_,hs,hN,k⟩:=k;LP hc hi (U6.of k hs hN) (hg nd) ht he hf hgo hsw
end
section
end
end DL
namespace W
open PySem PySem.Spec L2 DL
open PyProof.Rows hiding St
section
end
end W
namespace DL
open PySem PySem.Spec L2
open PyProof.Rows hiding St
def Itd(a:Addr)(o:Obj)(Fk:List (Key×V)):It:=
 ⟨λi H=>H a=some (.frz o (.dK Fk))/\∃kv,Fk[i]? =some kv,λi H x H'=>H'=H/\∃kv,Fk[i]? =some kv/\x=kV kv.1,λi H=>H a=some (.frz o (.dK Fk))/\Fk.length<=i⟩
theorem AL:∀ {Fk} {vs} {i:Nat} {kv:κ×V},KV Fk vs->Fk[i]? =some kv->∃v,vs[i]? =some (kv.1,v)
 |_,_,_,_,.nil,e=>by simp at e
 |_,_,0,_,.cons h t,e=>by simp only[zL,ja]at e;subst e;exact⟨_,by rw[zL,h.1]⟩
 |_,_,i+1,_,.cons h t,e=>by simp only[zV]at e ⊢;exact AL t e
theorem PX(h:(v7 P w).is k u=true):o5 (kV k) u:=by
 rcases J0 h with⟨i,t,rfl,rfl⟩|⟨x,t,rfl,rfl⟩
 ·exact⟨t,rfl⟩
 ·exact⟨t,rfl⟩
theorem pK(I:Inv X pins σ H s)(ho:o.data= .dict es ep)(e:H a=some (.frz o (.dK Fk))):
 (a==yO)=false/\∃vs,KV Fk vs/\s.heap.DictAt (v7 X.prog X.w) a vs ep:=by
 obtain⟨hget,hz,hS,vs,r,m⟩:=(show K5 X.prog X.w H s.heap a (.frz o (.dK Fk))from I.hok a _ e);obtain⟨ep',dat⟩:=m.dictAt;have hep:ep'=ep:=by
  obtain⟨o',es',h1,_,h3,_⟩:=id dat;rw[hget]at h1
  cases h1
  rw[ho]at h3
  cases h3
  rfl
 subst hep;exact⟨hS,vs,r,dat⟩
theorem gK{P:zI}{w:zR}{K:ze}{tg:Expr}{a:Addr}{o:Obj}{ep:Nat}(ho:o.data= .dict es ep)(it:Addr):c5 P w K tg (Itd a o Fk) [it] it (λi h=>h.IsKeyIter it a i Fk.length ep) where
 mem:=by simp
 obj:=λi h st b hb=>by
  have e:b=it:=by simpa using hb
  subst e;obtain⟨o,e,c,d⟩:=st;exact⟨o,e,λv z=>by rw[d]at z;cases z⟩
 keep:=λi h h' st k=>let ⟨o,ho,r⟩:=st;⟨o,k it (by simp) o ho,r⟩
 item:=by intro X hP hw hK hc i pins s σ H E I hf st hg;subst hP hw hK;obtain⟨hfr,kv,hx⟩:=hg;obtain⟨f0,f1,f2,f3,f4,f5⟩:=hf it (by simp);obtain⟨hS,vs,rel,dat⟩:=pK I ho hfr;obtain⟨v,hv⟩:=AL rel hx;have Fp:Fk.length=vs.length:=yq rel;rw[Fp]at st;refine wpAny_pyNext_dict_item st dat hv λkey h' hk Fx sb=>?_;have I1:Inv X pins σ H {s with heap:=h'}:=I.turned (λb o hb e=>(sb.2 b hb).trans e) f0 f1 f3 f4 f5;obtain⟨o',e,cc,d⟩:=id Fx;refine⟨_,rfl,MA e cc d (by decide) ⟨kV kv.1,H,I1,PX hk,⟨rfl,kv,hx,rfl⟩,by rw[Fp];exact Fx,λb hb=>(hf b hb).1⟩⟩
 done:=by intro X hP hw hK hc i pins s σ H E I hf st hg;subst hP hw hK;obtain⟨hfr,hi⟩:=hg;obtain⟨f0,f1,f2,f3,f4,f5⟩:=hf it (by simp);obtain⟨hS,vs,rel,dat⟩:=pK I ho hfr;have Fp:Fk.length=vs.length:=yq rel;rw[Fp]at st hi;exact wpAny_pyNext_dict_end (I.ok.hd hc) st dat (zM hi) λh' eb=>⟨rfl,I.turned (λb o hb e=>eb b o hb e) f0 f1 f3 f4 f5⟩
 self:=λ_ _ _ _ _ st h=>wpAny_pyIter_keyiter st h
theorem j8.setR(h:j8 c μ G H)(g:G[i]? =some o)(n:¬y3 (some o))(m:μ[i]? =some a)(k:Ext μ H μ (upd H a u))(ho:C4 c μ (upd H a u) a o'):j8 c μ (G.set i o') (upd H a u):=by
 have hi:i<G.length:=lt_of_get g;have get:∀j,(G.set i o')[j]? =if i=j then some o' else G[j]? :=λj=>by
  rw[ZS];by_cases e:i=j
  ·subst e;simp[hi]
  ·simp[e]
 refine⟨by simp[h.len],λj l b ej el=>?_,λj o2 b gj mj=>?_⟩
 · rcases h.inj j l b ej el with e|e|e
   ·exact .inl e
   · by_cases ij:i=j
     ·subst ij;rw[g]at e;exact(n e).elim
     ·right;left;rw[get,if_neg ij];exact e
   · by_cases ij:i=l
     ·subst ij;rw[g]at e;exact(n e).elim
     ·right;right;rw[get,if_neg ij];exact e
 · rw[get]at gj;by_cases ij:i=j
   · subst ij;rw[if_pos rfl]at gj
     cases gj
     rw[m]at mj
     cases mj
     exact ho
   · rw[if_neg ij]at gj;have q:=h.obj j o2 b gj mj;by_cases hr:y3 (some o2)
     ·exact q.mono k (.inr hr)
     · have nb:b≠a:=λe=>by
        subst e;rcases h.inj i j b m mj with e|e|e
        ·exact ij e
        ·rw[g]at e;exact n e
        ·rw[gj]at e;exact hr e
       exact q.mono k (.inl (m6 nb))
section
theorem Inv.freeze(I:Inv X pins σ H s)(e:H a=some (.dK Fk))(ho:s.heap.get? a=some o):Inv X pins σ (upd H a (.frz o (.dK Fk))) s:=by have q:K5 X.prog X.w H s.heap a (.dK Fk):=I.hok a _ e;exact I.write (by rw[e];exact trivial) (.inl rfl) (λb u _ z=>z) ⟨o,ho⟩ ⟨ho,q⟩
def iW(K:ze)(tl:TE):TI:=λσ H R=>tl σ H λx H1=>((∃z,x= .str z/\R (Its z) H1)\/(∃k a xs,x= .ref a/\Sq K k H1 a xs/\R (if k=true then Itt K a else Itl K a) H1))\/
 (∃a Fk,x= .ref a/\H1 a=some (.dK Fk)/\∀o,R (Itd a o Fk) (upd H1 a (.frz o (.dK Fk))))\/(∃a o Fk,x= .ref a/\H1 a=some (.frz o (.dK Fk))/\R (Itd a o Fk) H1)
theorem KU(hl:PE X e tl):PI X tg e (iW X.K tl):=by
 intro pins s σ H R I h;refine thn (hl pins s σ H _ I h) λv s1 Gc=>Gc.elim λx H1 I1 r1 q1=>?_;have fpo:∀b∈ [s1.heap.objs.size],W0 X pins H1 b:=λb hb=>by
  have z:b=s1.heap.objs.size:=by simpa using hb
  subst z;exact I1.fpOk (zh _) (I1.hok.fresh (zh _))
 rcases q1 with(⟨z,rfl,q⟩|⟨k,a,xs,rfl,hq,q⟩)|⟨a,Fk,rfl,hq,q⟩|⟨a,o,Fk,rfl,hq,q⟩
 · obtain⟨t,rfl⟩:=(show ∃t,v=Value.str z t from r1);refine wpAny_pyIter_strU ?_;have I2:Inv X pins σ H1 {s1 with heap:=s1.heap.push {cls:=.type (xq z),data:=.fields #[.str z t,.int 0 0]}}:=I1.kept λb o z=>zc _ z;have hg:(s1.heap.push {cls:=.type (xq z),data:=.fields #[.str z t,.int 0 0]}).get? s1.heap.objs.size=some {cls:=.type (xq z),data:=.fields #[.str z t,.int 0 0]}:=zu _ rfl;by_cases ha:z.cps.all (· < 128)=true
   · have e:xq z= "str_ascii_iterator":=by unfold xq;rw[if_pos ha]
     refine⟨s1.heap.objs.size, [s1.heap.objs.size],_,_,H1,rfl,I2,HR z t _,?_,fpo,q⟩;rw[e]at hg ⊢;exact⟨_,hg,rfl,rfl⟩
   · have e:xq z= "str_iterator":=by unfold xq;rw[if_neg ha]
     refine⟨s1.heap.objs.size, [s1.heap.objs.size],_,_,H1,rfl,I2,iX z t _,?_,fpo,q⟩;rw[e]at hg ⊢;exact⟨_,hg,rfl,rfl⟩
 · cases r1
   rcases k with _|_
   ·
     obtain⟨Fj,rv,p,hz⟩:=I1.list hq;exact xS p.isList ⟨s1.heap.objs.size, [s1.heap.objs.size],_,_,H1,rfl,I1.kept λb o z=>zc _ z,bR a _,⟨_,zu _ rfl,rfl,rfl⟩,fpo,q⟩
   ·
     obtain⟨Fj,rv,p,hz⟩:=I1.tuple hq;exact wpAny_pyIter_tuple (show s1.heap.IsTuple a Fj.toArray from p) ⟨s1.heap.objs.size, [s1.heap.objs.size],_,_,H1,rfl,I1.kept λb o z=>zc _ z,qp a _,⟨_,zu _ rfl,rfl,rfl⟩,fpo,q⟩
 · cases r1
   obtain⟨hz,hS,vs,rel,dd⟩:=sG I1.hok hq;obtain⟨ep,dat⟩:=dd.dictAt;obtain⟨o,es,h1,h2,h3,h4⟩:=id dat;have Fp:Fk.length=vs.length:=yq rel;have I2:=DL.Inv.freeze I1 hq h1;have fpo2:∀b∈ [s1.heap.objs.size],W0 X pins (upd H1 a (.frz o (.dK Fk))) b:=λb hb=>by
    have z:b=s1.heap.objs.size:=by simpa using hb
    subst z;exact I2.fpOk (zh _) (I2.hok.fresh (zh _))
   refine wpAny_pyIter_dict hS dat ⟨s1.heap.objs.size, [s1.heap.objs.size],_,_,upd H1 a (.frz o (.dK Fk)),rfl,I2.kept λb o z=>zc _ z,gK h3 _,?_,fpo2,q o⟩;rw[Fp];exact⟨_,zu _ rfl,rfl,rfl⟩
 · cases r1
   obtain⟨hget,hz,hS,vs,rel,dd⟩:=(show K5 X.prog X.w H1 s1.heap a (.frz o (.dK Fk))from I1.hok a _ hq);obtain⟨ep,dat⟩:=dd.dictAt;obtain⟨o',es,h1,h2,h3,h4⟩:=id dat;rw[hget]at h1
   cases h1
   have Fp:Fk.length=vs.length:=yq rel;refine wpAny_pyIter_dict hS dat ⟨s1.heap.objs.size, [s1.heap.objs.size],_,_,H1,rfl,I1.kept λb o z=>zc _ z,gK h3 _,?_,fpo,q⟩;rw[Fp];exact⟨_,zu _ rfl,rfl,rfl⟩
def nG:Key->D
 | .inl i=>.int i
 | .inr x=>.str x
def tB(l:List (Key×D)):List D:=l.map λkv=>nG kv.1
def aC:D->M Src:=λx=>match x with
 | .ref r=>do
   match <-J5 r with
   | .dct l=>do
     let _ <-w4 r (.rod l)
     pure ⟨tB l,λ_=>true⟩
   | .rod l=>pure ⟨tB l,λ_=>true⟩
   |_=>TD (.ref r)
 |d=>TD d
def itW(f:Fe):DSt->M Src:=λσ=>do aC (<-f σ)
theorem oG{v:V}{R:It->Hp->Prop}(h1:j8 (wc X) X0 G1 H1)(rv:d7 (wc X) X0 H1 d v)(p1:c7 (wc X) Z X0 H1 (TD d G1) λs X9 _ H'=>∀J,ItD (wc X) X9 H' J s->R J H'):
 (∃z,v= .str z/\R (Its z) H1)\/(∃k a xs,v= .ref a/\Sq X.K k H1 a xs/\R (if k=true then Itt X.K a else Itl X.K a) H1):=by
 have main:∀dd:D,(∀z,dd≠ .str z)->d7 (wc X) X0 H1 dd v->c7 (wc X) Z X0 H1 (D3 dd G1) (λs X9 _ H'=>∀J,ItD (wc X) X9 H' J s->R J H')->(∃z,v= .str z/\R (Its z) H1)\/(∃k a xs,v= .ref a/\Sq X.K k H1 a xs/\R (if k=true then Itt X.K a else Itl X.K a) H1):=by
  intro dd _ rv p1;have p1':c7 (wc X) Z X0 H1 ((D3 dd >>= λs=>(pure s:M Src)) G1) λs X9 _ H'=>∀J,ItD (wc X) X9 H' J s->R J H':=by
   have e:(D3 dd >>= λs=>(pure s:M Src))=D3 dd:=by
    funext G;rw[M.bind_eq];rcases D3 dd G with _|q
    ·rfl
    ·obtain⟨r,G'⟩:=q;cases r<;>rfl
   rw[e];exact p1
  obtain⟨sr,k,a,vs,rfl,q,rl,is,ck,_,p2⟩:=IF h1 rv p1';refine .inr ⟨k,a,vs,rfl,q,c7.ok p2 h1 _ λX9 G' H' x' h' ck' i=>?_⟩;obtain⟨Gm,q',Gf⟩:=is X9 G' H' x' h' ck';refine⟨λd hd=>?_,λhi=>?_⟩
  · obtain⟨y,hy,ry⟩:=Gf.get hd
    cases k with
    |true=>
      rw[if_pos rfl];exact⟨⟨Gm,y,q',hy⟩,λx H2 ⟨e1,e2⟩=>by subst e1;exact⟨Ext.refl _ _,h',MM Gf hd (e2 Gm q')⟩⟩
    |false=>
      rw[if_neg zv];exact⟨⟨Gm,y,q',hy⟩,λx H2 ⟨e1,e2⟩=>by subst e1;exact⟨Ext.refl _ _,h',MM Gf hd (e2 Gm q')⟩⟩
  · cases k with
    |true=>rw[if_pos rfl];exact⟨Gm,q',by rw[<-Gf.length];exact hi⟩
    |false=>rw[if_neg zv];exact⟨Gm,q',by rw[<-Gf.length];exact hi⟩
 cases d with
 |str z=>
   refine .inl ⟨z,K0 rv,c7.ok p1 h1 _ λX9 G' H' x' h' ck' i=>⟨λd hd=>?_,λhi=>?_⟩⟩
   · simp only[eF,jr]at hd
     cases hc:z.cps.toList[i]? with
     |none=>rw[hc]at hd;cases hd
     |some c=>
       rw[hc]at hd
       cases hd
       have hc':z.cps[i]? =some c:=by rw[<-js];exact hc
       exact⟨⟨c,hc'⟩,λx H2 ⟨e1,c2,e2,e3⟩=>by
        subst e1;rw[hc']at e2
        cases e2
        exact⟨Ext.refl _ _,h',by rw[e3];unfold d7;rfl⟩⟩
   ·simp only[eF,zn]at hi;show z.cps[i]? =none;rw[<-js];exact zM hi
 |tup l=>exact main (.tup l) (λz q=>nomatch q) rv p1
 |ref r=>exact main (.ref r) (λz q=>nomatch q) rv p1
 |_=>exact p1.elim
theorem aN{H:Hp}:∀ {l} {Fk} {i:Nat} {kd},Q6 c μ H l Fk->l[i]? =some kd->∃v,Fk[i]? =some (kd.1,v)
 |[],_,_,_,_,e=>by simp at e
 |(k,d)::r,_,0,_,h,e=>by obtain⟨v,t,rfl,_,_⟩:=h;simp only[zL,ja]at e;subst e;exact⟨v,rfl⟩
 |(k,d)::r,_,i+1,_,h,e=>by obtain⟨v,t,rfl,_,ht⟩:=h;simp only[zV]at e ⊢;exact aN ht e
theorem EZ(k:Key):d7 c μ H (nG k) (kV k):=by
 cases k<;>(unfold nG d7;rfl)
theorem DK{c:Wc}{H:Hp}(e:H a=some (.frz o (.dK Fk)))(rk:Q6 c μ H l Fk):ItD c μ H (Itd a o Fk) ⟨tB l,λ_=>true⟩:=by
 intro X9 G' H' x h' _ i;have e':=x.frz _ _ _ e;refine⟨λd hd=>?_,λhi=>⟨e',by rw[<-rk.length];simpa [tB]using hi⟩⟩;simp only[tB,jr]at hd
 cases hl:l[i]? with
 |none=>rw[hl]at hd;cases hd
 |some kd=>
   rw[hl]at hd
   cases hd
   obtain⟨v,hv⟩:=aN rk hl;exact⟨⟨e',_,hv⟩,λy H2 ⟨e1,kv,e2,e3⟩=>by
    subst e1;rw[hv]at e2
    cases e2
    exact⟨Ext.refl _ _,h',by rw[e3];exact EZ _⟩⟩
theorem SY(he:DE X Z e f):DI X Z tg e (itW f):=
 DI.of (KU he.h) λσ H R Fm=>Fm.elim λX2 μ G s h p=>⟨X2,μ,G,s,h,(c7.bind p).mono λd X0 G1 H1 x1 h1 p1 v rv=>by
  cases d with
  |ref r=>
    have rv':=rv;unfold d7 at rv';obtain⟨a,m,rfl⟩:=rv';obtain⟨o,g,p2⟩:=w6 p1;have ro:=h1.obj r o a g m;rcases o with l|l|l|l
    ·exact .inl (oG h1 rv p2)
    ·exact .inl (oG h1 rv p2)
    ·
      obtain⟨Fk,q,rk⟩:=ro;refine .inr (.inl ⟨a,Fk,rfl,q,λo=>?_⟩);have x:Ext X0 H1 X0 (upd H1 a (.frz o (.dK Fk))):=Ext.mut (yb m) q (λ_ z=>nomatch z) (λ_ _ z=>nomatch z) _;have hk':=rk.mono x;have h2:j8 (wc X) X0 (G1.set r (.rod l)) (upd H1 a (.frz o (.dK Fk))):=h1.setR g (λz=>z) m x ⟨Fk,o,J3,hk'⟩;have p3:=c7.from p2 x;exact c7.ok p3 h2 _ (DK J3 hk')
    ·
      obtain⟨Fk,o,q,rk⟩:=ro;exact .inr (.inr ⟨a,o,Fk,rfl,q,c7.ok p2 h1 _ (DK q rk)⟩)
  |_=>exact .inl (oG h1 rv p1)⟩
end
end DL
namespace W
open PySem PySem.Spec L2 DL
open PyProof.Rows hiding St
section
theorem wp_itW:Wp (itW f σ) G R↔Wp (f σ) G λx G1=>Wp (aC x) G1 R:=by unfold itW;simp only[d9]
theorem srcW_tup:Wp (aC (.tup l)) G R↔R ⟨l,λ_=>true⟩ G:=d8
theorem UC(e:G[p]? =some (.lst l)):Wp (aC (.ref p)) G R↔R ⟨l,ckO p (.lst l)⟩ G:=by unfold aC;simp only[d9,K4,e,Q5];exact EW e
end
end W
namespace DL
open PySem PySem.Spec L2
open PyProof.Rows hiding St
section
end
section
theorem HF:∀ {l} {ss} {vs} {us},i8 l=some ss->g8 c μ H l vs->j7 vs us->StrsAre us ss
 |[],_,_,_,e,r,v=>by cases e;cases r;cases v;exact .nil
 | .str x::t,ss,_,_,e,r,v=>by
   replace e:=show (i8 t).map (_ :: ·)=some _ from e;rcases h:i8 t with _|q
   ·rw[h]at e;exact t6 e
   ·
     rw[h]at e
     cases e
     obtain⟨v0,tl,rfl,r0,rt⟩:=r
     cases v with
     |cons ru rt2=>
       rw[K0 r0]at ru;obtain⟨tk,rfl⟩:=ru;exact .cons _ _ (HF h rt rt2)
 | .non::_,_,_,_,e,_,_=>by exact t6 e
 | .bl _::_,_,_,_,e,_,_=>by exact t6 e
 | .int _::_,_,_,_,e,_,_=>by exact t6 e
 | .tup _::_,_,_,_,e,_,_=>by exact t6 e
 | .ref _::_,_,_,_,e,_,_=>by exact t6 e
 | .fn _::_,_,_,_,e,_,_=>by exact t6 e
 | .ty _::_,_,_,_,e,_,_=>by exact t6 e
end
end DL
namespace W
open PySem PySem.Spec L2 DL
open PyProof.Rows hiding St
section
end
end W
namespace DL
open PySem
theorem gZ:typeLookup (.type "list") "keys" =pure none:=by rw[typeLookup_type,builtinLookup_eq_fast];kernel_rfl
section
theorem KO{h:Heap}{t:Nat}{os:OsState}{a:Addr}{o:Obj}{k:Nat}
 (hx:h.get? a=some o) (hc:o.cls= .type "list") (Gv:o.data= .seq xs k) (hd:o.dict=none) (hA:A.handled=none)
 (hq:∀h' tk,(∀b ob,h.get? b=some ob->h'.get? b=some ob)->Q none ⟨h',g,d,tk,os⟩):
 zp (zy prog w) A (getAttr? (.ref a) "keys") Q E ⟨h,g,d,t,os⟩:=by
 obtain⟨c,dct,dat,sl⟩:=o;simp only at hc Gv hd;subst hc Gv hd;have hT:∀tk',(⟨h,g,d,tk',os⟩:zm).TypeIs (.ref a) "list":=λ_=>⟨_,hx,rfl⟩;have f1:=sub_AttributeError;have f3:=xQ.lookup;have f4:=xQ.bind (.ref a);have f5:=am_list_getattr_none;unfold getAttr? getAttrBy? getAttrBy
 repeat (any_goals (first|assumption|exact hT _|((with_reducible show zp _ _ (call (Value.builtin "list.__getattribute__") _ _) _ _ _);refine call_meets xQ (hT _) am_entry_list_getattribute (F.args_list_getattribute_2 _ _) (meets_getattribute_miss_list a xs k sl "keys" _ gZ (by decide +kernel) (by decide +kernel)) ⟨hx,hA,λh' tk' e hx'=>?_⟩)|wp_step))
 obtain⟨t',u',he⟩:=hx'.there;have hTe:∀tk'',(⟨h',g,d,tk'',os⟩:zm).TypeIs (.ref e) "AttributeError":=λ_=>⟨_,he,rfl⟩;show zp _ _ (getattributeRaised _ _ _ _ _ _ _) _ _ _;unfold getattributeRaised
 repeat (any_goals (first|assumption|exact hTe _|wp_step))
 exact hq _ _ hx'.keeps
end
end DL
namespace DL
open PySem
open PyProof.Rows (IsTup)
theorem vK:entryFor table "dict.update.loop" =some yT.«dict.update.loop»:=entryFor_of_tree (by kernel_rfl)
theorem R4:plainId "dict.update.loop" =true:=by decide +kernel
section
variable{prog:zI}{w:zR}{A:jb}{R:Result->zm->Prop}{I:Addr}{fp wr:List Addr}{n:Nat}{P:Nat->zd->Prop}{St:Nat->Heap->Prop}{K:Type}[DecidableEq K]{knd:KeyKind prog w K}
theorem fS(h:Zi s.heap ta #[x,y])(q:Q [x,y] s):zp (zy prog w) A (Yl (.ref ta)) Q E s:=by obtain⟨o,ho,hc,m,hd⟩:=h;have hT:s.TypeIs (.ref ta) "tuple":=⟨_,ho,hc⟩;unfold Yl;refine za (Zk hT ?_);rw[if_pos (by decide)];exact za (ya ho hd (zl q))
theorem OO(W:Walks prog w A.in1 I fp wr n P St)(S:Addr)(hSf:S∉fp)(h0:Heap)(ps:List (K×zd))(hn:ps.length=n)
 (hval:∀i v,P i v->∃ta key kv,v= .ref ta/\ps[i]? =some kv/\Zi h0 ta #[key,kv.2]/\knd.is kv.1 key=true/\ta≠S/\ta∉wr) (hsz:n<=zi):
 ∀k i s m tk,n-i=k->i<=n->St i s.heap->s.heap.DictOf knd S (Xr [] (ps.take i))->(∀b o,b≠S->b∉wr->h0.get? b=some o->s.heap.get? b=some o)->
  (∀h' tk',h'.DictOf knd S (Xr [] ps)->(∀b o,b≠S->b∉wr->h0.get? b=some o->h'.get? b=some o)->R (.ok (.ret .none)) {s with heap:=h',toks:=tk'})->
  YA (zy prog w) A (.builtin "dict.update.loop" ⟨[.ref S,.ref I,.int m tk,.none], []⟩) R s:=by
 have hSw:S∉wr:=λh=>hSf (W.sub _ h);intro k
 induction k with
 |zero=>
   intro i s m tk hk hi hst hS hh hR;have hin:i=n:=by lia
   subst hin;refine Zt vK ?_;rw[xg R4 _];show zp _ A.in1 (Zm (.ref I) >>= _) _ _ s;refine za (W.done s _ _ hst λh' tk' hm=>?_);show zp _ A.in1 (Builtin.Dict.addKeywords S [] >>= _) _ _ _;refine za (zl ?_);refine zl (hR h' tk' ?_ λb o hb Hc e=>hm b o Hc (hh b o hb Hc e));rw[yV (by lia)]at hS;obtain⟨o,es,ep,ho,rest⟩:=hS;exact⟨o,es,ep,hm S _ hSw ho,rest⟩
 |succ k ih=>
   intro i s m tk hk hi hst hS hh hR;have Gd:i<n:=by lia
   refine Zt vK ?_;rw[xg R4 _];show zp _ A.in1 (Zm (.ref I) >>= _) _ _ s;refine za (W.item i s _ _ Gd hst λv h' tk' hP hst' hm=>?_);obtain⟨ta,key,kv,rfl,hkv,⟨ot,hot,hct,mt,hdt⟩,hkey,Gg,hnw⟩:=hval i v hP;have hS':h'.DictOf knd S (Xr [] (ps.take i)):=by obtain⟨o,es,ep,ho,rest⟩:=hS;exact⟨o,es,ep,hm S _ hSw ho,rest⟩
   have ht':Zi h' ta #[key,kv.2]:=⟨ot,hm ta _ hnw (hh ta _ Gg hnw hot),hct,mt,hdt⟩;refine za (ju ?_);refine za (wpAny_tryCatch (fS ht' ?_));refine ju ?_;have Fp:(Xr [] (ps.take i)).length<=zi:=by have:=merged_length_le [] (ps.take i);rw[yI,jD]at this;lia
   refine wpAny_dictSet_pairs hkey hS' λh'' hd'' hsb=>?_;refine zl ⟨Yh R4 _,ih (i+1) _ _ _ (by lia) Gd (W.frame _ _ _ hst' λb hb o e=>?_) ?_ (λb o hb Hc e=>?_) λh3 tk3 hd3 hk3=>hR h3 tk3 hd3 hk3⟩
   ·rw[hsb.2 b (λh:b=S=>hSf (by rw[<-h];exact hb))];exact e
   ·rw[merged_take_succ [] ps i kv hkv];exact hd''
   ·rw[hsb.2 b hb];exact hm b o Hc (hh b o hb Hc e)
end
section
variable{prog:zI}{w:zR}{A:jb}{E:VSP}{s:zm}{K:Type}[DecidableEq K]{knd:KeyKind prog w K}
theorem qV{m:Nat}(hx:s.heap.get? src=some o)(hc:o.cls= .type "list")(hd:o.data= .seq items m)(hdict:o.dict=none)(hA:A.handled=none)
 (hn:ps.length=items.size) (hsz:items.size<=zi) (hval:∀(i:Nat) (v:zd),items[i]? =some v->∃(ta:Addr) (key:zd) (kv:K×zd),v= .ref ta/\ps[i]? =some kv/\Zi s.heap ta #[key,kv.2]/\knd.is kv.1 key=true)
 (h:∀h' tk,h'.DictOf knd s.heap.objs.size (Xr [] ps)->(∀b o,s.heap.get? b=some o->h'.get? b=some o)->Q (.ref s.heap.objs.size) {s with heap:=h',toks:=tk}):
 zp (zy prog w) A (call (.type "dict") [.ref src]) Q E s:=by
 refine callType_codes (Q₁:=λobj W1=>obj= .ref s.heap.objs.size/\W1= {s with heap:=s.heap.push {cls:=.type "dict",data:=.dict #[]}}) F.kt_called_dict (F.kt_typeCall_dict_1 _) F.entry_dict_init (kt_code_dict_new _ ⟨rfl,rfl⟩) ?_;rintro obj W1 ⟨rfl,rfl⟩;have hnew:(s.heap.push {cls:=.type "dict",data:=.dict #[]}).DictOf knd s.heap.objs.size []:=Heap.DictOf.new s.heap;have Gd:src<s.heap.objs.size:=zo hx;have hx1:(s.heap.push {cls:=.type "dict",data:=.dict #[]}).get? src=some o:=zc _ hx;have hT1:Shared.TypeIs {s with heap:=s.heap.push {cls:=.type "dict",data:=.dict #[]}} (.ref src) "list":=⟨_,hx1,hc⟩;refine⟨hnew.typeIs,F.args_dict_init_2 _ _,?_⟩;unfold yT.«dict.__init__»;refine za ?_;unfold Builtin.Dict.selfAndRest;refine za (wpAny_notOrdered_dict hnew.typeIs ?_);show zp _ _ (pure (s.heap.objs.size, [Value.ref src])) _ _ _;refine zl ?_;show zp _ _ (ZX "dict.__init__" s.heap.objs.size (.ref src) [] .none) _ _ _;unfold ZX;refine za (Zk hT1 ?_);rw[if_pos (by decide)];have hA2:A.in1.in1.handled=none:=by simp[hA]
 refine za (KO hx1 hc hd hdict hA2 λh2 tk2 k2=>?_);simp only[Option.isNone_none,if_true];refine za (xL ?_);have hx2:h2.get? src=some o:=k2 _ _ hx1;have Hb:h2.IsList src items:=⟨o,hx2,hc,m,hd⟩;have hS2:h2.DictOf knd s.heap.objs.size []:=by obtain⟨o,es,ep,ho,rest⟩:=hnew;exact⟨o,es,ep,k2 _ _ ho,rest⟩
 have hlt2:s.heap.objs.size<h2.objs.size:=by obtain⟨o,es,ep,ho,rest⟩:=hS2;exact zo ho
 refine za (xS Hb ?_);have hA1:A.in1.in1.handled=none:=hA2;refine zl ⟨Yh R4 _,?_⟩;have hkeep:∀b ob,s.heap.get? b=some ob->h2.get? b=some ob:=λb ob e=>k2 _ _ (zc _ e);refine OO (knd:=knd) (Walks.list hA1 h2.objs.size src (zE (yZ Gd hlt2)) items) s.heap.objs.size ?_ s.heap ps hn ?_ hsz items.size 0 _ _ _ (by lia) (zW _) ?_ ?_ ?_ ?_
 ·simp only[zz,zT,or_false,not_or];exact⟨zE hlt2,xt Gd⟩
 · intro i v hv;obtain⟨ta,key,kv,e1,e2,e3,e4⟩:=hval i v hv;have hta:ta<s.heap.objs.size:=by obtain⟨_,e,_⟩:=e3;exact zo e
   exact⟨ta,key,kv,e1,e2,e3,e4,zE hta,by simp only[zz,zT,or_false];exact zE (yZ hta hlt2)⟩
 ·exact⟨⟨_,zu _ rfl,rfl,rfl⟩,Hb.push _⟩
 ·show Heap.DictOf knd (h2.push _) _ _;exact hS2.push _
 ·intro b ob hb Hc e;exact zc _ (hkeep b ob e)
 · intro h' tk' Hk hk';refine⟨rfl,h h' tk' Hk λb ob e=>hk' b ob ?_ ?_ e⟩
   ·exact zE (zo e)
   ·simp only[zz,zT,or_false];exact zE (yZ (zo e) hlt2)
end
end DL
namespace DL
open PySem PySem.Spec L2
open PyProof.Rows hiding St
def iB:D->Option (Key×D)
 | .tup [k,v]=>match u8 k with
   |some q=>some (q,v)
   |none=>none
 |_=>none
def lA:List D->Option (List (Key×D))
 |[]=>some []
 |d::r=>match iB d,lA r with
   |some p,some ps=>some (p::ps)
   |_,_=>none
def CB(Fw:List (Key×D))(l:List (Key×D)):List (Key×D):=l.foldl (λFw kv=>FB Fw kv.1 kv.2) Fw
def GA:List D->M D:=λds=>match ds with
 |[.ref r]=>do
   let l <-J5 r >>= listOf
   let ps <-N0 (lA l)
   J4 (.dct (CB [] ps))
 |_=>M.stuck
section
variable{X:Cx}{Z:XC}{μ:List Addr}{H:Hp}{G:DH}
theorem UO(h:iB d=some p):∃k,d= .tup [k,p.2]/\u8 k=some p.1:=by
 rcases d with _|_|_|_|l|_|_|_<;>try (cases h;done)
 rcases l with _|⟨k,_|⟨v,_|⟨_,_⟩⟩⟩<;>try (cases h;done)
 delta iB at h;dsimp only at h;rcases e:u8 k with _|q
 ·rw[e]at h;cases h
 ·rw[e]at h;cases h;exact⟨k,rfl,e⟩
theorem nI{σ:St}(I:Inv X pins σ H s):∀ {l:List D} {ps} {vs:List V} {Fj},lA l=some ps->g8 (wc X) μ H l vs->j7 vs Fj->
 ∃(Fk:List (Key×V)) (ws:List (Key×zd)),Q6 (wc X) μ H ps Fk/\KV Fk ws/\ws.length=Fj.length/\∀(i:Nat) v,Fj[i]? =some v->∃(ta:Addr) (key:zd) (kv:Key×zd),v= .ref ta/\ws[i]? =some kv/\Zi s.heap ta #[key,kv.2]/\(v7 X.prog X.w).is kv.1 key=true
 |[],ps,vs,Fj,e,rl,rv=>by
   cases e;cases rl;cases rv
   exact⟨[], [],rfl,.nil,rfl,λi v h=>by simp at h⟩
 |d::r,ps,vs,Fj,e,rl,rv=>by
   replace e:(match iB d,lA r with|some p,some ps=>some (p::ps)|_,_=>none)=some ps:=e;rcases e1:iB d with _|p
   ·rw[e1]at e;cases e
   ·
     rcases e2:lA r with _|qs
     ·rw[e1,e2]at e;cases e
     ·
       rw[e1,e2]at e
       cases e
       obtain⟨v,t,rfl,r0,rt⟩:=rl
       cases rv with
       |cons q0 qt=>
         obtain⟨Fk,ws,h1,h2,h3,h4⟩:=nI I e2 rt qt;obtain⟨k,rfl,hk⟩:=UO e1;unfold d7 at r0;obtain⟨a,us,rfl,hq,ru⟩:=r0;obtain⟨x,y,rfl,rx,ry⟩:=OC ru;obtain⟨Hd,rr,ht,_⟩:=I.tuple hq;obtain⟨p1,p2⟩:=p
         cases rr with
         |cons rr0 rr1=>
           cases rr1 with
           |cons rr2 rr3=>
             cases rr3
             rename_i w0 w1;have ex:=QF hk rx;subst ex
             cases (show _=Value.ref a from q0)
             refine⟨(p1,y)::Fk,(p1,w1)::ws,⟨y,Fk,rfl,ry,h1⟩,.cons ⟨rfl,rr2⟩ h2,by simp[h3],λi v hv=>?_⟩
             cases i with
             |zero=>
               simp only[zL,ja]at hv;subst hv;exact⟨a,w0,(p1,w1),rfl,rfl,ht,iA rr0⟩
             |succ i=>exact h4 i v (by simpa using hv)
theorem KH:∀ {ps} {Fk} {Fw} {Gb},Q6 c μ H ps Fk->Q6 c μ H Fw Gb->Q6 c μ H (CB Fw ps) (Fk.foldl (λFw kv=>S1 Fw kv.1 kv.2) Gb)
 |[],_,_,_,r,q=>by cases r;exact q
 |(k,d)::t,_,_,_,r,q=>by obtain⟨v,kt,rfl,rv,rt⟩:=r;have z:=KH rt (OI (k:=k) rv q);exact z
theorem pM:∀ {Fk} {ws} {Fw:List (Key×V)} {Gb},KV Fk ws->KV Fw Gb->KV (Fk.foldl (λFw kv=>S1 Fw kv.1 kv.2) Fw) (Xr Gb ws)
 |_,_,_,_,.nil,q=>q
 |_,_,_,_,.cons (a:=p) (b:=r) ⟨e,rv⟩ t,q=>by
   obtain⟨k,v⟩:=p;obtain⟨k',u⟩:=r
   cases (show k=k' from e)
   have z:=pM t (q.put k rv);exact z
theorem AQ{σ:St}{Q:VK}{ps:List (Key×D)}{h':Heap}{tk:Nat}(I:Inv X pins σ H s)(hr:j8 (wc X) μ G H)(h1:Q6 (wc X) μ H ps Fk)(h2:KV Fk ws)(hz:ws.length<=zi)
 (p:c7 (wc X) Z μ H (J4 (.dct (CB [] ps)) G) λd X9 _ H'=>∀v,d7 (wc X) X9 H' d v->Q v H')
 (hd:h'.DictOf (v7 X.prog X.w) s.heap.objs.size (Xr [] ws)) (hk:∀b o,s.heap.get? b=some o->h'.get? b=some o):EP X pins σ Q (.ref s.heap.objs.size) {s with heap:=h',toks:=tk}:=by
 have k3:=pM h2 (.nil:KV [] []);have hl:(Fk.foldl (λFw kv=>S1 Fw kv.1 kv.2) []).length<=zi:=by rw[k3.length];have:=merged_length_le [] ws;rw[jD]at this;lia
 have hq:H s.heap.objs.size=none:=I.hok.fresh (zh _);refine⟨.ref s.heap.objs.size,_,I.laid hk (zh _) (nJ hl (beq_eq_false_iff_ne.mpr (Ne.symm (zE I.big))) k3 hd),rfl,?_⟩;have k:Ext μ H (μ++[s.heap.objs.size]) (upd H s.heap.objs.size (.dK (Fk.foldl (λFw kv=>S1 Fw kv.1 kv.2) []))):=Ext.add hq _;have e0:Q6 (wc X) μ H (CB [] ps) (Fk.foldl (λFw kv=>S1 Fw kv.1 kv.2) []):=KH h1 rfl;refine p (μ++[s.heap.objs.size]) _ k (hr.new hq ⟨_,J3,e0.mono k⟩) _ ?_;unfold d7;exact⟨s.heap.objs.size,by rw[<-hr.len];simp,rfl⟩
theorem kg(hc:X.calm=true):K6 X Z (.type "dict") GA:=⟨by
 intro pins s σ H xs us Q I r Fm;obtain⟨ds,μ,G,rl,hr,p⟩:=Fm;have hh:X.A.handled=none:=I.ok.hd hc;rcases ds with _|⟨_|_|_|_|l|i|_|_,_|⟨_,_⟩⟩<;>try exact p.elim
 all_goals (delta GA at p;dsimp only at p)
 · obtain⟨v,rfl,rv⟩:=F1 rl;obtain⟨u,rfl,ru⟩:=W2 r;obtain⟨l,a,vs,rfl,Gf,q,p1⟩:=pC hr rv p
   cases ru
   obtain⟨ps,eps,p2⟩:=O7 p1;obtain⟨Fj,rr,⟨o,n,g1,g2,g3,g4⟩,hz⟩:=I.list q;obtain⟨Fk,ws,h1,h2,h3,h4⟩:=nI I eps Gf rr;have Fp:=rr.length;exact qV g1 g2 g4 g3 hh (by simpa using h3) (by simp only[zg];lia) (λi v hv=>h4 i v (by simpa using hv)) λh' tk hd hk=>AQ I hr h1 h2 (by lia) p2 hd hk⟩
theorem Bk(h:X.calm=true):BD GA "dict" X Z:=⟨.inr ⟨_,kg h,sZ⟩⟩
end
def IC:D->List D->M D:=λx xs=>match x,xs with
 | .ref r, [.int k]=>do
   let l <-lstM r
   match l[k.toNat]? with
   |some y=>
     if 0<=k/\k<2 ^ 62 then do
      let _ <-w4 r (.lst (l.eraseIdx k.toNat))
      pure y
     else M.stuck
   |none=>M.stuck
 |_,_=>M.stuck
section
theorem g8.eraseIdx(n:Nat)(h:g8 c μ H l vs):g8 c μ H (l.eraseIdx n) (vs.eraseIdx n):=by rw[Yb,Yb];exact(g8.take _ h).append (g8.drop _ h)
theorem oY:MtD X Z "list.pop" IC:=by
 intro pins s σ H x xs v us Q I rx rs Fm;obtain⟨d,ds,μ,G,rd,rds,hr,p⟩:=Fm;rcases d with _|_|_|_|_|r|_|_<;>try (exact p.elim;done)
 ·
   unfold d7 at rd;obtain⟨a,m,rfl⟩:=rd;rcases ds with _|⟨kd,t⟩
   ·exact p.elim
   ·
     rcases t with _|⟨_,_⟩
     ·
       rcases kd with _|_|k|_|_|_|_|_<;>try (exact p.elim;done)
       ·
         obtain⟨kv,rfl,rk⟩:=F1 rds;have ek:=Q7 rk;subst ek;obtain⟨l,vs,g,ea,rl,p1⟩:=kK hr m p;rcases hy:l[k.toNat]? with _|y
         ·simp only[hy]at p1;exact p1.elim
         ·
           simp only[hy]at p1;split at p1
           · rename_i hz;obtain⟨x1,h1,p2⟩:=BM hr g m (λx=>(rl.mono x).eraseIdx _) p1;obtain⟨yv,e1,ry⟩:=rl.get hy;have Gd:k.toNat<vs.length:=by
              by_cases q:k.toNat<vs.length
              ·exact q
              ·rw[zM (by lia)]at e1;exact t6 e1
             refine VY pins s σ H (.ref a) [.int k] v us Q I rx rs ⟨a,vs,k,k.toNat,yv,rfl,rfl,ea,by lia,by lia,?_,e1,c7.ok p2 h1 _ (ry.mono x1)⟩;unfold Jj;have h0:¬k<0:=by lia
             have h2:(0<=k&&k<(vs.length:Int))=true:=by simp;lia
             simp only[if_neg h0,h2,if_true]
           ·exact p1.elim
     ·cases kd<;>exact p.elim
end
end DL
namespace W
open PySem PySem.Spec L2 DL
open PyProof.Rows hiding St
theorem hZ(h:G[r]? =some (.lst (y::l))):Wp (IC (.ref r) [.int 0]) G Q↔Q y (G.set r (.lst l)):=by
 have e:IC (.ref r) [.int 0]= (do
  let l <-lstM r
  match l[(0:Int).toNat]? with
  |some y=>
    if 0<=(0:Int)/\(0:Int)<2 ^ 62 then do
     let _ <-w4 r (.lst (l.eraseIdx (0:Int).toNat))
     pure y
    else M.stuck
  |none=>M.stuck):=rfl
 rw[e];unfold lstM;simp only[d9,K4,h,Q5,d8];show Wp (if 0<=(0:Int)/\(0:Int)<2 ^ 62 then (do let _ <-w4 r (.lst l);pure y)else M.stuck) G Q↔_;rw[if_pos (by decide)];simp only[d9,d8,HG]
end W
namespace DL
open PySem PySem.Spec L2
open PyProof.Rows hiding St
section
end
end DL
namespace W
open PySem PySem.Spec L2 DL
open PyProof.Rows hiding St
end W
namespace DL
open PySem PySem.W
open PyProof.Rows hiding St
def tOk{α:Type}(lt:Nat->Nat->Bool)(n:Nat):KasT α->(α->Prop)->Prop
 | .ret a,Q=>Q a
 | .ask i j k,Q=>i<n/\j<n/\tOk lt n (k (lt i j)) Q
section
theorem tOk.bind:∀t,tOk lt n t (λa=>tOk lt n (f a) Q)->tOk lt n (t.bind f) Q
 | .ret _,h=>h
 | .ask i j k,h=>⟨h.1,h.2.1,tOk.bind (k (lt i j)) h.2.2⟩
theorem tOk.mono(hq:∀a,Q a->Q' a):∀t,tOk lt n t Q->tOk lt n t Q'
 | .ret a,h=>hq a h
 | .ask i j k,h=>⟨h.1,h.2.1,tOk.mono hq (k (lt i j)) h.2.2⟩
theorem tOk.wp(hc:∀i j C,i<n->j<n->C (lt i j) s->cmp i j C s):∀t,tOk lt n t Q->t.kasWp cmp (λa s'=>s'=s/\Q a) s
 | .ret a,h=>⟨rfl,h⟩
 | .ask i j k,h=>hc i j _ h.1 h.2.1 (tOk.wp hc (k (lt i j)) h.2.2)
end
structure L4(lt:Nat->Nat->Bool)(n:Nat):Prop where
 tr:∀i j k,lt i j=true->lt j k=true->lt i k=true
 tot:∀i j,i<n->j<n->i≠j->lt i j=false->lt j i=true
structure v8(p:Array Nat)(n:Nat):Prop where
 pm:p.toList.Perm (zJ n)
section
theorem v8.size(h:v8 p n):p.size=n:=by have:=h.pm.length_eq;simpa using this
theorem v8.bd(h:v8 p n)(hk:k<n):p.getD k 0<n:=by
 have hs:=h.size;have e:p.getD k 0=p[k]'(by lia):=by simp[xR,hs,hk]
 rw[e];have:p[k]'(by lia)∈p.toList:=by simp
 have:=h.pm.mem_iff.mp this;simpa using this
theorem v8.ne(h:v8 p n)(hi:i<n)(hj:j<n)(hij:i≠j):p.getD i 0≠p.getD j 0:=by
 have hs:=h.size;have nd:p.toList.Nodup:=h.pm.nodup_iff.mpr List.nodup_range;have e1:p.getD i 0=p.toList[i]'(by simp;lia):=by simp[xR,hs,hi]
 have e2:p.getD j 0=p.toList[j]'(by simp;lia):=by simp[xR,hs,hj]
 rw[e1,e2];intro e;exact hij ((xO nd).mp e)
def L3(lt:Nat->Nat->Bool)(p:Array Nat)(m:Nat):Prop:=∀i j,i<j->j<m->lt (p.getD i 0) (p.getD j 0)=true
def LA(lt:Nat->Nat->Bool)(p:Array Nat)(m:Nat):Prop:=∀i j,i<j->j<m->lt (p.getD j 0) (p.getD i 0)=true
theorem eV(O:L4 lt n)(hk:1<=k)(h:L3 lt p k)(hl:lt (p.getD (k-1) 0) (p.getD k 0)=true):L3 lt p (k+1):=by
 intro i j hij hj;by_cases hj':j<k
 ·exact h i j hij hj'
 · have ej:j=k:=by lia
   subst ej;by_cases hi:i=j-1
   ·rw[hi];exact hl
   ·exact O.tr _ _ _ (h i (j-1) (by lia) (by lia)) hl
theorem tY(O:L4 lt n)(hk:1<=k)(h:LA lt p k)(hl:lt (p.getD k 0) (p.getD (k-1) 0)=true):LA lt p (k+1):=by
 intro i j hij hj;by_cases hj':j<k
 ·exact h i j hij hj'
 · have ej:j=k:=by lia
   subst ej;by_cases hi:i=j-1
   ·rw[hi];exact hl
   ·exact O.tr _ _ _ hl (h i (j-1) (by lia) (by lia))
theorem DF(O:L4 lt n)(P:v8 p n):∀f k,1<=k->k+f<=n->L3 lt p k->tOk lt n (kas_asc p f k) (λm=>k<=m/\m<=k+f/\L3 lt p m/\(m<k+f->lt (p.getD m 0) (p.getD (m-1) 0)=true))
 |0,k,h1,h2,u=>⟨zh _,zh _,u,λz=>by lia⟩
 |f+1,k,h1,h2,u=>by
   unfold kas_asc;refine⟨P.bd (by lia),P.bd (by lia),?_⟩;rcases e:lt (p.getD k 0) (p.getD (k-1) 0)with _|_
   ·
     have hl:=O.tot _ _ (P.bd (show k<n by lia)) (P.bd (show k-1<n by lia)) (P.ne (by lia) (by lia) (by lia)) e;simp only[zS,if_false];exact(DF O P f (k+1) (by lia) (by lia) (eV O h1 u hl)).mono λm ⟨a,b,c,d⟩=>⟨by lia,by lia,c,λz=>d (by lia)⟩
   ·exact⟨zh _,by lia,u,λ_=>e⟩
theorem oI(O:L4 lt n)(P:v8 p n):∀f k,1<=k->k+f<=n->LA lt p k->tOk lt n (kas_desc f p k 0) (λr=>r.1=p/\r.2.2=0/\k<=r.2.1/\r.2.1<=k+f/\LA lt p r.2.1)
 |0,k,h1,h2,u=>⟨rfl,rfl,zh _,zh _,u⟩
 |f+1,k,h1,h2,u=>by
   unfold kas_desc;refine⟨P.bd (by lia),P.bd (by lia),?_⟩;rcases e:lt (p.getD k 0) (p.getD (k-1) 0)with _|_
   ·
     have hl:=O.tot _ _ (P.bd (show k<n by lia)) (P.bd (show k-1<n by lia)) (P.ne (by lia) (by lia) (by lia)) e;simp only[zS,if_false];refine⟨P.bd (by lia),P.bd (by lia),?_⟩;rw[hl];exact⟨rfl,rfl,zh _,yL _ _,u⟩
   ·
     simp only[if_true,jQ,if_false,gt_iff_lt];exact(oI O P f (k+1) (by lia) (by lia) (tY O h1 u e)).mono λr ⟨a,b,c,d,g⟩=>⟨a,b,by lia,by lia,g⟩
theorem R1(p:Array Nat)(k:Nat):p.getD k 0= (p[k]?).getD 0:=by by_cases h:k<p.size<;>simp[xR,h]
theorem E8(P:v8 p n):v8 (kas_rev p i j) n:=⟨(jT.mp (mirror_perm p i j _)).trans P.pm⟩
theorem AW(P:v8 p n)(hm:m<=n)(d:LA lt p m):L3 lt (kas_rev p 0 m) m:=by
 intro i j hij hj;have hs:=P.size;have e:∀k,k<m->(kas_rev p 0 m).getD k 0=p.getD (m-1-k) 0:=λk hk=>by rw[R1,R1];unfold kas_rev;rw[getElem?_mirror_all (by lia),if_pos ⟨zW _,hk⟩,Nat.zero_add]
 rw[e i (by lia),e j hj];exact d (m-1-j) (m-1-i) (by lia) (by lia)
theorem AU(O:L4 lt n)(P:v8 p n)(h2:2<=n)(d:LA lt p 2):tOk lt n (kas_descPart 1 n p) (λr=>v8 r.2 n/\1<=r.1/\r.1<=n/\L3 lt r.2 r.1):=by unfold kas_descPart;refine tOk.bind _ ((oI O P (n-(1+1)) (1+1) (by lia) (by lia) d).mono λr ⟨a,b,c,e,g⟩=>?_);obtain⟨r1,r2,r3⟩:=r;dsimp only at a b c e g ⊢;subst a b;rw[if_neg (jQ 0)];unfold kas_tail3;refine tOk.bind _ ((DF O (E8 P) (n-r2) r2 (by lia) (by lia) (AW P (by lia) g)).mono λm ⟨a1,a2,a3,_⟩=>?_);exact⟨E8 P,by lia,by lia,a3⟩
theorem SO(O:L4 lt n)(P:v8 p n)(h2:2<=n):tOk lt n (kas_count n p) (λr=>v8 r.2 n/\1<=r.1/\r.1<=n/\L3 lt r.2 r.1):=by
 unfold kas_count;refine tOk.bind _ ((DF O P (n-1) 1 (zh _) (by lia) (λi j _ _=>by lia)).mono λm ⟨a1,a2,a3,a4⟩=>?_);by_cases hm:m=n
 ·rw[if_pos (by simpa using hm)];exact⟨P,a1,by lia,a3⟩
 · rw[if_neg (by simpa using hm)];by_cases h1:m>1
   ·rw[if_pos h1];refine⟨P.bd (by lia),P.bd (by lia),?_⟩;rw[a3 0 (m-1) (by lia) (by lia)];exact⟨P,a1,by lia,a3⟩
   · rw[if_neg h1];have em:m=1:=by lia
     subst em;refine AU O P h2 λi j hij hj=>?_;have e1:i=0:=by lia
     have e2:j=1:=by lia
     subst e1 e2;exact a4 (by lia)
theorem oF(O:L4 lt n)(P:v8 p n)(hk:k<n)(u:L3 lt p k):∀f l r,l<=r->r<=k->r-l<=f->(∀i,i<l->lt (p.getD i 0) (p.getD k 0)=true)->(∀i,r<=i->i<k->lt (p.getD k 0) (p.getD i 0)=true)->
 tOk lt n (kas_place p k f l r) (λL=>L<=k/\(∀i,i<L->lt (p.getD i 0) (p.getD k 0)=true)/\∀i,L<=i->i<k->lt (p.getD k 0) (p.getD i 0)=true)
 |0,l,r,h1,h2,h3,a,b=>⟨by lia,a,λi hi=>b i (by lia)⟩
 |f+1,l,r,h1,h2,h3,a,b=>by
   unfold kas_place;by_cases h:l>=r
   ·rw[if_pos h];exact⟨by lia,a,λi hi=>b i (by lia)⟩
   · rw[if_neg h];have hm1:l<=(l+r) / 2:=by lia
     have hm2:(l+r) / 2<r:=by lia
     refine⟨P.bd hk,P.bd (by lia),?_⟩;rcases e:lt (p.getD k 0) (p.getD ((l+r) / 2) 0)with _|_
     ·
       simp only[zS,if_false];have hl:=O.tot _ _ (P.bd hk) (P.bd (show (l+r) / 2<n by lia)) (P.ne hk (by lia) (by lia)) e;refine oF O P hk u f _ r (by lia) h2 (by lia) (λi hi=>?_) b;by_cases ei:i= (l+r) / 2
       ·rw[ei];exact hl
       ·exact O.tr _ _ _ (u i ((l+r) / 2) (by lia) (by lia)) hl
     ·
       simp only[if_true];refine oF O P hk u f l _ hm1 (by lia) (by lia) a λi hi hik=>?_;by_cases ei:i= (l+r) / 2
       ·rw[ei];exact e
       ·exact O.tr _ _ _ e (u _ i (by lia) hik)
theorem rJ(O:L4 lt n):∀f k p,v8 p n->k+f=n->L3 lt p k->tOk lt n (kas_bin f p k) (λq=>v8 q n/\L3 lt q n)
 |0,k,p,P,h,u=>⟨P,by rw[<-h];exact u⟩
 |f+1,k,p,P,h,u=>by
   unfold kas_bin;refine tOk.bind _ ((oF O P (show k<n by lia) u k 0 k (zW _) (zh _) (by lia) (λi hi=>by lia) (λi h1 h2=>by lia)).mono λL ⟨hL,a,b⟩=>?_);have hs:=P.size;refine rJ O f (k+1) _ ⟨(jT.mp (bubble_perm p k (k-L))).trans P.pm⟩ (by lia) ?_;have e:∀i,(bubble p k (k-L)).getD i 0=if i=L then p.getD k 0 else if L<i/\i<=k then p.getD (i-1) 0 else p.getD i 0:=λi=>by
    rw[R1,Xh (by lia) _ (by lia),show k-(k-L)=L by lia];split
    ·rw[<-R1]
    ·split<;>rw[<-R1]
   intro i j hij hj;rw[e i,e j];by_cases h1:i=L
   ·rw[if_pos h1,if_neg (by lia),if_pos (by lia)];exact b (j-1) (by lia) (by lia)
   · rw[if_neg h1];by_cases h2:j=L
     ·rw[if_pos h2,if_neg (by lia)];exact a i (by lia)
     · rw[if_neg h2];by_cases h3:L<i
       ·rw[if_pos (by lia),if_pos (by lia)];exact u _ _ (by lia) (by lia)
       · rw[if_neg (by lia)];by_cases h4:L<j
         · rw[if_pos (by lia)];by_cases h5:i<j-1
           ·exact u _ _ h5 (by lia)
           ·lia
         ·rw[if_neg (by lia)];exact u _ _ hij (by lia)
theorem EQ(O:L4 lt n)(h2:2<=n):tOk lt n (kas_sort n) (λq=>v8 q n/\L3 lt q n):=by
 unfold kas_sort;refine tOk.bind _ ((SO O ⟨by simp⟩ h2).mono λr ⟨a,b,c,d⟩=>?_);by_cases h:r.1<n
 ·rw[if_pos h,show max r.1 1=r.1 by lia];exact rJ O _ _ _ a (by lia) d
 ·rw[if_neg h];exact⟨a,by rw[show n=r.1 by lia];exact d⟩
end
end DL
namespace DL
open PySem PySem.Spec L2
open PyProof.Rows hiding St
def M8(F:List D->M D):List D->M (List D)
 |[]=>pure []
 |d::r=>do
   let k <-noX (F [d])
   let ks <-M8 F r
   pure (k::ks)
def bG:D->Option (Int×Str)
 | .tup [.int a,.str x]=>some (a,x)
 |_=>none
def vX:D->Option (Int×Str)
 | .str x=>some (0,x)
 |_=>none
def t9(f:D->Option (Int×Str)):List D->Option (List (Int×Str))
 |[]=>some []
 |d::r=>match f d,t9 f r with
   |some a,some b=>some (a::b)
   |_,_=>none
def HB(l:List D):Option (List (Int×Str)):=match t9 bG l with
 |some q=>some q
 |none=>t9 vX l
def A1(p q:Int×Str):Bool:=if p.1=q.1 then decide (p.2.cps.toList<q.2.cps.toList)else decide (p.1<q.1)
def i7(p q:(Int×Str)×D):Bool:= !A1 q.1 p.1
def L8(qs:List (Int×Str))(l:List D):List D:=((qs.zip l).mergeSort i7).map (·.2)
def r8(F:List D->M D)(l:List D):M D:=do
 let ks <-M8 F l
 let qs <-N0 (HB ks)
 if qs.Nodup then J4 (.lst (L8 qs l))else M.stuck
def nE(F:List D->M D):D->M D
 | .tup l=>if l.length<64 then r8 F l else M.stuck
 | .ref r=>do
   match <-J5 r with
   | .lst l=>if l.length<64 then r8 F l else M.stuck
   | .dct l=>do
     let ss <-N0 (D7 l)
     if ss.length<64 then r8 F (ss.map .str)else M.stuck
   |_=>M.stuck
 |_=>M.stuck
def LF(F:List D->M D)(f:Fe):Fe:=λσ=>do
 let x <-f σ
 nE F x
theorem qD(p:Int×Str):A1 p p=false:=by unfold A1;rw[if_pos rfl,decide_eq_false];exact List.lt_irrefl _
theorem qC(h1:A1 p q=true)(h2:A1 q r=true):A1 p r=true:=by
 unfold A1 at *;by_cases e1:p.1=q.1
 · rw[if_pos e1]at h1;by_cases e2:q.1=r.1
   ·rw[if_pos e2]at h2;rw[if_pos (e1.trans e2)];simp only[decide_eq_true_eq]at *;exact List.lt_trans h1 h2
   ·rw[if_neg e2]at h2;rw[if_neg (by rw[e1];exact e2),e1];exact h2
 · rw[if_neg e1]at h1;simp only[decide_eq_true_eq]at h1;by_cases e2:q.1=r.1
   ·rw[if_pos e2]at h2;rw[if_neg (by rw[<-e2];exact e1),<-e2];exact decide_eq_true h1
   ·rw[if_neg e2]at h2;simp only[decide_eq_true_eq]at h2;rw[if_neg (by lia)];exact decide_eq_true (by lia)
theorem fG(h:p≠q)(h1:A1 p q=false):A1 q p=true:=by
 unfold A1 at *;by_cases e1:p.1=q.1
 · rw[if_pos e1]at h1;rw[if_pos e1.symm];simp only[decide_eq_false_iff_not,decide_eq_true_eq]at *;have hle:q.2.cps.toList<=p.2.cps.toList:=h1;refine jz λn=>h ?_;have hle2:p.2.cps.toList<=q.2.cps.toList:=n;have e:=List.le_antisymm hle2 hle
   cases p with|mk a x=>cases q with|mk b y=>
   dsimp only at e1 e;subst e1;congr 1
   cases x;cases y
   congr 1;exact xf.mp e
 ·rw[if_neg e1]at h1;rw[if_neg (λe=>e1 e.symm)];simp only[decide_eq_false_iff_not,decide_eq_true_eq]at *;lia
theorem HU{qs:List (Int×Str)}(nd:qs.Nodup):∀a∈qs.zip l,∀b∈qs.zip l,a.1=b.1->a=b:=by intro a ha b hb e;obtain⟨i,hi,rfl⟩:=XT.mp ha;obtain⟨j,hj,rfl⟩:=XT.mp hb;simp only[JV]at e ⊢;have:=(xO nd).mp e;subst this;rfl
theorem cW(nd:qs.Nodup){z:List ((Int×Str)×D)}(hp:z.Perm (qs.zip l))(hs:z.Pairwise λa b=>i7 a b=true):z.map (·.2)=L8 qs l:=by
 unfold L8;congr 1;have h2:((qs.zip l).mergeSort i7).Pairwise λa b=>i7 a b=true:=List.pairwise_mergeSort (λa b c h1 h2=>by
  unfold i7 at *;simp only[ZT]at *;refine ZU.mpr λh=>?_;by_cases e:a.1=b.1
  ·rw[e]at h;rw[h]at h2;cases h2
  ·have:=qC h (fG (λz=>e z.symm) h1);rw[this]at h2;cases h2) (λa b=>by
  unfold i7;by_cases e:a.1=b.1
  ·rw[e,qD];rfl
  · cases q:A1 b.1 a.1 with
    |false=>rfl
    |true=>
      have:A1 a.1 b.1=false:=by refine ZU.mpr λh=>?_;have:=qC q h;rw[qD]at this;cases this
      rw[this];rfl) _
 refine List.Perm.eq_of_pairwise (λa b ha hb h1 h2=>?_) hs h2 (hp.trans (Jd _ _).symm);refine HU nd a (hp.mem_iff.mp ha) b ((Jd _ _).mem_iff.mp hb) (jz λn=>?_);unfold i7 at *;simp only[ZT]at *;have:=fG (λz=>n z.symm) h1;rw[this]at h2;cases h2
def Cx.rm(X:Cx)(A:jb):Cx:={X with A:=A,xe:=λ_ _=>False}
section
theorem LZ(I:Inv X pins σ H s)(h1:A.handled=X.A.handled)(h2:A.frames=X.A.frames/\A.guards=X.A.guards):Inv (Cx.rm X A) pins σ H s:=
 ⟨⟨I.ok.mod,I.ok.kind,I.ok.glob,I.ok.blt,I.ok.above,I.ok.inj,I.ok.has,I.ok.cab,λc=>h1.trans (I.ok.hd c),h2.1.trans I.ok.frames,I.ok.stk,I.ok.exf,I.ok.bs,I.ok.bsz,I.ok.noex,I.ok.exfs,I.ok.funs,I.ok.frf,h2.2.trans I.ok.gd⟩,I.os,I.bare,I.base,I.loc,I.cell,I.free,I.freeC,I.pin,I.hok,I.len⟩
theorem FS(I:Inv (Cx.rm X A) pins σ H s)(h1:A.handled=X.A.handled)(h2:A.frames=X.A.frames/\A.guards=X.A.guards):Inv X pins σ H s:=
 ⟨⟨I.ok.mod,I.ok.kind,I.ok.glob,I.ok.blt,I.ok.above,I.ok.inj,I.ok.has,I.ok.cab,λc=>h1.symm.trans (I.ok.hd c),h2.1.symm.trans I.ok.frames,I.ok.stk,I.ok.exf,I.ok.bs,I.ok.bsz,I.ok.noex,I.ok.exfs,I.ok.funs,I.ok.frf,h2.2.symm.trans I.ok.gd⟩,I.os,I.bare,I.base,I.loc,I.cell,I.free,I.freeC,I.pin,I.hok,I.len⟩
end
section
theorem dH(hF:V1 X.prog X.w X.K X.mg X.base CX0 k f fd ps (spD (wc X) 1 F))(hb:v3 X.K fd ps [])(hA:K8 k A)(h1:A.handled=X.A.handled)(h2:A.frames=X.A.frames/\A.guards=X.A.guards){a kS:Addr}{e1:Nat}
 (fa:∀H':Hp,H' a=none->W0 X pins H' a) (fk:∀H':Hp,H' kS=none->W0 X pins H' kS) (ne:a≠kS) {R:zm->Prop}
 (hbd:∀x s (R:zm->Prop),zp (zy X.prog X.w) A (call (.ref f) [x]) (λk s'=>∃ks e,xI ks<64/\s'.heap.get? kS=some (zG "list" (zB ks) e)/\R {s' with heap:=s'.heap.update kS (zO (·.push k))}) (λ_ _=>False) s->
   zp (zy X.prog X.w) A (body x ⟨⟩) (λr s'=>r= .yield ⟨⟩/\R s') E s):∀(r:List D) (rv:List V) ru (dn:List D) (dv:List V) (du:List zd) (e:Nat) (μ:List Addr) (G:DH) (H:Hp) (s:zm),
   g8 (wc X) μ H r rv->j7 rv ru->g8 (wc X) μ H dn dv->j7 dv du->j8 (wc X) μ G H->Inv X pins σ H s->s.heap.get? kS=some (zG "list" (zB du) e)->s.heap.get? a=some (zG "list" #[] e1)->H a=none->H kS=none->du.length+ru.length<64->
   c7 (wc X) ZF μ H (M8 F r G) (λks X9 G' H'=>∀(s':zm) (kv:List V) (ku:List zd) (e':Nat),Ext μ H X9 H'->j8 (wc X) X9 G' H'->g8 (wc X) X9 H' (dn++ks) kv->j7 kv ku->Inv X pins σ H' s'->s'.heap.get? kS=some (zG "list" (zB ku) e')->s'.heap.get? a=some (zG "list" #[] e1)->H' a=none->H' kS=none->R s')->
   zp (zy X.prog X.w) A (forIn ru PUnit.unit body) (λ_ s'=>R s') E s
 |[],_,_,dn,dv,du,e,μ,G,H,s,r1,r2,q1,q2,hr,I,g1,g2,n1,n2,hl,p=>by
   cases r1;cases r2
   rw[YJ];exact zl (c7.ok p hr s dv du e (Ext.refl _ _) hr (by rw[jt];exact q1) q2 I g1 g2 n1 n2)
 |d::r,_,_,dn,dv,du,e,μ,G,H,s,r1,r2,q1,q2,hr,I,g1,g2,n1,n2,hl,p=>by
   obtain⟨v,rv,rfl,rd,rr⟩:=r1
   cases r2 with
   |cons ru rur=>
   rename_i u ur;rw[Zc];have hfp:∀b∈ [a,kS],W0 X pins H b:=λb hb=>by
    rcases zz.mp hb with rfl|hb
    ·exact fa H n1
    ·rw[zA]at hb;subst hb;exact fk H n2
   have IX:=LZ (I.pinned hfp (λb hb=>by
    rcases zz.mp hb with rfl|hb
    ·exact⟨_,g2,λv z=>by cases z⟩
    ·rw[zA]at hb;subst hb;exact⟨_,g1,λv z=>by cases z⟩)) h1 h2
   have pb:=MG (c7.bind p);have call:=dM (X:=Cx.rm X A) (Q:=λv' H'=>∃k X0 G1,Ext μ H X0 H'/\j8 (wc X) X0 G1 H'/\d7 (wc X) X0 H' k v'/\c7 (wc X) ZF X0 H' ((M8 F r >>= λks=>pure (k::ks)) G1) _) hF hA hb .nil rL IX (show j7 [v] [u]from .cons ru .nil)
    (⟨rfl, [d],μ,G,⟨v, [],rfl,rd,rfl⟩,hr,pb.mono λk X0 G1 H1 x1 hr1 p1 v' rv'=>⟨k,X0,G1,x1,hr1,rv',p1⟩⟩)
   refine za (jf (hbd u s (λs'=>zp (zy X.prog X.w) A (forIn ur PUnit.unit body) (λ_ s'=>R s') E s') (jf call (λkv s' hk=>?_) λ_ _ z=>z)) (λq s' hq=>?_) λ_ _ z=>z)
   · obtain⟨v',H',I',rv',k0,X0,G1,x1,hr1,rk,p1⟩:=hk;have I2:=FS I' h1 h2;obtain⟨g1',n2',_⟩:=I2.pin (kS,zG "list" (zB du) e) (zC _ (zC _ (R8 (by simp) g1)));obtain⟨g2',n1',_⟩:=I2.pin (a,zG "list" #[] e1) (zC _ (zC _ (R8 (by simp) g2)));rw[zw]at hl;refine⟨du,e,by lia,g1',?_⟩;have ea:(zB du).push kv=zB (du++[kv]):=by simp
     obtain⟨c2,hc2⟩:∃c2,(s'.heap.update kS (zO (·.push kv))).get? kS=some (zG "list" (zB (du++[kv])) c2):=⟨_,by rw[<-ea];exact yU g1' (·.push kv)⟩;have I3:=wF (h':=s'.heap.update kS (zO (·.push kv))) (t':=s'.toks) I2.unpinned (λb hb=>by rw[zA]at hb;subst hb;exact fk H' n2') (λb o hb e=>by rw[zA]at hb;rw[jq _ _ _ _ hb];exact e)
     refine dH hF hb hA h1 h2 fa fk ne hbd r rv ur (dn++[k0]) (dv++[v']) (du++[kv]) c2 X0 G1 H' _ (rr.mono x1) rur (g8.append (q1.mono x1) ⟨v', [],rfl,rk,rfl⟩) (q2.append (show j7 [v'] [kv]from .cons rv' .nil)) hr1 I3 hc2 (by rw[jq _ _ _ _ ne];exact g2') n1' n2' (by rw[zf,yy];lia) ?_;refine(c7.bind p1).mono λks WY G2 H2 x2 hr2 p2 s3 kv2 ku2 e2 x2' hr2' a1 a2 a3 a4 a5 a6 a7=>?_;exact c7.ok p2 hr2 s3 kv2 ku2 e2 (x1.trans x2) hr2 (by rw[zD]at a1;exact a1) a2 a3 a4 a5 a6 a7
   ·obtain⟨rfl,hq⟩:=hq;exact hq
end
section
theorem NL{ch:List Addr}(I:Inv X pins σ H s)(hf:∀b∈ch,W0 X pins H b)(ha:a∈ch)(k:∀b o,b∉ch->s.heap.get? b=some o->h'.get? b=some o)
 (new:K5 X.prog X.w (upd H a (.lst ws)) h' a (.lst ws)):Inv X pins σ (upd H a (.lst ws)) {s with heap:=h',toks:=t'}:=by
 have hq:H a=none:=(hf a ha).1;have nch:∀b u,H b=some u->b∉ch:=λb u e z=>by rw[(hf b z).1]at e;cases e
 refine I.step (λb hb=>⟨(hf b hb).2.2.2.1,(hf b hb).2.1,(hf b hb).2.2.2.2.1,(hf b hb).2.2.2.2.2⟩) (λb o _ _ hc e _=>k b o hc e) (λb o _ _ hc e _=>⟨o.slots,k b o hc e⟩)
  (λb o hc e n=>by rw[m6 (λz=>hc (by rw[z];exact ha))];exact n) (λb o hc e=>⟨o,k b o hc e⟩) (λb xs e=>by rw[m6 (m5 e hq)];exact e) (λb o u e=>by rw[m6 (m5 e hq)];exact e)
  (λb ps e=>⟨#[],by rw[m6 (m5 e hq),e];simp⟩) (λm hm=>?_) (λb u e=>?_) I.bare
 ·obtain⟨o,es,ep,ho,r⟩:=hm;exact⟨o,es,ep,k _ o (λz=>(hf _ z).2.1 rfl) ho,r⟩
 · by_cases hb:b=a
   · subst hb;rw[J3]at e
     cases e
     exact new
   · rw[m6 hb]at e;refine(I.hok b u e).stay (λc v hc q=>k c v ?_ q) (λc q=>by rw[m6 (m5 q hq)];exact q) λc xs q=>by rw[m6 (m5 q hq)];exact q
     rcases hc with z|z
     ·rw[z];exact nch b u e
     ·exact nch c _ z
def A8(h:Heap)(u:zd)(q:Int×Str):Prop:=∃a t t',u= .ref a/\Zi h a #[.int q.1 t,.str q.2 t']
def r9(u:zd)(q:Int×Str):Prop:=∃t,q.1=0/\u= .str q.2 t
def r6(P:zd->Int×Str->Prop)(ku:List zd)(qs:List (Int×Str)):Prop:=∀(i:Nat) (q:Int×Str),qs[i]? =some q->∃u,ku[i]? =some u/\P u q
theorem rH{g:D->Option (Int×Str)}{P:zd->Int×Str->Prop}(hg:∀d q v u,g d=some q->d7 (wc X) μ H d v->o5 v u->P u q):∀ {ks qs kv ku},t9 g ks=some qs->g8 (wc X) μ H ks kv->j7 kv ku->qs.length=ku.length/\r6 P ku qs
 |[],qs,kv,ku,e,r,rv=>by
   cases e;cases r;cases rv
   exact⟨rfl,λi q z=>by simp at z⟩
 |d::r,qs,kv,ku,e,rr,rv=>by
   obtain⟨v,tl,rfl,rd,rt⟩:=rr
   cases rv with
   |cons ru rur=>
   rename_i u ur;unfold t9 at e;rcases h1:g d with _|a
   ·rw[h1]at e;cases e
   rcases h2:t9 g r with _|b
   ·rw[h1,h2]at e;cases e
   rw[h1,h2]at e
   cases e
   obtain⟨hl,hk⟩:=rH hg h2 rt rur;refine⟨by simp[hl],λi q z=>?_⟩
   cases i with
   |succ i=>simpa using hk i q (by simpa using z)
   |zero=>
     simp at z;subst z;exact⟨u,rfl,hg d a v u h1 rd ru⟩
theorem Bm(I:Inv X pins σ H s){ks qs kv ku}(e:HB ks=some qs)(rr:g8 (wc X) μ H ks kv)(rv:j7 kv ku):qs.length=ku.length/\(r6 (A8 s.heap) ku qs\/r6 r9 ku qs):=by
 unfold HB at e;rcases h:t9 bG ks with _|q
 · rw[h]at e;have:=rH (P:=r9) (λd q v u h1 rd ru=>by
    rcases d with _|_|_|x|_|_|_|_<;>try (cases h1;done)
    cases h1
    rw[K0 rd]at ru;obtain⟨t,rfl⟩:=ru;exact⟨t,rfl,rfl⟩) e rr rv
   exact⟨this.1,.inr this.2⟩
 · rw[h]at e
   cases e
   have:=rH (P:=A8 s.heap) (λd q v u h1 rd ru=>by
    unfold bG at h1;split at h1
    · cases h1
      unfold d7 at rd;obtain⟨ad,vs,rfl,q,rl⟩:=rd;obtain⟨v1,t1,rfl,e1,v2,t2,rfl,e2,e3⟩:=rl
      cases e3
      rw[Q7 e1,K0 e2]at q
      cases ru
      obtain⟨Fj,rvs,tp,_⟩:=I.tuple q
      cases rvs with
      |cons r1 rr1=>
        cases rr1 with
        |cons r2 rr2=>
          cases rr2
          obtain⟨t,rfl⟩:=r1;obtain⟨t',rfl⟩:=r2;exact⟨ad,t,t',rfl,tp⟩
    ·cases h1) h rr rv
   exact⟨this.1,.inl this.2⟩
end
section
theorem TZ(hx:r9 u q)(hy:r9 u' q')(h:C (A1 q q') s):zp (zy prog w) A (keyLt' Zh u u') C E s:=by obtain⟨t,e,rfl⟩:=hx;obtain⟨t',e',rfl⟩:=hy;rw[XA];unfold A1 at h;rw[if_pos (e.trans e'.symm)]at h;exact oneLt_str h
theorem nY(hx:A8 s.heap u q)(hy:A8 s.heap u' q')(h:C (A1 q q') s):zp (zy prog w) A (keyLt' (tuples' true) u u') C E s:=by
 obtain⟨a,t,t',rfl,o,ho,hc,n,hd⟩:=hx;obtain⟨b,v,v',rfl,o2,Gp,hc2,n2,hd2⟩:=hy;refine JI ho hd Gp hd2 ?_;show JJ prog w A true _ C [(.int q.1 t,.int q'.1 v),(.str q.2 t',.str q'.2 v')] 0 s;refine xF (xh (xY (λe=>?_) λe=>?_))
 · have e1:q.1=q'.1:=by simpa using e
   refine xN (xF (eqBool_str (xY (λe=>?_) λe=>?_)))
   · have e2:q.2=q'.2:=by simpa using e
     have eq:q=q':=XO e1 e2;refine xN (Jq ?_);rw[eq,qD]at h;exact h
   ·refine xX (Jp _ _ (PySem.P.lt_str ?_));unfold A1 at h;rw[if_pos e1]at h;exact h
 · have e1:¬q.1=q'.1:=by simpa using e
   refine xX ?_;show zp (zy prog w) A (oneLt' true _ _) C _ s;rw[<-XA];refine Xu ?_;unfold A1 at h;rw[if_neg e1]at h;exact h
theorem RD{st:xn}(hout:(jB st).map (·.2)=zB out)(hz:out.length<64)(hkz:ku.length<64)(hf:xj st=none)(ho1:s.heap.get? kS=some (zG "list" (zB ku) e))(Gp:s.heap.get? a=some (zG "list" #[] e1))(ne:a≠kS)
 (h:∀(h':Heap) (e':Nat),(∀b o,b∉ [a,kS]->s.heap.get? b=some o->h'.get? b=some o)->h'.get? a=some (zG "list" (zB out) e')->P (.done (.ret .none)) {s with heap:=h'}):zp (zy prog w) A (ksk_tail a false e1 (.ref kS) st) P E s:=by
 have na:(s.heap.update kS (zO λ_=>(#[]:Array zd))).get? a=some (zG "list" #[] e1):=by rw[jq _ _ _ _ ne];exact Gp
 obtain⟨c2,hc2⟩:∃c2,((s.heap.update kS (zO λ_=>(#[]:Array zd))).update a (zO λ_=>zB out)).get? a=some (zG "list" (zB out) c2):=⟨_,yU na λ_=>zB out⟩;unfold ksk_tail
 try dsimp only
 rw[hout];refine za (yk ho1 rfl ?_ (by rw[zg,jh];lia) (zW _));refine za (Xa ?_);refine za (xT na rfl ?_);refine za (yk na rfl ?_ (zW _) (zP (Ya (zg ..)) (by rw[jh];lia)));rw[hf];simp only[bne_self_eq_false,zS,if_false];refine zl (h _ c2 (λb o hb eo=>?_) hc2);have Hc:b≠a/\b≠kS:=by simpa using hb
 rw[jq _ _ _ _ Hc.1,jq _ _ _ _ Hc.2];exact eo
theorem BU{qs:List (Int×Str)}{ku:List zd}(hq:qs.length=ku.length)(h2:2<=ku.length)(hk:r6 (A8 s.heap) ku qs\/r6 r9 ku qs):∃kd,(∀(Q:SortKind->zm->Prop) (E:VSP),Q kd s->zp (zy prog w) A (keyKind' ku.toArray) Q E s)/\∀(i j:Nat) q q' C,qs[i]? =some q->qs[j]? =some q'->C (A1 q q') s->ym prog w A kd ku i j C s:=by
 rcases hk with hk|hk
 · obtain⟨fs,T,hfs,hT⟩:∃fs:List zd,yN s.heap ku fs/\0<fs.length/\∀v∈fs,∃n t,v= .int n t:=by
    have gen:∀(ku:List zd) (qs:List (Int×Str)),qs.length=ku.length->r6 (A8 s.heap) ku qs->∃fs:List zd,yN s.heap ku fs/\fs.length=ku.length/\∀v∈fs,∃n t,v= .int n t:=by
     intro ku
     induction ku with
     |nil=>exact λqs _ _=>⟨[],trivial,rfl,λv hv=>by cases hv⟩
     |cons u r ih=>
       intro qs hl hk;rcases qs with _|⟨q,qr⟩
       ·simp at hl
       obtain⟨u',e1,ad,t,t',rfl,o,ho,hc,n,hd⟩:=hk 0 q rfl;simp at e1;subst e1;obtain⟨fs,f1,f2,f3⟩:=ih qr (by simpa using hl) λi q hq=>by simpa using hk (i+1) q (by simpa using hq)
       refine⟨.int q.1 t::fs,xB ho hc hd rfl f1,by simp[f2],λv hv=>?_⟩;rcases zz.mp hv with rfl|hv
       ·exact⟨_,_,rfl⟩
       ·exact f3 v hv
    obtain⟨fs,f1,f2,f3⟩:=gen ku qs hq hk;exact⟨fs,f1,by lia,f3⟩
   refine⟨_,λQ E h=>ZK (T:=.type "int") T hfs (λv hv=>?_) (by decide) h,λi j q q' C e1 e2 hC=>?_⟩
   ·obtain⟨n,t,rfl⟩:=hT v hv;exact xA rfl
   ·obtain⟨u,u1,u2⟩:=hk i _ e1;obtain⟨v,v1,v2⟩:=hk j _ e2;unfold ym;rw[zj,zj,u1,v1];exact nY u2 v2 hC
 · have gen:∀(ku:List zd) (qs:List (Int×Str)),qs.length=ku.length->r6 r9 ku qs->StrsAre ku (qs.map (·.2)):=by
    intro ku
    induction ku with
    |nil=>
      intro qs hl _;rcases qs with _|⟨q,r⟩
      ·exact .nil
      ·simp at hl
    |cons u r ih=>
      intro qs hl hk;rcases qs with _|⟨q,qr⟩
      ·simp at hl
      obtain⟨u',e1,t,_,rfl⟩:=hk 0 q rfl;simp at e1;subst e1;exact .cons q.2 t (ih qr (by simpa using hl) λi q hq=>by simpa using hk (i+1) q (by simpa using hq))
   have hS:=gen ku qs hq hk;refine⟨Zh,λQ E h=>?_,λi j q q' C e1 e2 hC=>?_⟩
   · rcases ku with _|⟨v1,_|⟨v2,vr⟩⟩
     ·simp at h2
     ·simp at h2
     ·rw[keyKind_strs hS];exact zl h
   ·obtain⟨u,u1,u2⟩:=hk i _ e1;obtain⟨v,v1,v2⟩:=hk j _ e2;unfold ym;rw[zj,zj,u1,v1];exact TZ u2 v2 hC
theorem AX{e e1:Nat}{ku vs:List zd}{qs:List (Int×Str)}(hl:ku.length=vs.length)(Gz:vs.length<64)(hq:qs.length=ku.length)(hk:r6 (A8 s.heap) ku qs\/r6 r9 ku qs)(nd:qs.Nodup)
 (ho1:s.heap.get? kS=some (zG "list" (zB ku) e)) (Gp:s.heap.get? a=some (zG "list" #[] e1)) (ne:a≠kS)
 (h:∀(h':Heap) (e':Nat) (p:List Nat),p.Perm (zJ vs.length)->p.Pairwise (λi j=>A1 (qs.getD i (0, "")) (qs.getD j (0, ""))=true)->(∀b o,b∉ [a,kS]->s.heap.get? b=some o->h'.get? b=some o)->h'.get? a=some (zG "list" (zB (p.map λi=>vs.getD i Value.none)) e')->P (.done (.ret .none)) {s with heap:=h'}):
 zp (zy prog w) A (ksk_end a false vs.toArray e1 (.ref kS) (zB ku)) P E s:=by
 unfold ksk_end
 try dsimp only
 simp only[zS,if_false];by_cases h2:vs.toArray.size<2
 · rw[if_pos h2,if_pos h2];refine za (zl ?_);rw[Ye];refine za (zl ?_);dsimp only;have hv:(jB (XM general' ((zB ku).zip vs.toArray) #[] 7 none)).map (·.2)=zB ((zJ vs.length).map λi=>vs.getD i Value.none):=by
    show ((zB ku).zip vs.toArray).map (·.2)=_;apply xf.mp;rw[Yd];apply yj
    ·simp[hl]
    ·intro i hi hj;simp at hi hj ⊢;simp[hj]
   refine RD hv (by simp;lia) (by lia) rfl ho1 Gp ne λh' e' k1 k2=>h h' e' _ (Jf _) ?_ k1 k2;have:vs.length<2:=by simpa using h2
   match hn:vs.length,this with
   |0,_=>simp
   |1,_=>simp[Yu]
 · rw[if_neg h2,if_neg h2];have hn2:2<=vs.length:=by simpa using h2
   let lt:Nat->Nat->Bool:=λi j=>A1 (qs.getD i (0, "")) (qs.getD j (0, ""))
   have gq:∀i,i<vs.length->qs[i]? =some (qs.getD i (0, "")):=λi hi=>by rw[zj,zq (by lia)];rfl
   have O:L4 lt vs.length:=⟨λi j k h1 h2=>qC h1 h2,λi j hi hj hij h=>fG (λee=>hij ?_) h⟩
   case refine_1=>
    have e1:=gq i hi;have e2:=gq j hj;rw[ee]at e1;have li:i<qs.length:=by lia
    exact(List.getElem?_inj li nd).mp (e1.trans e2.symm)
   obtain⟨kd,hkd,Gd⟩:=BU hq (by lia) hk;refine za (hkd _ _ ?_)
   · have run:=tOk.wp (λi j C hi hj hC=>Gd i j _ _ C (gq i hi) (gq j hj) hC) _ (EQ O hn2);refine za (jf (ZV (Q:=λFx s'=>∃p:Array Nat,p.size=vs.length/\jB Fx=p.map (ZL ((zB ku).zip vs.toArray))/\xj Fx=none/\s'=s/\v8 p vs.length/\L3 lt p vs.length) hl hn2 Gz (λp Fx s' a1 a2 a3 a4=>⟨p,a1,a2,a3,a4⟩) run) ?_ λ_ _ x=>x);rintro⟨⟨⟩,Fx⟩ s' ⟨p,hp,har,hf,rfl,P1,U⟩
     try dsimp only
     refine RD (ZJ hl har) (by rw[zn,jA,hp];exact Gz) (by lia) hf ho1 Gp ne λh' e' k1 k2=>h h' e' p.toList P1.pm ?_ k1 k2;rw[YZ];intro i j hi hj hij;have hi':i<p.size:=by simpa using hi
     have hj':j<p.size:=by simpa using hj
     have:=U i j hij (by lia);simpa [xR,hi',hj',lt]using this
end
section
theorem aQ{p:List Nat}{l:List α}(h:p.Perm (zJ n))(hn:l.length=n):(p.map λi=>l.getD i d).Perm l:=by
 have e:(zJ n).map (λi=>l.getD i d)=l:=by
  apply yj
  ·simp[hn]
  ·intro i hi hj;simp[hj]
 have:=h.map λi=>l.getD i d;rw[e]at this;exact this
theorem iG{qs:List (Int×Str)}{l:List D}(h1:i<qs.length)(h2:i<l.length):(qs.zip l).getD i ((0, ""),.non)= (qs[i],l[i]):=by rw[zj,zq (by simp;lia),JV];rfl
theorem oW{qs:List (Int×Str)}{vs:List zd}{p:List Nat}(hl:qs.length=l.length)(rl:g8 (wc X) μ H l ws)(rv:j7 ws vs)(nd:qs.Nodup)(hp:p.Perm (zJ vs.length))(hs:p.Pairwise (λi j=>A1 (qs.getD i (0, "")) (qs.getD j (0, ""))=true)):
 ∃ws',j7 ws' (p.map λi=>vs.getD i Value.none)/\g8 (wc X) μ H (L8 qs l) ws'/\ws'.length=vs.length:=by
 have hlv:l.length=vs.length:=by rw[rl.length,rv.length]
 have hz:(qs.zip l).length=vs.length:=by simp[hl,hlv]
 have e:=cW nd (aQ hp hz) (by
  rw[xH];refine hs.imp_of_mem λ{i j} hi hj h=>?_;have li:i<vs.length:=by simpa using hp.mem_iff.mp hi
  have lj:j<vs.length:=by simpa using hp.mem_iff.mp hj
  have ei:((qs.zip l).getD i ((0, ""),.non)).1=qs.getD i (0, ""):=by rw[iG (by lia) (by lia),zj,zq (by lia)];rfl
  have ej:((qs.zip l).getD j ((0, ""),.non)).1=qs.getD j (0, ""):=by rw[iG (by lia) (by lia),zj,zq (by lia)];rfl
  unfold i7;rw[ei,ej];simp only[ZT];refine ZU.mpr λh2=>?_;have:=qC h h2;rw[qD]at this;cases this)
 rw[jM]at e;have main:∀p:List Nat,(∀i∈p,i<vs.length)->∃ws',j7 ws' (p.map λi=>vs.getD i Value.none)/\g8 (wc X) μ H (p.map λi=>((qs.zip l).getD i ((0, ""),.non)).2) ws'/\ws'.length=p.length:=by
  intro p
  induction p with
  |nil=>exact λ_=>⟨[],.nil,rfl,rfl⟩
  |cons i r ih=>
    intro hi;obtain⟨ws',a1,a2,a3⟩:=ih λj hj=>hi j (zk _ hj);have li:=hi i (by simp);obtain⟨v,e1,r1⟩:=rl.get (d:=l[i]'(by lia)) (zq (by lia));obtain⟨u,e2,r2⟩:=rv.get e1;refine⟨v::ws',?_,⟨v,ws',rfl,?_,a2⟩,by simp[a3]⟩
    · have:vs.getD i Value.none=u:=by rw[zj,e2];rfl
      rw[zN,this];exact .cons r2 a1
    · have:((qs.zip l).getD i ((0, ""),.non)).2=l[i]'(by lia):=by rw[iG (by lia) (by lia)]
      show d7 (wc X) μ H (((qs.zip l).getD i ((0, ""),.non)).2) v;rw[this];exact r1
 obtain⟨ws',a1,a2,a3⟩:=main p λi hi=>by simpa using hp.mem_iff.mp hi
 exact⟨ws',a1,by rw[<-e];exact a2,by rw[a3,hp.length_eq];simp⟩
theorem HK(hF:V1 X.prog X.w X.K X.mg X.base CX0 k f fd ps (spD (wc X) 1 F))(hb:v3 X.K fd ps [])(hrm:K8 (k+2) X.A)(I:Inv X pins σ H s)(hr:j8 (wc X) μ G H)(Gz:l.length<64)
 (hcol:∀Q',(∀h1 tk vs ws,(∀b o,s.heap.get? b=some o->h1.get? b=some o)->j7 ws vs->g8 (wc X) μ H l ws->Q' vs {s with heap:=h1,toks:=tk})->zp (zy X.prog X.w) X.A.in1 (collect u) Q' X.xe s)
 (p:c7 (wc X) Z μ H (r8 F l G) (λd X9 _ H'=>∀v,d7 (wc X) X9 H' d v->Q v H')):zp (zy X.prog X.w) X.A (call (.builtin "sorted") [u] [(jd "key",.ref f)]) (EP X pins σ Q) X.xe s:=by
 refine JO kind_sorted JM JN (ksk_s1 _ _) ?_;unfold yT.«sorted»;refine za (zl ?_);refine za (hcol _ λh1 tk vs ws k1 rv rl=>?_);have hlv:l.length=vs.length:=by rw[rl.length,rv.length]
 refine za (xo ?_ (by rw[jh];lia));have I1:Inv X pins σ H {s with heap:=h1,toks:=tk}:=I.kept k1;have hoL:(h1.push (zG "list" vs.toArray 0)).get? h1.objs.size=some (zG "list" vs.toArray 0):=zu _ rfl;refine za (ju (wpAny_call_entry_kw Xy ⟨_,hoL,rfl⟩ Xi ?_ (ksk_l1 _ _)));show zp (zy X.prog X.w) X.A.in1.in1 (yT.«list.sort» ⟨[.ref h1.objs.size], [(jd "key",.ref f)]⟩) _ _ _;rw[ksk_t1];unfold ksk_tree;refine za (Zq hoL rfl ?_);refine za (yk hoL rfl ?_ (by rw[zg,jh];lia) (zW _));obtain⟨e1,ho1⟩:∃e1,((h1.push (zG "list" vs.toArray 0)).update h1.objs.size (zO λ_=>(#[]:Array zd))).get? h1.objs.size=some (zG "list" #[] e1):=⟨_,yU hoL λ_=> #[]⟩;refine za (xT ho1 rfl ?_);refine za (ZH ?_ (by show vs.length<=_;rw[jh];lia));refine za (xo ?_ (zW _));refine ju ?_;have hsz:((h1.push (zG "list" vs.toArray 0)).update h1.objs.size (zO λ_=>(#[]:Array zd))).objs.size=h1.objs.size+1:=by rw[JS,Xz]
 have hkS:(((h1.push (zG "list" vs.toArray 0)).update h1.objs.size (zO λ_=>(#[]:Array zd))).push (zG "tuple" vs.toArray 0)).objs.size=h1.objs.size+2:=by rw[Xz,hsz]
 have keep:∀b o,h1.get? b=some o->((((h1.push (zG "list" vs.toArray 0)).update h1.objs.size (zO λ_=>(#[]:Array zd))).push (zG "tuple" vs.toArray 0)).push (zG "list" #[] 0)).get? b=some o:=λb o q=>by have Gd:b<h1.objs.size:=zo q;rw[yC _ _ _ (by rw[hkS];exact zE (yd (yd Gd))),yC _ _ _ (by rw[hsz];exact zE (yd Gd)),jq _ _ _ _ (zE Gd),yC _ _ _ (zE Gd)];exact q
 have I2:Inv X pins σ H {s with heap:=(((h1.push (zG "list" vs.toArray 0)).update h1.objs.size (zO λ_=>(#[]:Array zd))).push (zG "tuple" vs.toArray 0)).push (zG "list" #[] 0),toks:=tk}:=I1.kept keep;have na:H h1.objs.size=none:=I1.hok.fresh (zh _);have nk:H (h1.objs.size+2)=none:=I1.hok.fresh (yL _ _);have ga:((((h1.push (zG "list" vs.toArray 0)).update h1.objs.size (zO λ_=>(#[]:Array zd))).push (zG "tuple" vs.toArray 0)).push (zG "list" #[] 0)).get? h1.objs.size=some (zG "list" #[] e1):=zc _ (zc _ ho1);have gk:((((h1.push (zG "list" vs.toArray 0)).update h1.objs.size (zO λ_=>(#[]:Array zd))).push (zG "tuple" vs.toArray 0)).push (zG "list" #[] 0)).get? (h1.objs.size+2)=some (zG "list" (zB []) 0):=by rw[<-hkS];exact zu _ rfl
 have fa:∀H':Hp,H' h1.objs.size=none->W0 X pins H' h1.objs.size:=λH' hn=>I1.fpOk (zh _) hn;have fk:∀H':Hp,H' (h1.objs.size+2)=none->W0 X pins H' (h1.objs.size+2):=λH' hn=>I1.fpOk (yL _ _) hn;have ne:h1.objs.size≠h1.objs.size+2:=by lia
 unfold r8 at p;have pk:c7 (wc X) ZF μ H (M8 F l G) (λks X9 G' H'=>ks.length=l.length/\c7 (wc X) Z X9 H' ((N0 (HB ks) >>= λqs=>if qs.Nodup then J4 (.lst (L8 qs l))else M.stuck) G') (λd X9 _ H'=>∀v,d7 (wc X) X9 H' d v->Q v H')):=by
  have q:=c7.bind p;have hkl:∀(l:List D) (G:DH) (ks:List D) (G':DH),M8 F l G=some (.ok ks,G')->ks.length=l.length:=by
   intro l
   induction l with
   |nil=>intro G ks G' z;cases z;rfl
   |cons d r ih=>
     intro G ks G' z;unfold M8 at z;rw[M.bind_eq]at z
     match h:noX (F [d]) G,z with
     |some (.ok kk,G1),z=>
       dsimp only at z;rw[M.bind_eq]at z
       match h2:M8 F r G1,z with
       |some (.ok ks,G2),z=>
         cases z
         simp[ih _ _ _ h2]
  have kne:∀(l:List D) (G:DH) (x:Str) (G':DH),M8 F l G≠some (.error x,G'):=by
   intro l
   induction l with
   |nil=>intro G x G' z;cases z
   |cons d r ih=>
     intro G x G' z;unfold M8 at z;rw[M.bind_eq]at z;have nx:∀x G',noX (F [d]) G≠some (.error x,G'):=λx G' z=>by
      unfold noX at z
      try dsimp only at z
      split at z<;>cases z
     match h:noX (F [d]) G,z with
     |some (.error y,G1),z=>exact nx _ _ h
     |some (.ok kk,G1),z=>
       dsimp only at z;rw[M.bind_eq]at z
       match h2:M8 F r G1,z with
       |some (.error y,G2),z=>exact ih _ _ _ h2
       |some (.ok ks,G2),z=>cases z
  match hh:M8 F l G,q with
  |some (.ok ks,G1),q=>exact λX9 H' x h=>⟨hkl _ _ _ _ hh,q X9 H' x h⟩
  |some (.error x,G1),q=>exact(kne _ _ _ _ hh).elim
 rw[hkS];show zp (zy X.prog X.w) X.A.in1.in1 (ksk_rest h1.objs.size (.ref f) false vs.toArray e1 (.ref (h1.objs.size+2))) _ _ _;unfold ksk_rest;refine za (xL ?_)
 first
  |rw[Jz]
  |(rw[<-xu];simp only[Jc])
  |rw[<-xu]
 refine za (dH (σ:=σ) hF hb hrm.in1.in1 rfl ⟨rfl,rfl⟩ fa fk ne (λx s0 R hx=>?_) l ws vs [] [] [] 0 μ G H _ rl rv rfl .nil hr I2 gk ga na nk (by simp;lia) ?_)
 · refine za (Yg (jf hx (λkv s'' hk=>?_) λ_ _ hF=>hF.elim));obtain⟨ks,e,hks,g,hR⟩:=hk
   try dsimp only
   refine za (yk g rfl ?_ (by rw[zg,jh];lia) (zP (Ya (JZ ..)) (by rw[zg,jh];lia)));exact zl ⟨rfl,hR⟩
 · refine pk.mono λks X9 G' H' x1 hr1 ⟨hks,p1⟩ s' kv ku e' _ _ q1 q2 I' g1 g2 n1 n2=>?_;rw[List.nil_append]at q1;obtain⟨qs,eq,p2⟩:=O7 p1;split at p2
   case isFalse=>exact p2.elim
   rename_i nd;obtain⟨Gx,hk1⟩:=Bm I' eq q1 q2
   try dsimp only
   refine za (Zq g1 rfl ?_);have hkv:ku.length=vs.length:=by rw[<-q2.length,<-q1.length,hks,hlv]
   refine AX hkv (by lia) Gx hk1 nd g1 g2 ne λh' e2 pp hp hs keep2 gg=>?_;have Gf:g8 (wc X) X9 H' l ws:=rl.mono x1;obtain⟨ws',a1,a2,a3⟩:=oW (by rw[Gx,hkv,hlv]) Gf rv nd hp hs;refine⟨_,rfl,zl ⟨_,rfl,.ref h1.objs.size,upd H' h1.objs.size (.lst ws'),NL I' (λb hb=>?_) (by simp) keep2 ⟨by rw[a3,jh];lia,_,e2,a1,gg⟩,rfl,Q9 hr1 a2 p2 _ n1⟩⟩;rcases zz.mp hb with rfl|hb
   ·exact fa _ n1
   ·rw[zA]at hb;subst hb;exact fk _ n2
theorem vq(hc:X.calm=true)(hF:V1 X.prog X.w X.K X.mg X.base CX0 k f fd ps (spD (wc X) 1 F))(hb:v3 X.K fd ps [])(hrm:K8 (k+2) X.A)(I:Inv X pins σ H s)(hr:j8 (wc X) μ G H)(rd:d7 (wc X) μ H d v)(ru:o5 v u)
 (p:c7 (wc X) Z μ H (nE F d G) (λd X9 _ H'=>∀v,d7 (wc X) X9 H' d v->Q v H')):zp (zy X.prog X.w) X.A (call (.builtin "sorted") [u] [(jd "key",.ref f)]) (EP X pins σ Q) X.xe s:=by
 have seq:∀ {a:Addr} {T:String} {o:Obj} {Fj:List zd} {vs:List V} {n:Nat} {l:List D},(T= "list"\/T= "tuple")->s.heap.get? a=some o->o.cls= .type T->o.data= .seq Fj.toArray n->j7 vs Fj->g8 (wc X) μ H l vs->vs.length<=zi->
  c7 (wc X) Z μ H ((if l.length<64 then r8 F l else M.stuck:M D) G) (λd X9 _ H'=>∀v,d7 (wc X) X9 H' d v->Q v H')->zp (zy X.prog X.w) X.A (call (.builtin "sorted") [.ref a] [(jd "key",.ref f)]) (EP X pins σ Q) X.xe s:=by
  intro a T o Fj vs n l hT h1 h2 h3 rv rl hz p;split at p
  case isFalse=>exact p.elim
  rename_i Gz;refine HK hF hb hrm I hr Gz (λQ' hQ=>Yx a hT h1 h2 h3 (λh' kk=>?_) (by rw[zg,<-rv.length];exact hz)) p;exact hQ h' s.toks Fj vs kk rv rl
 unfold nE at p;split at p
 · rename_i l;unfold d7 at rd;obtain⟨a,vs,rfl,q,rl⟩:=rd
   cases ru
   obtain⟨Fj,rv,⟨o,h1,h2,n,h3⟩,hz⟩:=I.tuple q;exact seq (.inr rfl) h1 h2 h3 rv rl hz p
 · rename_i i;unfold d7 at rd;obtain⟨a,m,rfl⟩:=rd
   cases ru
   obtain⟨o,g,p1⟩:=w6 p;have ro:=hr.obj i o a g m;rcases o with l|l|l|l
   ·
     obtain⟨vs,q,rl⟩:=ro;obtain⟨Fj,rv,pl,hz⟩:=I.list (SqL.of q);obtain⟨o,h1,h2,n,h3⟩:=pl.isList;exact seq (.inl rfl) h1 h2 h3 rv rl hz p1
   ·exact p1.elim
   ·
     obtain⟨Fk,q,rk⟩:=ro;obtain⟨ss,es,p2⟩:=O7 p1;split at p2
     case isFalse=>exact p2.elim
     rename_i Gz;obtain⟨z,hd,vs,rel,dd⟩:=sG I.hok q;obtain⟨ep,hat⟩:=dd.dictAt;have hn:vs.length=ss.length:=by rw[nM es,<-rel.length,<-rk.length]
     refine HK hF hb hrm I hr (by simpa using Gz) (λQ' hQ=>PySem.W.kdu_collect (PySem.W.kdl_dict hd) (I.ok.hd hc) hat (by rw[jh];omega) λh1 tk Fw hk Hg=>?_) p2;have hS:StrsAre Fw.toList ss:=qN es rk rel (by rw[jA];exact Hg.1) λj v e=>Hg.2 j v (by rw[<-js];exact e);obtain⟨ws,ew,rv,rl2⟩:=aI (μ:=μ) hS;exact hQ h1 tk Fw.toList ws hk rv rl2
   ·exact p1.elim
 ·exact p.elim
end
section
theorem kO(hc:X.calm=true)(hF:∃k kk,W3 F 1 x X.prog X.w X.K X.mg X.base k/\K8 kk X.A/\k+2<=kk)(hbl:BLs X.mg)(hgs:Gl X "sorted")(hg:Gl X x)(he:DE X Z e fe)(hs:Q0 e=true)(hdb:(x==("__debug__" :Str))=false):
 DE X Z (.Call (.Name "sorted" p) [e] [⟨some "key",.Name x pf,kp⟩] pos) (LF F fe):=⟨by
 intro pins s σ H Q I h;obtain⟨k,kk,hF,hrm,hk⟩:=hF;obtain⟨f,fd,ps,f1,f2,f3,f4⟩:=hF.ex;have hbs:zK ("sorted" :Str)=some (.builtin "sorted"):=vF;refine yX (P8 I hgs (hbl.h _ (by decide +kernel)) hbs ?_ (by decide) (by decide));obtain⟨X2,μ,G,sr,hr,pp⟩:=h;unfold LF at pp;have pa:=c7.bind pp;have hst:zF [e] X.env= (false,eval e X.env)::zF [] X.env:=bB hs;refine callWith_builtin_kwB (by rw[EB];exact cA (by rw[jP,hs];rfl)) rfl (evalArgs_kw2 rfl ?_ hst);have ha:DA X Z [e] (x0 fe o0):=AF he OF hst;refine thn (ha.h pos pins s σ H (λvs H1=>∃v d X0 G1,vs= [v]/\d7 (wc X) X0 H1 d v/\j8 (wc X) X0 G1 H1/\c7 (wc X) Z X0 H1 (nE F d G1) (λd X9 _ H'=>∀v,d7 (wc X) X9 H' d v->Q v H')) I ?_) λus s1 ⟨vs,H1,I1,r1,v,d,X0,G1,e1,rd,hr1,p1⟩=>?_
 · refine⟨X2,μ,G,sr,hr,?_⟩;show c7 (wc X) Z μ H ((fe X2 >>= λy=>(pure [y]:M (List D))) G) _
   match hm:fe X2 G,pa with
   |some (.ok y,G1),pa=>
     rw[M.bind_ok hm];intro X9 H' x1 h1 vs rv;obtain⟨v,ev,rv2⟩:=F1 rv;subst ev;exact⟨v,y,X9,G1,rfl,rv2,h1,pa X9 H' x1 h1⟩
   |some (.error y,G1),pa=>
     rw[M.bind_eq,hm];exact pa
 ·subst e1;obtain⟨u,rfl,ru⟩:=W2 r1;show zp _ _ (evalAll [(do let v <-eval (.Name x pf) X.env;Xl pos;pure v)]) _ _ s1;refine wpAny_evalAll_cons (za (sB I1 hg f2 (za (xV (zl (wpAny_evalAll_nil ?_)))) hdb));exact vq hc f1 f4 (hrm.mono hk) I1 hr1 rd ru p1⟩
end
def CR(K:ze)(mg:Str->Option zd)(d:D)(u:zd):Prop:=∃v,o5 v u/\∀ μ H,d7 ⟨K,mg⟩ μ H d v
def CRL(K:ze)(mg:Str->Option zd)(l:List D)(us:List zd):Prop:=∃vs,j7 vs us/\∀ μ H,g8 ⟨K,mg⟩ μ H l vs
section
variable{K:ze}{mg:Str->Option zd}
theorem cr_str:CR K mg (.str x) (.str x t):=⟨.str x,⟨t,rfl⟩,λμ H=>by unfold d7;rfl⟩
theorem cr_int:CR K mg (.int i) (.int i t):=⟨.int i,⟨t,rfl⟩,λμ H=>by unfold d7;rfl⟩
theorem cr_bl:CR K mg (.bl b) (.bool b):=⟨.bl b,rfl,λμ H=>by unfold d7;rfl⟩
theorem cr_non:CR K mg .non .none:=⟨.non,rfl,λμ H=>by unfold d7;rfl⟩
theorem crl_nil:CRL K mg [] []:=⟨[],.nil,λ_ _=>rfl⟩
theorem crl_cons(h:CR K mg d u)(t:CRL K mg l us):CRL K mg (d::l) (u::us):=by obtain⟨v,r,h⟩:=h;obtain⟨vs,rs,t⟩:=t;exact⟨v::vs,.cons r rs,λμ H=>⟨v,vs,rfl,h μ H,t μ H⟩⟩
theorem cr_tup(hl:K.lookup a=some ⟨.type "tuple",none,.seq us.toArray n,sl⟩)(hz:Nat.ble us.length 100=true)(h:CRL K mg l us):CR K mg (.tup l) (.ref a):=by obtain⟨vs,rs,t⟩:=h;refine⟨.ref a,rfl,λμ H=>?_⟩;unfold d7;refine⟨a,vs,rfl,.inr ⟨_,us.toArray,n,hl,rfl,rfl,?_,rs⟩,t μ H⟩;rw[zg];exact zP (XQ hz) (by decide)
end
structure D8(K:ze)(mg:Str->Option zd)(x:Str)(d:D):Prop where
 ex:∃u,mg x=some u/\CR K mg d u
section
theorem CU(hc:D8 X.K X.mg x d)(hg:Gl X x)(hdb:(x==("__debug__" :Str))=false):DE X Z (.Name x pos) (cE d):=⟨by
 intro pins s σ H Q I Fm;refine Fm.elim λX2 μ G sr hr p=>?_;obtain⟨u,hm,v,ru,rv⟩:=hc.ex;exact sB I hg hm ⟨v,H,I,ru,c7.ok p hr v (rv μ H)⟩ hdb⟩
end
def isStrM:D->M Unit:=λx=>match x with
 | .str _=>pure ()
 |_=>M.stuck
section
variable{X:Cx}{Z:XC}{o e:Expr}{es:List Expr}{fo:Fe}{fs:DSt->M (List D)}{name:Str}{id:String}{mm:D->List D->M D}{Gq Fz:Pos}
theorem hU{H:Hp}{G:DH}{d:D}{v:V}{f:Unit->M α}{K:α->List Addr->DH->Hp->Prop}(r:d7 c μ H d v)(p:c7 c Z μ H ((isStrM d >>= f) G) K):tyV c.K "str" v H/\c7 c Z μ H (f () G) K:=by
 rcases d with _|_|_|x|_|_|_|_<;>try (exact p.elim;done)
 ·rw[K0 r];exact⟨rfl,p⟩
theorem cL(slot:Slot "str" name id)(hty:typeOf (.builtin id)=pure (.type "method_descriptor"))(hm:MtD X Z id mm)(ho:DE X Z o fo)(ha:DA X Z (e::es) fs)
 (hbase:xW o name X.env (eval o X.env)=eval o X.env)
 (hfew:((yA Fz (zF (e::es) X.env)).all (λx=> !x.1)&&(Xt Fz (ZI [] X.env)).all (λx=>x.1.isSome)
   && decide ((e::es).length+([]:List Keyword).length+(if ([]:List Keyword).isEmpty then 0 else 1)<30))=true)
 (hline:(Gq.endLine==Fz.line)=true) (hs:zF (e::es) X.env= (false,eval e X.env)::zF es X.env) (Gw:(yA Fz (zF es X.env)).any (·.1)=false):
 DE X Z (.Call (.Attribute o name Gq) (e::es) [] Fz) (mtE isStrM mm fo fs):=
 DE.of (PK PySem.F.plainAttrs_str slot hty hm ho.h ha.h hbase hfew hline hs Gw) λσ H Q Fm=>Fm.elim λX2 μ G s h p=>⟨X2,μ,G,s,h,(c7.bind p).mono λd X0 G1 H1 x1 h1 p1 v rv=>by obtain⟨ty,p2⟩:=hU rv p1;exact⟨ty,X2,X0,G1,s.mono x1,h1,(c7.bind p2).mono λds WY G2 H2 x2 h2 p3 vs rvs=>⟨d,ds,WY,G2,rv.mono x2,rvs,h2,p3⟩⟩⟩
end
def AA(sep:Str)(l:List D):M D:=do
 let ss <-N0 (i8 l)
 if (ss.map (·.length)).sum+ss.length*sep.length<=16777216 then pure (.str (ZW sep ss))else M.stuck
def d6:D->List D->M D:=λx ds=>match x,ds with
 | .str sep, [.tup l]=>AA sep l
 | .str sep, [.ref r]=>do
   match <-J5 r with
   | .lst l=>AA sep l
   |_=>M.stuck
 |_,_=>M.stuck
section
theorem NU:MtD X Z "str.join" d6:=by
 intro pins s σ H x xs v us Q I rx rvs Fm;obtain⟨d,ds,μ,G,rd,rl,hr,p⟩:=Fm;unfold d6 at p;split at p
 · rename_i sep l;rw[K0 rd]at rx;obtain⟨t,rfl⟩:=rx;obtain⟨v1,rfl,rv1⟩:=F1 rl;obtain⟨u,rfl,ru⟩:=W2 rvs;unfold d7 at rv1;obtain⟨a,vs,rfl,q,Gf⟩:=rv1
   cases ru
   obtain⟨Fj,rv,tp,hz⟩:=I.tuple q;unfold AA at p;obtain⟨ss,es,p2⟩:=O7 p;split at p2
   case isFalse=>exact p2.elim
   rename_i hok;exact join_tuple tp (HF es Gf rv) hok λt' k=>⟨.str (ZW sep ss),H,I.tok k,⟨t',rfl⟩,c7.ok p2 hr _ (by unfold d7;rfl)⟩
 · rename_i sep r;rw[K0 rd]at rx;obtain⟨t,rfl⟩:=rx;obtain⟨v1,rfl,rv1⟩:=F1 rl;obtain⟨u,rfl,ru⟩:=W2 rvs;unfold d7 at rv1;obtain⟨a,m,rfl⟩:=rv1
   cases ru
   obtain⟨o,g,p1⟩:=w6 p;have ro:=hr.obj r o a g m;rcases o with l|l|l|l
   ·
     obtain⟨vs,q,Gf⟩:=ro;obtain⟨Fj,rv,pl,hz⟩:=I.list (SqL.of q);unfold AA at p1;obtain⟨ss,es,p2⟩:=O7 p1;split at p2
     case isFalse=>exact p2.elim
     rename_i hok;exact join_list pl.isList (HF es Gf rv) hok λt' k=>⟨.str (ZW sep ss),H,I.tok k,⟨t',rfl⟩,c7.ok p2 hr _ (by unfold d7;rfl)⟩
   ·exact p1.elim
   ·exact p1.elim
   ·exact p1.elim
 ·exact p.elim
end
end DL
namespace W
open PySem PySem.Spec L2 DL
open PyProof.Rows hiding St
section
theorem gE:Wp (isStrM (.str z)) G R↔R () G:=d8
theorem GR(e:G[r]? =some (.lst l))(hs:i8 l=some ss)(hok:(ss.map (·.length)).sum+ss.length*sep.length<=16777216):Wp (d6 (.str sep) [.ref r]) G Q↔Q (.str (ZW sep ss)) G:=by
 have h:d6 (.str sep) [.ref r]= (do
  match <-J5 r with
  | .lst l=>AA sep l
  |_=>M.stuck):=rfl
 rw[h];simp only[d9,K4,e,Q5,AA,n9,hs,if_pos hok,d8]
end
end W
namespace DL
open PySem PySem.Spec L2
open PyProof.Rows hiding St
def x5(n:Nat)(lo hi st:Option Int):List Nat:=Xq (jZ lo hi st n).1 (jZ lo hi st n).2.1 (jZ lo hi st n).2.2
def E7(l:List D)(lo hi st:Option Int):List D:=(x5 l.length lo hi st).filterMap (l[·]?)
def A7:D->Option Int->Option Int->Option Int->M D:=λx lo hi st=>match x with
 | .ref r=>do
   let l <-J5 r >>= listOf
   if st=some 0 then M.stuck else J4 (.lst (E7 l lo hi st))
 |_=>M.stuck
def E9(f:Fe)(lo hi st:Fo):Fe:=λσ=>do
 let x <-f σ
 let l <-lo σ
 let h <-hi σ
 let s <-st σ
 A7 x l h s
section
variable{X:Cx}{Z:XC}{μ:List Addr}{H:Hp}
theorem g8.pick(h:g8 c μ H l vs):∀is:List Nat,g8 c μ H (is.filterMap (l[·]?)) (is.filterMap (vs[·]?))
 |[]=>rfl
 |i::r=>by
   have ih:=g8.pick h r;rw[ji,ji];by_cases hi:i<l.length
   ·have e:l[i]? =some l[i]:=zq hi;obtain⟨v,e2,r2⟩:=h.get e;rw[e,e2];exact⟨v,_,rfl,r2,ih⟩
   · have hi2:vs.length<=i:=by rw[<-h.length];lia
     rw[zM (by lia),zM hi2];exact ih
theorem OE(h:j7 vs us):∀is:List Nat,j7 (is.filterMap (vs[·]?)) (is.filterMap (us[·]?))
 |[]=>.nil
 |i::r=>by
   have ih:=OE h r;rw[ji,ji];by_cases hi:i<vs.length
   ·have e:vs[i]? =some vs[i]:=zq hi;obtain⟨v,e2,r2⟩:=h.get e;rw[e,e2];exact .cons r2 ih
   · have hi2:us.length<=i:=by rw[<-h.length];lia
     rw[zM (by lia),zM hi2];exact ih
variable{e t:Expr}{lo hi:Option Expr}{fa:Fe}{fl fh ft:Fo}{p2 pos:Pos}
theorem gR(he:DE X Z e fa)(hl:DOp X Z lo fl)(hu:DOp X Z hi fh)(ht:DOp X Z (some t) ft):DE X Z (.Subscript e (.Slice lo hi (some t) p2) pos) (E9 fa fl fh ft):=⟨by
 intro pins s σ H Q I Fm;refine Fm.elim λX2 μ G sr h p=>?_;have p0:=c7.bind p;refine Subscript_ (thn (he.h pins s σ H (λv H1=>∃d X0 G1,d7 (wc X) X0 H1 d v/\j8 (wc X) X0 G1 H1/\t8 (wc X) X0 H1 X2 σ/\c7 (wc X) Z X0 H1 ((fl X2 >>= λl=>fh X2 >>= λh=>ft X2 >>= λs=>A7 d l h s) G1) (λd X9 _ H'=>∀v,d7 (wc X) X9 H' d v->Q v H')) I ⟨X2,μ,G,sr,h,p0.mono λd X0 G1 H1 x1 h1 p1 v rv=>⟨d,X0,G1,rv,h1,sr.mono x1,p1⟩⟩) λv s1 ⟨x,H1,I1,r1,d,X0,G1,rd,h1,sr1,p1⟩=>?_);refine wpAny_Slice ?_;refine thn (hl.h pins s1 σ H1 (λl H2=>∃ WY G2,d7 (wc X) WY H2 d x/\j8 (wc X) WY G2 H2/\t8 (wc X) WY H2 X2 σ/\c7 (wc X) Z WY H2 ((fh X2 >>= λh=>ft X2 >>= λs=>A7 d l h s) G2) (λd X9 _ H'=>∀v,d7 (wc X) X9 H' d v->Q v H')) I1 ⟨X2,X0,G1,sr1,h1,(c7.bind p1).mono λl WY G2 H2 x2 h2 p2=>⟨WY,G2,rd.mono x2,h2,sr1.mono x2,p2⟩⟩) λvl s2 ⟨l,H2,I2,pl,WY,G2,rd2,h2,sr2,p2⟩=>?_;refine thn (hu.h pins s2 σ H2 (λu H3=>∃ WN G3,d7 (wc X) WN H3 d x/\j8 (wc X) WN G3 H3/\t8 (wc X) WN H3 X2 σ/\c7 (wc X) Z WN H3 ((ft X2 >>= λs=>A7 d l u s) G3) (λd X9 _ H'=>∀v,d7 (wc X) X9 H' d v->Q v H')) I2 ⟨X2,WY,G2,sr2,h2,(c7.bind p2).mono λu WN G3 H3 x3 h3 p3=>⟨WN,G3,rd2.mono x3,h3,sr2.mono x3,p3⟩⟩) λvu s3 ⟨u,H3,I3,pu,WN,G3,rd3,h3,sr3,p3⟩=>?_;refine thn (ht.h pins s3 σ H3 (λk H4=>∃ WI G4,d7 (wc X) WI H4 d x/\j8 (wc X) WI G4 H4/\c7 (wc X) Z WI H4 (A7 d l u k G4) (λd X9 _ H'=>∀v,d7 (wc X) X9 H' d v->Q v H')) I3 ⟨X2,WN,G3,sr3,h3,(c7.bind p3).mono λk WI G4 H4 x4 h4 p4=>⟨WI,G4,rd3.mono x4,h4,p4⟩⟩) λvk s4 ⟨k,H4,I4,pk,WI,G4,rd4,h4,p4⟩=>?_;have I5:Inv X pins σ H4 {s4 with heap:=s4.heap.push {cls:=.type "slice",data:=.fields #[vl,vu,vk]}}:=I4.kept λb ob q=>zc _ q;have hsl:Heap.IsSliceOf (s4.heap.push {cls:=.type "slice",data:=.fields #[vl,vu,vk]}) s4.heap.objs.size vl vu vk:=Yt ..
 cases d with
 |ref r=>
   obtain⟨ls,a,vs,rfl,rl,p5,hq⟩:=dE h4 rd4 p4
   cases r1
   split at p5
   case isTrue=>exact p5.elim
   rename_i hk0;have hs:SqL X.K H4 a vs:=by
    rcases hq with⟨z,_⟩|⟨_,_,_,⟨_,q⟩|⟨_,q⟩⟩
    ·cases z
    ·exact SqL.of q
    ·exact q.sq
   obtain⟨Fj,rr,ht,hz⟩:=I5.list hs;refine tail_any ht.isList.typeIs Yy.lookup (XW ht.isList hsl pl pu pk hk0 ?_ (by rw[zg,<-rr.length];exact hz)) (by with_unfolding_all rfl);have hf:=I5.hok.fresh (zh _);have en:Fj.toArray.size=vs.length:=by rw[zg,rr.length]
   have ep:Ji Fj.toArray l u k=zB ((x5 ls.length l u k).filterMap (Fj[·]?)):=by unfold Ji x5;rw[rl.length,en];congr 1;congr 1;funext i;simp
   have Fp:((x5 ls.length l u k).filterMap (vs[·]?)).length<=zi:=by have h1:=slicePick_size_le Fj.toArray l u k;rw[ep,zg,zg]at h1;have h2:=(OE rr (x5 ls.length l u k)).length;have h3:=rr.length;lia
   rw[ep];refine⟨.ref _,upd H4 _ (.lst ((x5 ls.length l u k).filterMap (vs[·]?))),I5.laid (λb u e=>zc _ e) (zh _) ?_,rfl,Q9 h4 (rl.pick _) p5 _ hf⟩;exact⟨Fp,_,0,OE rr _,zu _ rfl⟩
 |_=>exact p4.elim⟩
end
end DL
namespace W
open PySem PySem.Spec L2 DL
open PyProof.Rows hiding St
section
theorem QK{lo hi st:Fo}:Wp (E9 f lo hi st σ) G Q↔Wp (f σ) G λx G1=>Wp (lo σ) G1 λl G2=>Wp (hi σ) G2 λh G3=>Wp (st σ) G3 λk G4=>Wp (A7 x l h k) G4 Q:=by unfold E9;simp only[d9]
theorem NH{lo hi st:Option Int}(e:G[p]? =some (.lst l))(h:st≠some 0):Wp (A7 (.ref p) lo hi st) G Q↔Q (.ref G.length) (G++[.lst (E7 l lo hi st)]):=by
 have h0:A7 (.ref p) lo hi st= (do
  let l <-J5 p >>= DL.listOf
  if st=some 0 then M.stuck else J4 (.lst (E7 l lo hi st))):=rfl
 rw[h0];simp only[d9,K4,e,Q5,DL.listOf,d8,if_neg h,R0]
end
end W
namespace DL
open PySem PySem.Spec L2
open PyProof.Rows hiding St
section
theorem QT(σ:St)(H:Hp)(Q:VK)(h:B3 (wc X) Z (WB o o' fa fb fc) σ H Q):EI (l8 (wc X) Z o) (l8 (wc X) Z o') (B3 (wc X) Z fa) (B3 (wc X) Z fb) (B3 (wc X) Z fc) σ H Q:=by
 obtain⟨X2,μ,G,s,h,p⟩:=h;exact⟨X2,μ,G,s,h,(c7.bind p).mono λx X0 G1 H1 x1 h1 p1 v rv=>
  ⟨X2,X0,G1,s.mono x1,h1,(c7.bind p1).mono λy WY G2 H2 x2 h2 p2 u ru=>⟨x,y,WY,G2,rv.mono x2,ru,h2,(c7.bind p2).mono λz WN G3 H3 x3 h3 p3 w rw'=>by
   obtain⟨k,rfl,p4⟩:=nK p3;refine⟨k,D5 rw',?_⟩
   cases k with
   |true=>exact⟨X2,WN,G3,s.mono (x1.trans (x2.trans x3)),h3,(c7.bind p4).mono λt WI G4 H4 x4 h4 p5 q rq=>⟨y,t,WI,G4,ru.mono (x3.trans x4),rq,h4,p5⟩⟩
   |false=>exact c7.ok p4 h3 _ ofB⟩⟩⟩
theorem DP(ho:OpD X Z (zH op) o)(ho':OpD X Z (zH op') o')(ha:DE X Z a fa)(hb:DE X Z b fb)(hc:DE X Z c fc)
 (hm:lastMarks [op,op'] [b,c]=false):DT X Z (.Compare a [op,op'] [b,c] pos) (n4 (WB o o' fa fb fc)):=
 DT.of (RQ ho.h ho'.h ha.h hb.h hc.h hm) λσ H Q Fm=>Fm.elim λX2 μ G s h p=>QT σ H _ ⟨X2,μ,G,s,h,(c7.bind p).mono λx X0 G1 H1 x' h1 p1 v rv=>by
  cases x with
  |bl k'=>unfold d7 at rv;exact⟨k',rv,c7.ok p1 h1⟩
  |_=>exact p1.elim⟩
end
section
end
end DL
namespace W
open PySem PySem.Spec L2 DL
open PyProof.Rows hiding St
end W
namespace DL
open PySem PySem.Spec L2
open PyProof.Rows hiding St
section
variable{X:Cx}{Z:XC}{o e:Expr}{es:List Expr}{fo:Fe}{fs:DSt->M (List D)}{name:Str}{id:String}{mm:D->List D->M D}{Gq Fz:Pos}
end
section
end
def i5(G:DH)(x:D):List D->Option Bool
 |[]=>some false
 |d::t=>match eqN 40 G d x,i5 G x t with
   |some a,some b=>some (a||b)
   |_,_=>none
theorem OW:i5 G x (d::t)=match eqN 40 G d x,i5 G x t with
 |some a,some b=>some (a||b)
 |_,_=>none:=rfl
def l9(x y:D)(G:DH):Option Bool:=match y with
 | .tup l=>i5 G x l
 | .ref r=>match G[r]? with
   |some (.lst l)=>i5 G x l
   |some (.rol l)=>i5 G x l
   |_=>none
 |_=>none
def inX:D->D->M D:=λx y G=>match l9 x y G with
 |some b=>some (.ok (.bl b),G)
 |none=>none
section
theorem eO(hu:X.A.units+64<yH)(I:Inv X pins σ H s)(hr:j8 (wc X) μ G H)(Gj:d7 (wc X) μ H dx x)(rx:o5 x v):
 ∀ {l} {vs} {us} {b},g8 (wc X) μ H l vs->j7 vs us->i5 G dx l=some b->
  (∀u∈us,∃c,jp X.A.in1 s u v c)/\(b=true->∃u∈us,jp X.A.in1 s u v true)/\(b=false->∀u∈us,jp X.A.in1 s u v false):=by
 intro l
 induction l with
 |nil=>
   intro vs us b rl rv e
   cases rl
   cases rv
   cases e
   exact⟨λu hu=>(by cases hu),λz=>absurd z zv,λ_ u hu=>(by cases hu)⟩
 |cons d t ih=>
   intro vs us b rl rv e;obtain⟨w,tv,rfl,q,rt⟩:=rl
   cases rv with
   |cons r1 rs=>
   rename_i u us1;rw[OW]at e;rcases e1:eqN 40 G d dx with _|a
   ·rw[e1]at e;cases e
   ·
     rcases e2:i5 G dx t with _|b2
     ·rw[e1,e2]at e;cases e
     ·
       rw[e1,e2]at e
       cases e
       have h1:=(oB I hr 40 X.A.in1 (by show X.A.units+1+40<yH;lia) q Gj r1 rx e1).2.2;obtain⟨k1,k2,k3⟩:=ih rt rs e2;refine⟨λu' hu'=>?_,λz=>?_,λz u' hu'=>?_⟩
       · rcases zz.mp hu' with rfl|hu'
         ·exact⟨a,h1⟩
         ·exact k1 u' hu'
       · rcases a with _|_
         ·
           obtain⟨u',h3,h4⟩:=k2 z;exact⟨u',zk _ h3,h4⟩
         ·exact⟨u,zr,h1⟩
       · rcases a with _|_
         ·
           rcases zz.mp hu' with rfl|hu'
           ·exact h1
           ·exact k3 z u' hu'
         ·cases z
open Classical in
theorem wL(hu:X.A.units+64<yH)(I:Inv X pins σ H s)(hr:j8 (wc X) μ G H)(Gj:d7 (wc X) μ H dx x)(rx:o5 x v)
 (rl:g8 (wc X) μ H l vs) (rv:j7 vs us) (e:i5 G dx l=some b):
   ∃f:zd->Bool,(∀u∈us,jp X.A.in1 s u v (f u))/\us.any f=b:=by
 obtain⟨k1,k2,k3⟩:=eO hu I hr Gj rx rl rv e;rcases b with _|_
 ·exact⟨λ_=>false,λu hu=>k3 rfl u hu,by simp⟩
 ·
   refine⟨λu=>decide (jp X.A.in1 s u v true),λu hu=>?_,?_⟩
   · dsimp only;by_cases c:jp X.A.in1 s u v true
     ·rw[decide_eq_true c];exact c
     · rw[decide_eq_false c];obtain⟨c',hc⟩:=k1 u hu;rcases c' with _|_
       ·exact hc
       ·exact absurd hc c
   ·obtain⟨u,hu,h⟩:=k2 rfl;exact List.any_eq_true.mpr ⟨u,hu,decide_eq_true h⟩
theorem FN(hu:X.A.units+64<yH)(I:Inv X pins σ H s)(hr:j8 (wc X) μ G H)(Gj:d7 (wc X) μ H dx x)(Gk:d7 (wc X) μ H dy y)(rx:o5 x v)(ry:o5 y u)
 (e:l9 dx dy G=some b):
 (Q (.bl b) H->zp (zy X.prog X.w) X.A (zH .In v u) (EP X pins σ Q) X.xe s)/\(Q (.bl (!b)) H->zp (zy X.prog X.w) X.A (zH .NotIn v u) (EP X pins σ Q) X.xe s):=by
 have seq:∀(p:Addr) (l:List D) (vs:List V),y= .ref p->(SqL X.K H p vs\/SqT X.K H p vs)->g8 (wc X) μ H l vs->i5 G dx l=some b->
  (Q (.bl b) H->zp (zy X.prog X.w) X.A (zH .In v u) (EP X pins σ Q) X.xe s)/\(Q (.bl (!b)) H->zp (zy X.prog X.w) X.A (zH .NotIn v u) (EP X pins σ Q) X.xe s):=by
  intro p l vs hy hq rl e;subst hy
  cases ry
  rcases hq with hq|hq
  · obtain⟨Fj,r,pl,hz⟩:=I.list hq;obtain⟨f,h1,h2⟩:=wL hu I hr Gj rx rl r e;have h3:Fj.toArray.any f=b:=by rw[<-h2];simp
    exact⟨λq=>JR f pl.isList (λw hw=>h1 w (by simpa using hw)) ⟨.bl _,H,I,rfl,by rw[h3];exact q⟩,λq=>Ja f pl.isList (λw hw=>h1 w (by simpa using hw)) ⟨.bl _,H,I,rfl,by rw[h3];exact q⟩⟩
  · obtain⟨Fj,r,pl,hz⟩:=I.tuple hq;obtain⟨f,h1,h2⟩:=wL hu I hr Gj rx rl r e;have h3:Fj.toArray.any f=b:=by rw[<-h2];simp
    exact⟨λq=>JK f pl (λw hw=>h1 w (by simpa using hw)) ⟨.bl _,H,I,rfl,by rw[h3];exact q⟩,λq=>XJ f pl (λw hw=>h1 w (by simpa using hw)) ⟨.bl _,H,I,rfl,by rw[h3];exact q⟩⟩
 rcases dy with _|_|_|_|l|i|_|_<;>try (cases e;done)
 ·
   unfold d7 at Gk;obtain⟨a,vs,hy,q,rl⟩:=Gk;exact seq a l vs hy (.inr q) rl e
 ·
   unfold d7 at Gk;obtain⟨a,m,hy⟩:=Gk;rcases g:G[i]? with _|o
   ·unfold l9 at e;simp only[g]at e;cases e
   ·
     have ro:=hr.obj i o a g m;rcases o with l|l|_|_<;>try (unfold l9 at e;simp only[g]at e;cases e;done)
     ·
       obtain⟨vs,q,rl⟩:=ro;unfold l9 at e;simp only[g]at e;exact seq a l vs hy (.inl (SqL.of q)) rl e
     ·
       obtain⟨vs,q,rl⟩:=ro;unfold l9 at e;simp only[g]at e;exact seq a l vs hy (.inl q.sq) rl e
theorem aU(hu:X.A.units+64<yH):OpD X Z (zH .In) inX:=⟨by
 intro pins s σ H x y v u Q I rx ry Fm;refine Fm.elim λdx dy μ G Gj Gk hr p=>?_;unfold inX at p;rcases e:l9 dx dy G with _|b
 ·rw[e]at p;exact p.elim
 ·rw[e]at p;exact(FN hu I hr Gj Gk rx ry e).1 (c7.ok p hr _ ofB)⟩
end
section
end
end DL
namespace W
open PySem PySem.Spec L2 DL
open PyProof.Rows hiding St
end W
namespace DL
open PySem PySem.Spec L2
open PyProof.Rows hiding St
section
end
section
end
end DL
namespace W
open PySem PySem.Spec L2 DL
open PyProof.Rows hiding St
end W
namespace DL
open PySem PySem.Spec L2
open PyProof.Rows hiding St
theorem b8(e:m G=some (.ok a,G'))(q:Q a G'):Wp m G Q:=⟨a,G',e,q⟩
def PB(Q:DPP):Fl->DH->Prop
 | .nx _,G=>Q .non G
 | .rt d,G=>Q d G
 |_,_=>False
section
variable{m:Nat}{f S g:Fs}{ds as:List D}{d:D}{G G':DH}{Q:DPP}{P A:Fl->DH->Prop}{σ X1:DSt}{e:Fe}
theorem m9(w:Wp (f (ds.map some++jV (m-ds.length) none)) G (PB Q)):Wp (m8 m f ds) G Q:=
 VE.mpr (w.mono λfl G1 h=>match fl,h with
  | .nx _,h=>h
  | .rt _,h=>h
  | .bk _,h=>h.elim
  | .ct _,h=>h.elim)
theorem o4(q:Q d G):PB Q (.rt d) G:=q
theorem Z7(e:f (ds.map some++jV (m-ds.length) none) G=some (.ok (.rt d),G'))(q:Q d G'):Wp (m8 m f ds) G Q:=m9 (b8 e q)
theorem o7(e:S σ G=some (.ok (.nx X1),G'))(w:Wp (g X1) G' P):Wp (seqS S g σ) G P:=f9.mpr (b8 e w)
end
section
variable{a b c:Fe}{d x y z:D}{G G1 G2:DH}{R:List D->DH->Prop}{σ:DSt}
theorem M3(w:Wp (t σ) G λk G1=>(k=true->Wp (f σ) G1 P)/\(k=false->Wp (g σ) G1 P)):Wp (ifS t f g σ) G P:=
 vH.mpr (w.mono λk G1 h=>by cases k with|true=>exact h.1 rfl|false=>exact h.2 rfl)
theorem A5(w:Wp (t σ) G λk G1=>(k=true->Wp (u σ) G1 B)/\(k=false->B false G1)):Wp (Q1 t u σ) G B:=
 qF.mpr (w.mono λk G1 h=>by cases k with|true=>exact h.1 rfl|false=>exact h.2 rfl)
theorem sF(w:Wp (t σ) G λk G1=>(k=true->B true G1)/\(k=false->Wp (u σ) G1 B)):Wp (orT t u σ) G B:=
 fY.mpr (w.mono λk G1 h=>by cases k with|true=>exact h.1 rfl|false=>exact h.2 rfl)
theorem AC{g:Fg}(e:b σ G=some (.ok (.tup l),G1))(h:l.length<=10000)(w:Wp (M7 g t a (λ_=>true) l (F2 caps σ)) G1 λys G2=>Q (.ref G2.length) (G2++[.lst ys])):Wp (N6 (itW b) caps g t a σ) G Q:=
 W.wp_comp.mpr (W.wp_itW.mpr (b8 e (W.srcW_tup.mpr ⟨zP h (show 10000<=zi by decide),w⟩)))
theorem pL(e:t σ G=some (.ok false,G1))(w:Wp (b σ) G1 Q):Wp (ifE t a b σ) G Q:=vA.mpr (b8 e w)
theorem v6(w:Wp (a σ) G λd G1=>P (.nx (σ.set i (some d))) G1):Wp (G9 a (B1 i) σ) G P:=l7.mpr (w.mono λ_ _ h=>O6.mpr h)
theorem o9(w:Wp (a σ) G λd G1=>P (.rt d) G1):Wp (o8 a σ) G P:=MC.mpr w
theorem j4(e:fs σ G=some (.ok as,G1))(h:as.length=n)(w:Wp (F as) G1 Q):Wp (C1 (fnX n F) fs σ) G Q:=gA.mpr (b8 e (N4.mpr ⟨h,w⟩))
theorem T8(e:fs σ G=some (.ok as,G1))(w:Wp (F as) G1 Q):Wp (C1 F fs σ) G Q:=gA.mpr (b8 e w)
theorem N5(w:Wp (fs σ) G λas G1=>Wp (F as) G1 Q):Wp (C1 F fs σ) G Q:=gA.mpr w
theorem Dk(ea:a σ G=some (.ok x,G1))(eb:b σ G1=some (.ok y,G2))(w:Wp (o x y) G2 Q):Wp (j6 o a b σ) G Q:=D6.mpr (b8 ea (b8 eb w))
theorem bin_w(w:Wp (a σ) G λx G1=>Wp (b σ) G1 λy G2=>Wp (o x y) G2 Q):Wp (j6 o a b σ) G Q:=D6.mpr w
theorem cN(e:a σ G=some (.ok x,G1))(w:Wp (fs σ) G1 λxs G2=>R (x::xs) G2):Wp (x0 a fs σ) G R:=F7.mpr (b8 e w)
theorem o6(w:Wp (a σ) G λx G1=>Wp (fs σ) G1 λxs G2=>R (x::xs) G2):Wp (x0 a fs σ) G R:=F7.mpr w
theorem u6(w:Wp (a σ) G λx G1=>∃k,x= .bl k/\B k G1):Wp (n4 a σ) G B:=AB.mpr w
end
def FH(K:ze)(x:Str)(st:Stmt):Prop:=∃(f:Addr) (od an:Option Addr) (sl:Array (Option zd)) (oc kV dc pm cd ct:zd),yQ K zZ x=some (some (.ref f))/\
 K.lookup f=some ⟨oc,od,.func (jK x x (X8 st) (O9 st) (t7 st) .none kV dc pm an cd ct),sl⟩/\xm K cd x=true/\jN K (.ref f)=true
section
variable{K:ze}{h:Heap}{mg:Str->Option zd}{x:Str}{st:Stmt}
theorem FH.of{oc kV dc pm cd ct:zd}(a:yQ K zZ x=some (some (.ref f)))
 (l:K.lookup f=some ⟨oc,od,.func (jK x x (X8 st) (O9 st) (t7 st) .none kV dc pm an cd ct),sl⟩) (e:xm K cd x=true) (k:jN K (.ref f)=true):FH K x st:=
 ⟨f,od,an,sl,oc,kV,dc,pm,cd,ct,a,l,e,k⟩
variable{ps:List Str}
theorem FH.ff(H:FH K x st)(X:K.In h)(G:h.Ns zZ mg)(b:∀kV doc pm an Gh ct us,us.length=ps.length->bindArgs (jK x x (X8 st) (O9 st) (t7 st) .none kV doc pm an Gh ct) ⟨us, []⟩=pure (ps.zip us)):∃f fd,FF K mg x st ps f fd:=by obtain⟨f,od,an,sl,oc,kV,dc,pm,cd,ct,a,l,e,k⟩:=H;exact⟨_,_,uE l e k,(uE l e k).binds b,xz X G a⟩
theorem fW(h:us.length=n+1):∃a t,us=a::t/\t.length=n:=by
 rcases us with _|⟨a,t⟩
 ·cases h
 ·exact⟨a,t,rfl,JT h⟩
theorem BLs.of(X:K.In h)(G:h.Ns zZ mg)(z:∀b∈bltL,yQ K zZ b=some none):BLs mg:=⟨λb hb=>PySem.W.mg_none_of X G (z b hb)⟩
end
abbrev sR(h:Heap)(z TI TO:Addr)(f0:zd)(b:Bool):Prop:=
 h.get? z=some {cls:=.type "zip",dict:=none,data:=.fields #[f0,.bool b,.bool false,.ref TI,.ref TO],slots:= #[]}
section
variable{prog:zI}{w:zR}{A:jb}{E:VSP}{s:zm}{k1 k2:Bool}{i:Nat}{z TI TO i1 i2 l1 l2 T:Addr}{xs ys:Array zd}{b:Bool}
structure ZSt(k1 k2:Bool)(z TI TO i1 i2 l1 l2:Addr)(xs ys:Array zd)(n0 i:Nat)(h:Heap):Prop where
 hz:(xD h z TI TO .none/\∃a b,jX h TO a b)\/∃T b,sR h z TI TO (Yq ((n0+T:Nat):Int)) b/\T<i
 hTI:jX h TI (.ref i1) (.ref i2)
 h1:SI k1 h i1 l1 i
 h2:SI k2 h i2 l2 i
 c1:SC k1 h l1 xs
 c2:SC k2 h l2 ys
end
section
variable{H:Hp}{n0:Nat}{ws:List (V×V)}
end
section
variable{X:Cx}{Z:XC}{a b:Expr}{fs:DSt->M (List D)}{p1 p2 pos1 pos2:Pos}
end
end DL
namespace TS
open PySem PyProof.Rows
section
variable{prog:zI}{w:zR}{A:jb}{E:VSP}{s:zm}
def kz(p:jC):Int:=numOf p.1
def isI(p:jC):Prop:=∃n t,p.1= .int n t
end
def leK(x y:jC):Prop:=kz x<=kz y
def Srt(l:List jC):Prop:=l.Pairwise leK
theorem Srt.app{a b:List jC}(ha:Srt a)(hb:Srt b)(h:∀x∈a,∀y∈b,leK x y):Srt (a++b):=jv.mpr ⟨ha,hb,h⟩
theorem Srt.left{a b:List jC}(h:Srt (a++b)):Srt a:=(jv.mp h).1
theorem Srt.right{a b:List jC}(h:Srt (a++b)):Srt b:=(jv.mp h).2.1
theorem Srt.mid{a b:List jC}(h:Srt (a++b)):∀x∈a,∀y∈b,leK x y:=(jv.mp h).2.2
structure MI(L out A B:List jC):Prop where
 perm:(out++(A++B)).Perm L
 so:Srt out
 oa:∀x∈out,∀y∈A,leK x y
 ob:∀x∈out,∀y∈B,leK x y
 sa:Srt A
 sb:Srt B
theorem MI.bk{L out C A B:List jC}(h:MI L out A (C++B))(k:∀c∈C,∀x∈A,leK c x):MI L (out++C) A B where
 perm:=by refine List.Perm.trans ?_ h.perm;rw[zD];refine List.Perm.append_left _ ?_;rw[<-zD,<-zD];exact List.Perm.append_right _ List.perm_append_comm
 so:=h.so.app h.sb.left λx hx y hy=>h.ob x hx y (by simp[hy])
 oa:=λx hx y hy=>by
  rcases zU.mp hx with hx|hx
  ·exact h.oa x hx y hy
  ·exact k x hx y hy
 ob:=λx hx y hy=>by
  rcases zU.mp hx with hx|hx
  ·exact h.ob x hx y (by simp[hy])
  ·exact h.sb.mid x hx y hy
 sa:=h.sa
 sb:=h.sb.right
structure MJ(L A B S:List jC):Prop where
 perm:(A++(B++S)).Perm L
 ss:Srt S
 as:∀x∈A,∀y∈S,leK x y
 bs:∀x∈B,∀y∈S,leK x y
 sa:Srt A
 sb:Srt B
theorem MJ.bk{L A B C S:List jC}(h:MJ L A (B++C) S)(k:∀a∈A,∀c∈C,leK a c):MJ L A B (C++S) where
 perm:=by have:=h.perm;simp only[zD]at this ⊢;exact this
 ss:=h.sb.right.app h.ss λx hx y hy=>h.bs x (by simp[hx]) y hy
 as:=λx hx y hy=>by
  rcases zU.mp hy with hy|hy
  ·exact k x hx y hy
  ·exact h.as x hx y hy
 bs:=λx hx y hy=>by
  rcases zU.mp hy with hy|hy
  ·exact h.sb.mid x hx y hy
  ·exact h.bs x (by simp[hx]) y hy
 sa:=h.sa
 sb:=h.sb.left
def B6(a:Array jC):Prop:=∀p∈a.toList,isI p
theorem B6.at{a:Array jC}(h:B6 a){i:Nat}{p:jC}(e:a[i]? =some p):isI p:=h p (by rw[<-js]at e;exact yb e)
theorem B6.get{a:Array jC}(h:B6 a){i:Nat}(hi:i<a.size):∃p,a[i]? =some p/\isI p:=⟨_,jE hi,h.at (jE hi)⟩
def Same(st Fx:xn):Prop:=yr Fx=yr st/\jB Fx=jB st/\xJ Fx=xJ st/\xj Fx=xj st
theorem Same.refl{st:xn}:Same st st:=⟨rfl,rfl,rfl,rfl⟩
theorem Same.trans{a b c:xn}(h:Same a b)(k:Same b c):Same a c:=⟨k.1.trans h.1,k.2.1.trans h.2.1,k.2.2.1.trans h.2.2.1,k.2.2.2.trans h.2.2.2⟩
structure LI(a b:Array jC)(out:Array jC)(ia ib:Nat):Prop where
 mi:MI (a.toList++b.toList) out.toList (a.toList.drop ia) (b.toList.drop ib)
 ha:ia+1<a.size
 hb:ib<b.size
 sz:out.size=ia+ib
section
variable{a b out:Array jC}{ia ib:Nat}
end
section
variable{prog:zI}{w:zR}{A:jb}{E:VSP}{s:zm}
end
section
variable{prog:zI}{w:zR}{A:jb}{E:VSP}{s:zm}
end
structure HI(a b:Array jC)(out:Array jC)(na nb:Nat):Prop where
 mj:MJ (a.toList++b.toList) (a.toList.take na) (b.toList.take nb) out.toList.reverse
 ha:0<na
 hb:1<nb
 la:na<=a.size
 lb:nb<=b.size
 sz:out.size+na+nb=a.size+b.size
section
variable{a b out:Array jC}{na nb:Nat}
end
section
variable{prog:zI}{w:zR}{A:jb}{E:VSP}{s:zm}
end
section
variable{prog:zI}{w:zR}{A:jb}{E:VSP}{s:zm}
structure Aft(st Fx:xn)(l:List jC)(p:Array (Nat×Nat×Nat)):Prop where
 kind:yr Fx=Zh
 arr:(jB Fx).toList=l
 pend:xJ Fx=p
 fail:xj Fx=none
end
def ND(a:Array jC):Prop:=(a.toList.map kz).Nodup
theorem KC{a:Array jC}{i:Nat}{p:jC}(e:a[i]? =some p):K a i=kz p:=by unfold K;rw[e];rfl
theorem ND.ne{a:Array jC}(h:ND a){i j:Nat}(hi:i<a.size)(hj:j<a.size)(ne:i≠j):K a i≠K a j:=by rw[KC (jE hi),KC (jE hj)];intro e;have:=xO (i:=i) (j:=j) (h₀:=by simpa using hi) (h₁:=by simpa using hj) h;simp only[List.getElem_map,Array.getElem_toList]at this;exact ne (this.mp e)
theorem B6.perm{a b:Array jC}(h:B6 a)(p:b.Perm a):B6 b:=λx hx=>h x ((jT.mp p).mem_iff.mp hx)
theorem ND.perm{a b:Array jC}(h:ND a)(p:b.Perm a):ND b:=((jT.mp p).map kz).nodup_iff.mpr h
def Asc(a:Array jC)(lo m:Nat):Prop:=∀i,i+1<m->K a (lo+i)<K a (lo+i+1)
theorem Asc.lt{a:Array jC}{lo m:Nat}(h:Asc a lo m):∀ {j i:Nat},i<j->j<m->K a (lo+i)<K a (lo+j)
 |0,i,hij,_=>by lia
 |j+1,i,hij,hj=>by
   have h1:=h j hj;by_cases e:i=j
   ·subst e;exact h1
   ·exact Int.lt_trans (h.lt (show i<j by lia) (by lia)) h1
theorem Asc.snoc{a:Array jC}{lo m:Nat}(h:Asc a lo m)(k:K a (lo+m-1)<K a (lo+m))(hm:1<=m):Asc a lo (m+1):=λi hi=>by
 by_cases e:i+1<m
 ·exact h i e
 · have:i=m-1:=by lia
   subst this;rw[show lo+(m-1)=lo+m-1 by lia,show lo+m-1+1=lo+m by lia];exact k
structure Run(lo:Nat)(st Fx:xn):Prop where
 kind:yr Fx=Zh
 pend:xJ Fx=xJ st
 fail:xj Fx=none
 perm:(jB Fx).Perm (jB st)
 low:∀i,i<lo->(jB Fx)[i]? = (jB st)[i]?
theorem Run.refl{lo:Nat}{st:xn}(hk:yr st=Zh)(hf:xj st=none):Run lo st st:=⟨hk,rfl,hf,.refl _,λ_ _=>rfl⟩
theorem Run.size{lo:Nat}{st Fx:xn}(h:Run lo st Fx):(jB Fx).size= (jB st).size:=h.perm.size_eq
section
variable{prog:zI}{w:zR}{A:jb}{E:VSP}{s:zm}
theorem lt_at{st:xn}{i j:Nat}{Q:Option Bool->xn->Prop}(hk:yr st=Zh)(ha:B6 (jB st))(hi:i<(jB st).size)(hj:j<(jB st).size)(h:Q (some (decide (K (jB st) i<K (jB st) j))) st):wpS (zy prog w) A E s (ltAt' i j) Q st:=by
 obtain⟨p,e1,n,t,hp⟩:=ha.get hi;obtain⟨q,e2,m,u,hq⟩:=ha.get hj;obtain⟨p1,p2⟩:=p;obtain⟨q1,q2⟩:=q
 cases hp
 cases hq
 rw[KC e1,KC e2]at h;exact wpS_ltAt hk e1 e2 h
end
theorem Run.trans{lo:Nat}{a b c:xn}(h:Run lo a b)(k:Run lo b c):Run lo a c:=⟨k.kind,k.pend.trans h.pend,k.fail,k.perm.trans h.perm,λi hi=>(k.low i hi).trans (h.low i hi)⟩
theorem GO{a:Array jC}{lo k l:Nat}(nd:ND a)(hs:lo+k<a.size)(h:Asc a lo k)(hl:l<=k)(h1:∀i,i<l->K a (lo+i)<=K a (lo+k))(h2:∀i,l<=i->i<k->K a (lo+k)<K a (lo+i)):Asc (bubble a (lo+k) (lo+k-(lo+l))) lo (k+1):=by
 have hd:lo+k-(lo+l)=k-l:=by lia
 rw[hd];have hK:=λj=>K_bubble (xs:=a) (src:=lo+k) (d:=k-l) hs (by lia) j;intro i hi;rw[hK,hK];have e:lo+k-(k-l)=lo+l:=by lia
 rw[e];by_cases c1:lo+i=lo+l
 · rw[if_pos c1,if_neg (by lia),if_pos (by lia)];have:i=l:=by lia
   subst this;rw[show lo+i+1-1=lo+i by lia];exact h2 i (zh _) (by lia)
 · rw[if_neg c1];by_cases c2:lo+i+1=lo+l
   ·rw[if_pos c2,if_neg (by lia)];have:=h1 i (by lia);have:=nd.ne (i:=lo+i) (j:=lo+k) (by lia) (by lia) (by lia);lia
   · rw[if_neg c2];by_cases c3:lo+l<lo+i/\lo+i<=lo+k
     ·rw[if_pos c3,if_pos (by lia)];have:=h (i-1) (by lia);rw[show lo+(i-1)=lo+i-1 by lia,show lo+i-1+1=lo+i by lia]at this;rw[show lo+i+1-1=lo+i by lia];exact this
     ·rw[if_neg c3,if_neg (by lia)];exact h i (by lia)
section
variable{prog:zI}{w:zR}{A:jb}{E:VSP}{s:zm}
theorem bin_w{st:xn}{lo n ok:Nat}{Q:Bool->xn->Prop}(hk:yr st=Zh)(hf:xj st=none)(ha:B6 (jB st))(nd:ND (jB st))(h1:1<=ok)(hn:ok<=n)(hs:lo+n<=(jB st).size)(h0:Asc (jB st) lo ok)
 (h:∀Fx,Run lo st Fx->Asc (jB Fx) lo n->Q true Fx):wpS (zy prog w) A E s (binarySort' lo n ok) Q st:=by
 unfold binarySort';refine wpS_bind (wpS_mono (wpS_forRange (I:=λk c Fx=>c= (none,())/\Run lo st Fx/\ok<=k/\k<=n/\Asc (jB Fx) lo k) (Q:=λc Fx=>c= (none,())/\Run lo st Fx/\Asc (jB Fx) lo n) ?_ ?_ ⟨rfl,.refl hk hf,by lia,by lia,by rw[Nat.max_eq_left h1];exact h0⟩) ?_)
 · rintro k c st1 _ hx ⟨rfl,hR,g1,g2,g3⟩;dsimp only;have hz:=hR.size;have ha1:=ha.perm hR.perm;have nd1:=nd.perm hR.perm;refine wpS_bind (wpS_mono (wpS_forRange (I:=λx c Fx=>Fx=st1/\∃l r,c= (none,l,r)/\l<=r/\r<=k/\r-l+x<=k/\(∀i,i<l->K (jB st1) (lo+i)<=K (jB st1) (lo+k))/\∀i,r<=i->i<k->K (jB st1) (lo+k)<K (jB st1) (lo+i)) (Q:=λc Fx=>Fx=st1/\∃l,c= (none,l,l)/\l<=k/\(∀i,i<l->K (jB st1) (lo+i)<=K (jB st1) (lo+k))/\∀i,l<=i->i<k->K (jB st1) (lo+k)<K (jB st1) (lo+i)) ?_ ?_ ⟨rfl,0,k,rfl,by lia,by lia,by lia,λi hi=>by lia,λi a b=>by lia⟩) ?_)
   · rintro x c st2 _ hx2 ⟨rfl,l,r,rfl,q1,q2,q3,q4,q5⟩;dsimp only;by_cases hl:l>=r
     · rw[if_pos hl];have:l=r:=by lia
       subst this;exact Xx ⟨rfl,l,rfl,q2,q4,q5⟩
     · rw[if_neg hl];refine wpS_bind (lt_at hR.kind ha1 (by lia) (by lia) ?_);dsimp only;have hm1:l<=(l+r) / 2:=by lia
       have hm2:(l+r) / 2<r:=by lia
       generalize (l+r) / 2=m at hm1 hm2;by_cases Gd:K (jB st2) (lo+k)<K (jB st2) (lo+m)
       · rw[if_pos (decide_eq_true Gd)];refine Xx ⟨rfl,l,m,rfl,by lia,by lia,by lia,q4,λi a b=>?_⟩;by_cases e:i=m
         ·subst e;exact Gd
         ·exact Int.lt_trans Gd (g3.lt (show m<i by lia) b)
       · rw[if_neg (by simpa using Gd)];refine Xx ⟨rfl,m+1,r,rfl,by lia,by lia,by lia,λi a=>?_,q5⟩;by_cases e:i=m
         ·subst e;lia
         ·have:=g3.lt (show i<m by lia) (by lia);lia
   · rintro c st2 ⟨rfl,l,r,rfl,q1,q2,q3,q4,q5⟩;have:l=r:=by rw[Nat.zero_max]at q3;lia
     subst this;exact⟨rfl,l,rfl,q2,q4,q5⟩
   ·rintro c st2 ⟨rfl,l,rfl,q2,q4,q5⟩;dsimp only;refine wpS_bind ?_;show wpS _ _ _ _ (moveDown' (lo+k) (lo+l)) _ _;rw[moveDown'_eq];refine wpS_modify (Xx ⟨rfl,hR.trans ⟨hR.kind,rfl,hR.fail,bubble_perm _ _ _,λi hi=>?_⟩,by lia,by lia,GO nd1 (by lia) g3 q2 q4 q5⟩);show (bubble (jB st2) (lo+k) (lo+k-(lo+l)))[i]? =_;rw[Xh (by lia) _ (by lia),if_neg (by lia),if_neg (by lia)]
 ·rintro c st1 ⟨rfl,hR,g1,g2,g3⟩;rw[Nat.max_eq_right (by lia)]at g3;exact⟨rfl,hR,g3⟩
 ·rintro c st1 ⟨rfl,hR,g3⟩;exact Xx (h st1 hR g3)
end
def lay:Nat->List (List jC)->List Nat->List (Nat×Nat×Nat)
 |o,r::rs,p::ps=>(o,r.length,p)::lay (o+r.length) rs ps
 |_,_,_=> []
theorem UK:∀ {rs1:List (List jC)} {ps1:List Nat} {rs2:List (List jC)} {ps2:List Nat} {o:Nat},rs1.length=ps1.length->lay o (rs1++rs2) (ps1++ps2)=lay o rs1 ps1++lay (o+rs1.flatten.length) rs2 ps2
 |[], [],_,_,o,_=>by simp[lay]
 |[],_::_,_,_,_,h=>by cases h
 |_::_, [],_,_,_,h=>by cases h
 |r::rs1,p::ps1,rs2,ps2,o,h=>by show (o,r.length,p)::lay (o+r.length) (rs1++rs2) (ps1++ps2)= (o,r.length,p)::(lay (o+r.length) rs1 ps1++_);rw[UK (JT h),List.flatten_cons,zf,Nat.add_assoc]
structure GI(a0:List jC)(st:xn)(rs:List (List jC))(ps:List Nat)(T:List jC):Prop where
 kind:yr st=Zh
 fail:xj st=none
 arr:(jB st).toList=rs.flatten++T
 perm:(jB st).toList.Perm a0
 len:rs.length=ps.length
 pend:xJ st= (lay 0 rs ps).toArray
 ok:∀r∈rs,0<r.length/\Srt r
section
variable{prog:zI}{w:zR}{A:jb}{E:VSP}{s:zm}
end
theorem GI.push{a0:List jC}{st:xn}{rs:List (List jC)}{ps:List Nat}{C T:List jC}{lo n:Nat}(g:GI a0 st rs ps (C++T))(hC:0<C.length)(sC:Srt C)(e:rs.flatten.length=lo)(en:C.length=n):GI a0 (setPending st ((xJ st).push (lo,n,0))) (rs++[C]) (ps++[0]) T:=by
 refine⟨g.kind,g.fail,?_,g.perm,by rw[zf,zf,g.len];rfl,?_,λr hr=>?_⟩
 ·show (jB st).toList=_;rw[g.arr];simp
 ·show (xJ st).push (lo,n,0)=_;rw[g.pend,UK g.len,List.push_toArray,Nat.zero_add,e];subst en;rfl
 · rcases zU.mp hr with hr|hr
   ·exact g.ok r hr
   ·rw[zA.mp hr];exact⟨hC,sC⟩
section
variable{prog:zI}{w:zR}{A:jb}{E:VSP}{s:zm}
end
section
variable{prog:zI}{w:zR}{A:jb}{E:VSP}{s:zm}
end
end TS
namespace DL
open PySem PySem.Spec L2
open PyProof.Rows hiding St
section
variable{prog:zI}{w:zR}{A:jb}{E:VSP}{s:zm}{T:String}{r d:Addr}{n:Nat}{P:Nat->zd->Prop}{OK:Heap->Prop}{Q:VSP}
end
section
variable{X:Cx}{Z:XC}{c:Wc}{μ:List Addr}{H:Hp}{G:DH}
end
section
variable{prog:zI}{w:zR}{A:jb}{E:VSP}
end
def J8(r:Option Int):D:=match r with
 |none=>.non
 |some b=>.int b
section
end
section
end
structure g9(X:Cx)(e:Expr)(k:Int):Prop where
 h:PE X e (tC (.int k))
section
variable{X:Cx}{Z:XC}{pos:Pos}{e f:Expr}{i j k:Int}
theorem OU{m pos}:g9 X (.Constant (.int i) m pos) i:=⟨uK⟩
theorem VZ(he:g9 X e i)(hf:g9 X f j)(hc:y4 i j)(hk:i ^ j.toNat=k):g9 X (.BinOp e .Pow f pos) k:=⟨by
 subst hk;exact PE.mono (UG GK he.h hf.h) λσ H Q q=>⟨i,j,rfl,rfl,hc,q⟩⟩
theorem rR(he:g9 X e i)(hf:g9 X f j)(hk:i-j=k):g9 X (.BinOp e .Sub f pos) k:=⟨by
 subst hk;exact PE.mono (UG NM he.h hf.h) λσ H Q q=>⟨i,j,rfl,rfl,q⟩⟩
end
end DL
namespace DL
open PySem PySem.W
open PyProof.Rows hiding St
structure WO(lt:Nat->Nat->Bool):Prop where
 tr:∀i j k,lt j i=false->lt k j=false->lt k i=false
 as:∀i j,lt i j=true->lt j i=false
section
theorem WO.ir(O:WO lt)(i:Nat):lt i i=false:=by
 rcases e:lt i i with _|_
 ·rfl
 ·exact(O.as i i e).symm.trans e |>.symm▸rfl
def upW(lt:Nat->Nat->Bool)(p:Array Nat)(m:Nat):Prop:=∀i j,i<j->j<m->lt (p.getD j 0) (p.getD i 0)=false
def dnW(lt:Nat->Nat->Bool)(p:Array Nat)(m:Nat):Prop:=∀i j,i<j->j<m->lt (p.getD i 0) (p.getD j 0)=false
theorem HC(O:WO lt)(h:upW lt p m)(hij:i<=j)(hj:j<m):lt (p.getD j 0) (p.getD i 0)=false:=by
 rcases JP hij with k|k
 ·exact h i j k hj
 ·rw[k];exact O.ir _
theorem bF(O:WO lt)(h:dnW lt p m)(hij:i<=j)(hj:j<m):lt (p.getD i 0) (p.getD j 0)=false:=by
 rcases JP hij with k|k
 ·exact h i j k hj
 ·rw[k];exact O.ir _
theorem aS(O:WO lt)(hk:1<=k)(h:upW lt p k)(hl:lt (p.getD k 0) (p.getD (k-1) 0)=false):upW lt p (k+1):=by
 intro i j hij hj;by_cases hj':j<k
 ·exact h i j hij hj'
 · have ej:j=k:=by lia
   subst ej;exact O.tr _ _ _ (HC O h (show i<=j-1 by lia) (by lia)) hl
theorem lJ(O:WO lt)(hk:1<=k)(h:dnW lt p k)(hl:lt (p.getD (k-1) 0) (p.getD k 0)=false):dnW lt p (k+1):=by
 intro i j hij hj;by_cases hj':j<k
 ·exact h i j hij hj'
 · have ej:j=k:=by lia
   subst ej;exact O.tr _ _ _ hl (bF O h (show i<=j-1 by lia) (by lia))
theorem rF(O:WO lt)(P:v8 p n):∀f k,1<=k->k+f<=n->upW lt p k->tOk lt n (kas_asc p f k) (λm=>k<=m/\m<=k+f/\upW lt p m/\(m<k+f->lt (p.getD m 0) (p.getD (m-1) 0)=true))
 |0,k,h1,h2,u=>⟨zh _,zh _,u,λz=>by lia⟩
 |f+1,k,h1,h2,u=>by
   unfold kas_asc;refine⟨P.bd (by lia),P.bd (by lia),?_⟩;rcases e:lt (p.getD k 0) (p.getD (k-1) 0)with _|_
   ·simp only[zS,if_false];exact(rF O P f (k+1) (by lia) (by lia) (aS O h1 u e)).mono λm ⟨a,b,c,d⟩=>⟨by lia,by lia,c,λz=>d (by lia)⟩
   ·exact⟨zh _,by lia,u,λ_=>e⟩
theorem y7(P:v8 p n)(hb:b<=n)(i:Nat):(kas_rev p a b).getD i 0=if a<=i/\i<b then p.getD (a+b-1-i) 0 else p.getD i 0:=by have hs:=P.size;rw[R1];unfold kas_rev;rw[getElem?_mirror_all (by lia)];split<;>rw[<-R1]
def eqB(lt:Nat->Nat->Bool)(p:Array Nat)(a b:Nat):Prop:=∀i j,a<=i->i<b->a<=j->j<b->lt (p.getD i 0) (p.getD j 0)=false
theorem RL(O:WO lt)(P:v8 p n)(hk:k<=n)(h:dnW lt p k)(e:eqB lt p a k):dnW lt (kas_rev p a k) k:=by
 intro i j hij hj;rw[y7 P hk,y7 P hk];by_cases h1:a<=i
 ·rw[if_pos ⟨h1,by lia⟩,if_pos ⟨by lia,hj⟩];exact e _ _ (by lia) (by lia) (by lia) (by lia)
 · rw[if_neg (by lia)];by_cases h2:a<=j
   ·rw[if_pos ⟨h2,hj⟩];exact h i _ (by lia) (by lia)
   ·rw[if_neg (by lia)];exact h i j hij hj
theorem BE(O:WO lt):∀f k q p,v8 p n->1<=k->k+f<=n->q+1<=k->dnW lt p k->eqB lt p (k-(q+1)) k->tOk lt n (kas_desc f p k q) (λr=>v8 r.1 n/\k<=r.2.1/\r.2.1<=k+f/\r.2.2+1<=r.2.1/\dnW lt r.1 r.2.1/\eqB lt r.1 (r.2.1-(r.2.2+1)) r.2.1)
 |0,k,q,p,P,h1,h2,h3,d,e=>⟨P,zh _,zh _,h3,d,e⟩
 |f+1,k,q,p,P,h1,h2,h3,d,e=>by
   unfold kas_desc;have one:∀(p:Array Nat),eqB lt p (k+1-(0+1)) (k+1):=λp i j a1 a2 a3 a4=>by rw[show i=j by lia];exact O.ir _
   refine⟨P.bd (by lia),P.bd (by lia),?_⟩;rcases c:lt (p.getD k 0) (p.getD (k-1) 0)with _|_
   · simp only[zS,if_false];refine⟨P.bd (by lia),P.bd (by lia),?_⟩;rcases c2:lt (p.getD (k-1) 0) (p.getD k 0)with _|_
     · simp only[zS,if_false];refine(BE O f (k+1) (q+1) p P (by lia) (by lia) (by lia) (lJ O h1 d c2) λi j a1 a2 a3 a4=>?_).mono λr ⟨a,b,c,d,g⟩=>⟨a,by lia,by lia,d,g⟩;have el:∀i,k-(q+1)<=i->i<k+1->lt (p.getD i 0) (p.getD k 0)=false/\lt (p.getD k 0) (p.getD i 0)=false:=λi x y=>by
        by_cases z:i=k
        ·rw[z];exact⟨O.ir _,O.ir _⟩
        ·exact⟨O.tr _ _ _ c2 (e i (k-1) x (by lia) (by lia) (by lia)),O.tr _ _ _ (e (k-1) i (by lia) (by lia) x (by lia)) c⟩
       exact O.tr _ _ _ (el j (by lia) a4).2 (el i (by lia) a2).1
     ·exact⟨P,zh _,by lia,h3,d,e⟩
   · simp only[if_true];have c':=O.as _ _ c;split
     · have rp:v8 (kas_rev p (k-(q+1)) k) n:=E8 P;refine(BE O f (k+1) 0 _ rp (by lia) (by lia) (by lia) (λi j hij hj=>?_) (one _)).mono λr ⟨a,b,c,d,g⟩=>⟨a,by lia,by lia,d,g⟩;by_cases hj':j<k
       ·exact RL O P (by lia) d e i j hij hj'
       · have ej:j=k:=by lia
         subst ej;rw[y7 P (by lia),y7 P (by lia),if_neg (show ¬(j-(q+1)<=j/\j<j) by lia)];split
         ·exact O.tr _ _ _ c' (bF O d (by lia) (by lia))
         ·exact O.tr _ _ _ c' (bF O d (by lia) (by lia))
     ·exact(BE O f (k+1) 0 p P (by lia) (by lia) (by lia) (lJ O h1 d c') (one p)).mono λr ⟨a,b,c,d,g⟩=>⟨a,by lia,by lia,d,g⟩
theorem dN(O:WO lt)(P:v8 p n)(h1:1<=k)(hk:k<=n)(d:dnW lt p k):tOk lt n (kas_tail3 k n p) (λr=>v8 r.2 n/\1<=r.1/\r.1<=n/\upW lt r.2 r.1):=by
 unfold kas_tail3;have u:upW lt (kas_rev p 0 k) k:=λi j hij hj=>by rw[y7 P hk,y7 P hk,if_pos ⟨zW _,hj⟩,if_pos ⟨zW _,by lia⟩];exact d _ _ (by lia) (by lia)
 exact tOk.bind _ ((rF O (E8 P) (n-k) k h1 (by lia) u).mono λm ⟨a1,a2,a3,_⟩=>⟨E8 P,by lia,by lia,a3⟩)
theorem qJ(O:WO lt)(P:v8 p n)(h1:1<=k)(hk:k<n)(d:dnW lt p (k+1)):tOk lt n (kas_descPart k n p) (λr=>v8 r.2 n/\1<=r.1/\r.1<=n/\upW lt r.2 r.1):=by
 unfold kas_descPart;refine tOk.bind _ ((BE O (n-(k+1)) (k+1) 0 p P (by lia) (by lia) (by lia) d λi j a1 a2 a3 a4=>by rw[show i=j by lia];exact O.ir _).mono λr ⟨a,b,c,e,g,h⟩=>?_);split
 ·exact dN O (E8 a) (by lia) (by lia) (RL O a (by lia) g h)
 ·exact dN O a (by lia) (by lia) g
theorem eP(O:WO lt)(P:v8 p n)(h2:2<=n):tOk lt n (kas_count n p) (λr=>v8 r.2 n/\1<=r.1/\r.1<=n/\upW lt r.2 r.1):=by
 unfold kas_count;refine tOk.bind _ ((rF O P (n-1) 1 (zh _) (by lia) (λi j _ _=>by lia)).mono λm ⟨a1,a2,a3,a4⟩=>?_);by_cases hm:m=n
 ·rw[if_pos (by simpa using hm)];exact⟨P,a1,by lia,a3⟩
 · rw[if_neg (by simpa using hm)];have a5:=O.as _ _ (a4 (by lia));by_cases h1:m>1
   · rw[if_pos h1];refine⟨P.bd (by lia),P.bd (by lia),?_⟩;rcases c:lt (p.getD 0 0) (p.getD (m-1) 0)with _|_
     · simp only[zS,if_false];refine qJ O (E8 P) (by lia) (by lia) λi j hij hj=>?_;rw[y7 P (by lia),y7 P (by lia),if_pos ⟨zW _,by lia⟩];by_cases hj':j<m
       ·rw[if_pos ⟨zW _,hj'⟩];exact a3 _ _ (by lia) (by lia)
       ·rw[if_neg (by lia),show j=m by lia];exact O.tr _ _ _ a5 (O.tr _ _ _ c (HC O a3 (zW _) (by lia)))
     ·exact⟨P,a1,by lia,a3⟩
   · rw[if_neg h1];have em:m=1:=by lia
     subst em;refine qJ O P (zh _) (by lia) λi j hij hj=>?_;have e1:i=0:=by lia
     have e2:j=1:=by lia
     subst e1 e2;exact a5
theorem cG(O:WO lt)(P:v8 p n)(hk:k<n)(u:upW lt p k):∀f l r,l<=r->r<=k->r-l<=f->(∀i,i<l->lt (p.getD k 0) (p.getD i 0)=false)->(∀i,r<=i->i<k->lt (p.getD i 0) (p.getD k 0)=false)->
 tOk lt n (kas_place p k f l r) (λL=>L<=k/\(∀i,i<L->lt (p.getD k 0) (p.getD i 0)=false)/\∀i,L<=i->i<k->lt (p.getD i 0) (p.getD k 0)=false)
 |0,l,r,h1,h2,h3,a,b=>⟨by lia,a,λi hi=>b i (by lia)⟩
 |f+1,l,r,h1,h2,h3,a,b=>by
   unfold kas_place;by_cases h:l>=r
   ·rw[if_pos h];exact⟨by lia,a,λi hi=>b i (by lia)⟩
   · rw[if_neg h];have hm1:l<=(l+r) / 2:=by lia
     have hm2:(l+r) / 2<r:=by lia
     refine⟨P.bd hk,P.bd (by lia),?_⟩;rcases e:lt (p.getD k 0) (p.getD ((l+r) / 2) 0)with _|_
     ·simp only[zS,if_false];exact cG O P hk u f _ r (by lia) h2 (by lia) (λi hi=>O.tr _ _ _ (HC O u (show i<=(l+r) / 2 by lia) (by lia)) e) b
     ·simp only[if_true];exact cG O P hk u f l _ hm1 (by lia) (by lia) a λi hi hik=>O.tr _ _ _ (O.as _ _ e) (HC O u hi hik)
theorem UI(O:WO lt):∀f k p,v8 p n->k+f=n->upW lt p k->tOk lt n (kas_bin f p k) (λq=>v8 q n/\upW lt q n)
 |0,k,p,P,h,u=>⟨P,by rw[<-h];exact u⟩
 |f+1,k,p,P,h,u=>by
   unfold kas_bin;refine tOk.bind _ ((cG O P (show k<n by lia) u k 0 k (zW _) (zh _) (by lia) (λi hi=>by lia) (λi h1 h2=>by lia)).mono λL ⟨hL,a,b⟩=>?_);have hs:=P.size;refine UI O f (k+1) _ ⟨(jT.mp (bubble_perm p k (k-L))).trans P.pm⟩ (by lia) ?_;have e:∀i,(bubble p k (k-L)).getD i 0=if i=L then p.getD k 0 else if L<i/\i<=k then p.getD (i-1) 0 else p.getD i 0:=λi=>by
    rw[R1,Xh (by lia) _ (by lia),show k-(k-L)=L by lia];split
    ·rw[<-R1]
    ·split<;>rw[<-R1]
   intro i j hij hj;rw[e i,e j];by_cases h1:i=L
   ·rw[if_pos h1,if_neg (show ¬j=L by lia),if_pos (show L<j/\j<=k by lia)];exact b (j-1) (by lia) (by lia)
   · rw[if_neg h1];by_cases h2:j=L
     ·rw[if_pos h2,if_neg (show ¬(L<i/\i<=k) by lia)];exact a i (by lia)
     · rw[if_neg h2];by_cases h3:L<i
       ·rw[if_pos (show L<i/\i<=k by lia),if_pos (show L<j/\j<=k by lia)];exact u _ _ (by lia) (by lia)
       · rw[if_neg (show ¬(L<i/\i<=k) by lia)];by_cases h4:L<j
         ·rw[if_pos (show L<j/\j<=k by lia)];exact u i (j-1) (by lia) (by lia)
         ·rw[if_neg (show ¬(L<j/\j<=k) by lia)];exact u _ _ hij (by lia)
theorem AG(O:WO lt)(h2:2<=n):tOk lt n (kas_sort n) (λq=>v8 q n/\upW lt q n):=by
 unfold kas_sort;refine tOk.bind _ ((eP O ⟨by simp⟩ h2).mono λr ⟨a,b,c,d⟩=>?_);by_cases h:r.1<n
 ·rw[if_pos h,show max r.1 1=r.1 by lia];exact UI O _ _ _ a (by lia) d
 ·rw[if_neg h];exact⟨a,by rw[show n=r.1 by lia];exact d⟩
def y6{α:Type}(lt:Nat->Nat->Bool):KasT α->α
 | .ret a=>a
 | .ask i j k=>y6 lt (k (lt i j))
theorem tOk.run:∀t,tOk lt n t Q->tOk lt n t (λa=>a=y6 lt t/\Q a)
 | .ret a,h=>⟨rfl,h⟩
 | .ask i j k,h=>⟨h.1,h.2.1,tOk.run (k (lt i j)) h.2.2⟩
theorem tOk.is:∀t,tOk lt n t Q->Q (y6 lt t)
 | .ret a,h=>h
 | .ask i j k,h=>tOk.is (k (lt i j)) h.2.2
end
end DL
namespace DL
open PySem PySem.Spec L2
open PyProof.Rows hiding St
def GB:D->Option (Int×Int)
 | .tup [.int a,.int x]=>some (a,x)
 |_=>none
def U8:List D->Option (List (Int×Int))
 |[]=>some []
 |d::r=>match GB d,U8 r with
   |some a,some b=>some (a::b)
   |_,_=>none
def c6(p q:Int×Int):Bool:=if p.1=q.1 then decide (p.2<q.2)else decide (p.1<q.1)
def ltP(qs:List (Int×Int))(i j:Nat):Bool:=c6 (qs.getD i (0,0)) (qs.getD j (0,0))
def M9(qs:List (Int×Int))(n:Nat):List Nat:=if n<2 then zJ n else (y6 (ltP qs) (yE n)).toList
def l6(qs:List (Int×Int))(l:List D):List D:=(M9 qs l.length).map λi=>l.getD i .non
def B7(F:List D->M D)(l:List D):M D:=do
 let ks <-M8 F l
 let qs <-N0 (U8 ks)
 J4 (.lst (l6 qs l))
def cC(F:List D->M D):D->M D
 | .tup l=>if l.length<64 then B7 F l else M.stuck
 | .ref r=>do
   match <-J5 r with
   | .lst l=>if l.length<64 then B7 F l else M.stuck
   |_=>M.stuck
 |_=>M.stuck
def WA(F:List D->M D)(f:Fe):Fe:=λσ=>do
 let x <-f σ
 cC F x
theorem bK:c6 p q=true↔p.1<q.1\/(p.1=q.1/\p.2<q.2):=by
 unfold c6;by_cases e:p.1=q.1
 ·rw[if_pos e,decide_eq_true_iff];lia
 ·rw[if_neg e,decide_eq_true_iff];lia
theorem y9:c6 p q=false↔q.1<p.1\/(q.1=p.1/\q.2<=p.2):=by rw[<-Bool.not_eq_true,bK];lia
theorem GF(qs:List (Int×Int)):WO (ltP qs):=⟨λi j k h1 h2=>y9.mpr (by
 have h1:=y9.mp h1;have h2:=y9.mp h2;lia),λi j h=>y9.mpr (by
 have h:=bK.mp h;lia)⟩
theorem lE(qs:List (Int×Int))(n:Nat):(M9 qs n).Perm (zJ n)/\(M9 qs n).Pairwise (λi j=>ltP qs j i=false):=by
 unfold M9;by_cases h:n<2
 · rw[if_pos h];refine⟨Jf _,?_⟩
   match n,h with
   |0,_=>simp
   |1,_=>simp[Yu]
 · rw[if_neg h];obtain⟨P,U⟩:=tOk.is _ (AG (GF qs) (show 2<=n by lia));refine⟨P.pm,?_⟩;rw[YZ];intro i j hi hj hij;have hs:=P.size;have hi':i<(y6 (ltP qs) (yE n)).size:=by simpa using hi
   have hj':j<(y6 (ltP qs) (yE n)).size:=by simpa using hj
   have:=U i j hij (by lia);simpa [xR,hi',hj']using this
section
variable{X:Cx}{pins:PNS}{σ:St}{H:Hp}{s:zm}
def C6(h:Heap)(u:zd)(q:Int×Int):Prop:=∃a t t',u= .ref a/\Zi h a #[.int q.1 t,.int q.2 t']
theorem BF(I:Inv X pins σ H s):∀ {ks} {qs} {kv:List V} {ku},U8 ks=some qs->g8 (wc X) μ H ks kv->j7 kv ku->qs.length=ku.length/\∀(i:Nat) q,qs[i]? =some q->∃u,ku[i]? =some u/\C6 s.heap u q
 |[],qs,kv,ku,e,r,rv=>by
   cases e;cases r;cases rv
   exact⟨rfl,λi q z=>by simp at z⟩
 |d::r,qs,kv,ku,e,rr,rv=>by
   obtain⟨v,tl,rfl,rd,rt⟩:=rr
   cases rv with
   |cons ru rur=>
   rename_i u ur;unfold U8 at e;rcases h1:GB d with _|a
   ·rw[h1]at e;cases e
   ·
     rcases h2:U8 r with _|b
     ·rw[h1,h2]at e;cases e
     ·
       rw[h1,h2]at e
       cases e
       obtain⟨hl,hk⟩:=BF I h2 rt rur;refine⟨by simp[hl],λi q z=>?_⟩
       cases i with
       |succ i=>simpa using hk i q (by simpa using z)
       |zero=>
         simp at z;subst z;refine⟨u,rfl,?_⟩;unfold GB at h1;split at h1
         · rename_i n x
           cases h1
           unfold d7 at rd;obtain⟨ad,vs,rfl,q,rl⟩:=rd;obtain⟨v1,t1,rfl,e1,v2,t2,rfl,e2,e3⟩:=rl
           cases e3
           rw[Q7 e1,Q7 e2]at q
           cases ru
           obtain⟨Fj,rvs,tp,_⟩:=I.tuple q
           cases rvs with
           |cons r1 rr1=>
             cases rr1 with
             |cons r2 rr2=>
               cases rr2
               obtain⟨t,rfl⟩:=r1;obtain⟨t',rfl⟩:=r2;exact⟨ad,t,t',rfl,tp⟩
         ·cases h1
end
section
variable{prog:zI}{w:zR}{A:jb}{E:VSP}{s:zm}{C:Bool->zm->Prop}
theorem LJ(hx:C6 s.heap u q)(hy:C6 s.heap u' q')(h:C (c6 q q') s):zp (zy prog w) A (keyLt' (tuples' true) u u') C E s:=by
 obtain⟨a,t,t',rfl,o,ho,hc,n,hd⟩:=hx;obtain⟨b,v,v',rfl,o2,Gp,hc2,n2,hd2⟩:=hy;refine JI ho hd Gp hd2 ?_;show JJ prog w A true _ C [(.int q.1 t,.int q'.1 v),(.int q.2 t',.int q'.2 v')] 0 s;refine xF (xh (xY (λe=>?_) λe=>?_))
 · have e1:q.1=q'.1:=by simpa using e
   refine xN (xF (xh (xY (λe=>?_) λe=>?_)))
   · have e2:q.2=q'.2:=by simpa using e
     refine xN (Jq ?_);rw[show c6 q q'=false from y9.mpr (by lia)]at h;exact h
   ·refine xX (Jp _ _ (PyProof.Rows.lt_int ?_));unfold c6 at h;rw[if_pos e1]at h;exact h
 · have e1:¬q.1=q'.1:=by simpa using e
   refine xX ?_;show zp (zy prog w) A (oneLt' true _ _) C _ s;rw[<-XA];refine Xu ?_;unfold c6 at h;rw[if_neg e1]at h;exact h
theorem MR{e e1:Nat}{ku vs:List zd}(hl:ku.length=vs.length)(Gz:vs.length<64)(hq:qs.length=ku.length)(hk:∀(i:Nat) q,qs[i]? =some q->∃u,ku[i]? =some u/\C6 s.heap u q)
 (ho1:s.heap.get? kS=some (zG "list" (zB ku) e)) (Gp:s.heap.get? a=some (zG "list" #[] e1)) (ne:a≠kS)
 (h:∀(h':Heap) (e':Nat),(∀b o,b∉ [a,kS]->s.heap.get? b=some o->h'.get? b=some o)->h'.get? a=some (zG "list" (zB ((M9 qs vs.length).map λi=>vs.getD i Value.none)) e')->P (.done (.ret .none)) {s with heap:=h'}):
 zp (zy prog w) A (ksk_end a false vs.toArray e1 (.ref kS) (zB ku)) P E s:=by
 unfold ksk_end
 try dsimp only
 simp only[zS,if_false];by_cases h2:vs.toArray.size<2
 · rw[if_pos h2,if_pos h2];refine za (zl ?_);rw[Ye];refine za (zl ?_);dsimp only;have hv:(jB (XM general' ((zB ku).zip vs.toArray) #[] 7 none)).map (·.2)=zB ((zJ vs.length).map λi=>vs.getD i Value.none):=by
    show ((zB ku).zip vs.toArray).map (·.2)=_;apply xf.mp;rw[Yd];apply yj
    ·simp[hl]
    ·intro i hi hj;simp at hi hj ⊢;simp[hj]
   have:vs.length<2:=by simpa using h2
   refine RD hv (by simp;lia) (by lia) rfl ho1 Gp ne λh' e' k1 k2=>h h' e' k1 (by rw[M9,if_pos this];exact k2)
 · rw[if_neg h2,if_neg h2];have hn2:2<=vs.length:=by simpa using h2
   have gq:∀i,i<vs.length->qs[i]? =some (qs.getD i (0,0)):=λi hi=>by rw[zj,zq (by lia)];rfl
   obtain⟨fs,T,hfs,hT⟩:∃fs:List zd,yN s.heap ku fs/\0<fs.length/\∀v∈fs,∃n t,v= .int n t:=by
    have gen:∀(ku:List zd) (qs:List (Int×Int)),qs.length=ku.length->(∀(i:Nat) (q:Int×Int),qs[i]? =some q->∃u,ku[i]? =some u/\C6 s.heap u q)->∃fs:List zd,yN s.heap ku fs/\fs.length=ku.length/\∀v∈fs,∃n t,v= .int n t:=by
     intro ku
     induction ku with
     |nil=>exact λqs _ _=>⟨[],trivial,rfl,λv hv=>by cases hv⟩
     |cons u r ih=>
       intro qs hl hk;rcases qs with _|⟨q,qr⟩
       ·simp at hl
       ·
         obtain⟨u',e1,ad,t,t',rfl,o,ho,hc,n,hd⟩:=hk 0 q rfl;simp at e1;subst e1;obtain⟨fs,f1,f2,f3⟩:=ih qr (by simpa using hl) λi q hq=>by simpa using hk (i+1) q (by simpa using hq)
         refine⟨.int q.1 t::fs,xB ho hc hd rfl f1,by simp[f2],λv hv=>?_⟩;rcases zz.mp hv with rfl|hv
         ·exact⟨_,_,rfl⟩
         ·exact f3 v hv
    obtain⟨fs,f1,f2,f3⟩:=gen ku qs hq hk;exact⟨fs,f1,by lia,f3⟩
   refine za (ZK (T:=.type "int") T hfs (λv hv=>?_) (by decide) ?_)
   ·obtain⟨n,t,rfl⟩:=hT v hv;exact xA rfl
   · have run:=tOk.wp (s:=s) (cmp:=ym prog w A (tuples' (Value.type "int" != Value.type "tuple")) ku) (λi j C hi hj hC=>by
      obtain⟨u,u1,u2⟩:=hk i _ (gq i hi);obtain⟨v,v1,v2⟩:=hk j _ (gq j hj);unfold ym;rw[zj,zj,u1,v1];exact LJ u2 v2 hC) _ (tOk.run _ (AG (GF qs) hn2))
     refine za (jf (ZV (Q:=λFx s'=>∃p:Array Nat,p.size=vs.length/\jB Fx=p.map (ZL ((zB ku).zip vs.toArray))/\xj Fx=none/\s'=s/\p=y6 (ltP qs) (yE vs.length)/\v8 p vs.length/\upW (ltP qs) p vs.length) hl hn2 Gz (λp Fx s' a1 a2 a3 a4=>⟨p,a1,a2,a3,a4⟩) run) ?_ λ_ _ x=>x);rintro⟨⟨⟩,Fx⟩ s' ⟨p,hp,har,hf,rfl,rfl,P1,U⟩
     try dsimp only
     exact RD (ZJ hl har) (by rw[zn,jA,hp];exact Gz) (by lia) hf ho1 Gp ne λh' e' k1 k2=>h h' e' k1 (by rw[M9,if_neg (by lia)];exact k2)
end
section
variable{X:Cx}{Z:XC}{pins:PNS}{σ:St}{H:Hp}{s:zm}{F:List D->M D}{k:Nat}{f:Addr}{fd:yF}{ps:List Str}{μ:List Addr}{G:DH}
theorem fM(rl:g8 (wc X) μ H l ws)(rv:j7 ws vs):
 ∃ws',j7 ws' ((M9 qs vs.length).map λi=>vs.getD i Value.none)/\g8 (wc X) μ H (l6 qs l) ws'/\ws'.length=vs.length:=by
 have hlv:l.length=vs.length:=by rw[rl.length,rv.length]
 have hp:=(lE qs vs.length).1;have main:∀p:List Nat,(∀i∈p,i<vs.length)->∃ws',j7 ws' (p.map λi=>vs.getD i Value.none)/\g8 (wc X) μ H (p.map λi=>l.getD i .non) ws'/\ws'.length=p.length:=by
  intro p
  induction p with
  |nil=>exact λ_=>⟨[],.nil,rfl,rfl⟩
  |cons i r ih=>
    intro hi;obtain⟨ws',a1,a2,a3⟩:=ih λj hj=>hi j (zk _ hj);have li:=hi i (by simp);have gl:l[i]? =some (l.getD i .non):=by rw[zj,zq (by lia)];rfl
    obtain⟨v,e1,r1⟩:=rl.get (i:=i) gl;obtain⟨u,e2,r2⟩:=rv.get e1;refine⟨v::ws',?_,⟨v,ws',rfl,r1,a2⟩,by simp[a3]⟩;have:vs.getD i Value.none=u:=by rw[zj,e2];rfl
    rw[zN,this];exact .cons r2 a1
 obtain⟨ws',a1,a2,a3⟩:=main _ λi hi=>by simpa using hp.mem_iff.mp hi
 exact⟨ws',a1,by unfold l6;rw[hlv];exact a2,by rw[a3,hp.length_eq];simp⟩
theorem FV{Q:VK}(hF:V1 X.prog X.w X.K X.mg X.base CX0 k f fd ps (spD (wc X) 1 F))(hb:v3 X.K fd ps [])(hrm:K8 (k+2) X.A)(I:Inv X pins σ H s)(hr:j8 (wc X) μ G H)(Gz:l.length<64)
 (hcol:∀Q',(∀(h1:Heap) (tk:Nat) vs ws,(∀b o,s.heap.get? b=some o->h1.get? b=some o)->j7 ws vs->g8 (wc X) μ H l ws->Q' vs {s with heap:=h1,toks:=tk})->zp (zy X.prog X.w) X.A.in1 (collect u) Q' X.xe s)
 (p:c7 (wc X) Z μ H (B7 F l G) (λd X9 _ H'=>∀v,d7 (wc X) X9 H' d v->Q v H')):zp (zy X.prog X.w) X.A (call (.builtin "sorted") [u] [(jd "key",.ref f)]) (EP X pins σ Q) X.xe s:=by
 refine JO kind_sorted JM JN (ksk_s1 _ _) ?_;unfold yT.«sorted»;refine za (m:=checkCount "sorted" 1 1 _) (zl ?_);refine za (hcol _ λh1 tk vs ws k1 rv rl=>?_);have hlv:l.length=vs.length:=by rw[rl.length,rv.length]
 refine za (xo ?_ (by rw[jh];lia));have I1:Inv X pins σ H {s with heap:=h1,toks:=tk}:=I.kept k1;have hoL:(h1.push (zG "list" vs.toArray 0)).get? h1.objs.size=some (zG "list" vs.toArray 0):=zu _ rfl;refine za (ju (wpAny_call_entry_kw Xy ⟨_,hoL,rfl⟩ Xi ?_ (ksk_l1 _ _)));show zp (zy X.prog X.w) X.A.in1.in1 (yT.«list.sort» ⟨[.ref h1.objs.size], [(jd "key",.ref f)]⟩) _ _ _;rw[ksk_t1];unfold ksk_tree;refine za (Zq hoL rfl ?_);refine za (yk hoL rfl ?_ (by rw[zg,jh];lia) (zW _));obtain⟨e1,ho1⟩:∃e1,((h1.push (zG "list" vs.toArray 0)).update h1.objs.size (zO λ_=>(#[]:Array zd))).get? h1.objs.size=some (zG "list" #[] e1):=⟨_,yU hoL λ_=> #[]⟩;refine za (xT ho1 rfl ?_);refine za (ZH ?_ (by show vs.length<=_;rw[jh];lia));refine za (xo ?_ (zW _));refine ju ?_;have hsz:((h1.push (zG "list" vs.toArray 0)).update h1.objs.size (zO λ_=>(#[]:Array zd))).objs.size=h1.objs.size+1:=by rw[JS,Xz]
 have hkS:(((h1.push (zG "list" vs.toArray 0)).update h1.objs.size (zO λ_=>(#[]:Array zd))).push (zG "tuple" vs.toArray 0)).objs.size=h1.objs.size+2:=by rw[Xz,hsz]
 have keep:∀b o,h1.get? b=some o->((((h1.push (zG "list" vs.toArray 0)).update h1.objs.size (zO λ_=>(#[]:Array zd))).push (zG "tuple" vs.toArray 0)).push (zG "list" #[] 0)).get? b=some o:=λb o q=>by have Gd:b<h1.objs.size:=zo q;rw[yC _ _ _ (by rw[hkS];exact zE (yd (yd Gd))),yC _ _ _ (by rw[hsz];exact zE (yd Gd)),jq _ _ _ _ (zE Gd),yC _ _ _ (zE Gd)];exact q
 have I2:Inv X pins σ H {s with heap:=(((h1.push (zG "list" vs.toArray 0)).update h1.objs.size (zO λ_=>(#[]:Array zd))).push (zG "tuple" vs.toArray 0)).push (zG "list" #[] 0),toks:=tk}:=I1.kept keep;have na:H h1.objs.size=none:=I1.hok.fresh (zh _);have nk:H (h1.objs.size+2)=none:=I1.hok.fresh (yL _ _);have ga:((((h1.push (zG "list" vs.toArray 0)).update h1.objs.size (zO λ_=>(#[]:Array zd))).push (zG "tuple" vs.toArray 0)).push (zG "list" #[] 0)).get? h1.objs.size=some (zG "list" #[] e1):=zc _ (zc _ ho1);have gk:((((h1.push (zG "list" vs.toArray 0)).update h1.objs.size (zO λ_=>(#[]:Array zd))).push (zG "tuple" vs.toArray 0)).push (zG "list" #[] 0)).get? (h1.objs.size+2)=some (zG "list" (zB []) 0):=by rw[<-hkS];exact zu _ rfl
 have fa:∀H':Hp,H' h1.objs.size=none->W0 X pins H' h1.objs.size:=λH' hn=>I1.fpOk (zh _) hn;have fk:∀H':Hp,H' (h1.objs.size+2)=none->W0 X pins H' (h1.objs.size+2):=λH' hn=>I1.fpOk (yL _ _) hn;have ne:h1.objs.size≠h1.objs.size+2:=by lia
 unfold B7 at p;have pk:c7 (wc X) ZF μ H (M8 F l G) (λks X9 G' H'=>ks.length=l.length/\c7 (wc X) Z X9 H' ((N0 (U8 ks) >>= λqs=>J4 (.lst (l6 qs l))) G') (λd X9 _ H'=>∀v,d7 (wc X) X9 H' d v->Q v H')):=by
  have q:=c7.bind p;have hkl:∀(l:List D) (G:DH) (ks:List D) (G':DH),M8 F l G=some (.ok ks,G')->ks.length=l.length:=by
   intro l
   induction l with
   |nil=>intro G ks G' z;cases z;rfl
   |cons d r ih=>
     intro G ks G' z;unfold M8 at z;rw[M.bind_eq]at z
     match h:noX (F [d]) G,z with
     |some (.ok kk,G1),z=>
       dsimp only at z;rw[M.bind_eq]at z
       match h2:M8 F r G1,z with
       |some (.ok ks,G2),z=>
         cases z
         simp[ih _ _ _ h2]
  have kne:∀(l:List D) (G:DH) (x:Str) (G':DH),M8 F l G≠some (.error x,G'):=by
   intro l
   induction l with
   |nil=>intro G x G' z;cases z
   |cons d r ih=>
     intro G x G' z;unfold M8 at z;rw[M.bind_eq]at z;have nx:∀x G',noX (F [d]) G≠some (.error x,G'):=λx G' z=>by
      unfold noX at z
      try dsimp only at z
      split at z<;>cases z
     match h:noX (F [d]) G,z with
     |some (.error y,G1),z=>exact nx _ _ h
     |some (.ok kk,G1),z=>
       dsimp only at z;rw[M.bind_eq]at z
       match h2:M8 F r G1,z with
       |some (.error y,G2),z=>exact ih _ _ _ h2
       |some (.ok ks,G2),z=>cases z
  match hh:M8 F l G,q with
  |some (.ok ks,G1),q=>exact λX9 H' x h=>⟨hkl _ _ _ _ hh,q X9 H' x h⟩
  |some (.error x,G1),q=>exact(kne _ _ _ _ hh).elim
 rw[hkS];show zp (zy X.prog X.w) X.A.in1.in1 (ksk_rest h1.objs.size (.ref f) false vs.toArray e1 (.ref (h1.objs.size+2))) _ _ _;unfold ksk_rest;refine za (xL ?_)
 first
  |rw[Jz]
  |(rw[<-xu];simp only[Jc])
  |rw[<-xu]
 refine za (dH (X:=X) (pins:=pins) (σ:=σ) (A:=X.A.in1.in1) hF hb hrm.in1.in1 rfl ⟨rfl,rfl⟩ fa fk ne (λx s0 R hx=>?_) l ws vs [] [] [] 0 μ G H _ rl rv rfl .nil hr I2 gk ga na nk (by simp;lia) ?_)
 · refine za (Yg (jf hx (λkv s'' hk=>?_) λ_ _ hF=>hF.elim));obtain⟨ks,e,hks,g,hR⟩:=hk
   try dsimp only
   refine za (yk g rfl ?_ (by rw[zg,jh];lia) (zP (Ya (JZ ..)) (by rw[zg,jh];lia)));exact zl ⟨rfl,hR⟩
 · refine pk.mono λks X9 G' H' x1 hr1 ⟨hks,p1⟩ s' kv ku e' _ _ q1 q2 I' g1 g2 n1 n2=>?_;rw[List.nil_append]at q1;obtain⟨qs,eq,p2⟩:=O7 p1;obtain⟨Gx,hk1⟩:=BF I' eq q1 q2
   try dsimp only
   refine za (Zq g1 rfl ?_);have hkv:ku.length=vs.length:=by rw[<-q2.length,<-q1.length,hks,hlv]
   refine MR hkv (by lia) Gx hk1 g1 g2 ne λh' e2 keep2 gg=>?_;have Gf:g8 (wc X) X9 H' l ws:=rl.mono x1;obtain⟨ws',a1,a2,a3⟩:=fM (qs:=qs) Gf rv;refine⟨_,rfl,zl ⟨_,rfl,.ref h1.objs.size,upd H' h1.objs.size (.lst ws'),NL (t':=s'.toks) (ch:= [h1.objs.size,h1.objs.size+2]) I' (λb hb=>?_) (by simp) keep2 ⟨by rw[a3,jh];lia,_,e2,a1,gg⟩,rfl,Q9 hr1 a2 p2 _ n1⟩⟩;rcases zz.mp hb with rfl|hb
   ·exact fa _ n1
   ·rw[zA]at hb;subst hb;exact fk _ n2
theorem iV(hc:X.calm=true)(hF:V1 X.prog X.w X.K X.mg X.base CX0 k f fd ps (spD (wc X) 1 F))(hb:v3 X.K fd ps [])(hrm:K8 (k+2) X.A)(I:Inv X pins σ H s)(hr:j8 (wc X) μ G H)(rd:d7 (wc X) μ H d v)(ru:o5 v u)
 (p:c7 (wc X) Z μ H (cC F d G) (λd X9 _ H'=>∀v,d7 (wc X) X9 H' d v->Q v H')):zp (zy X.prog X.w) X.A (call (.builtin "sorted") [u] [(jd "key",.ref f)]) (EP X pins σ Q) X.xe s:=by
 have seq:∀ {a:Addr} {T:String} {o:Obj} {Fj:List zd} {vs:List V} {n:Nat} {l:List D},(T= "list"\/T= "tuple")->s.heap.get? a=some o->o.cls= .type T->o.data= .seq Fj.toArray n->j7 vs Fj->g8 (wc X) μ H l vs->vs.length<=zi->
  c7 (wc X) Z μ H ((if l.length<64 then B7 F l else M.stuck:M D) G) (λd X9 _ H'=>∀v,d7 (wc X) X9 H' d v->Q v H')->zp (zy X.prog X.w) X.A (call (.builtin "sorted") [.ref a] [(jd "key",.ref f)]) (EP X pins σ Q) X.xe s:=by
  intro a T o Fj vs n l hT h1 h2 h3 rv rl hz p;split at p
  case isFalse=>exact p.elim
  rename_i Gz;refine FV hF hb hrm I hr Gz (λQ' hQ=>Yx a hT h1 h2 h3 (λh' kk=>?_) (by rw[zg,<-rv.length];exact hz)) p;exact hQ h' s.toks Fj vs kk rv rl
 unfold cC at p;split at p
 · rename_i l;unfold d7 at rd;obtain⟨a,vs,rfl,q,rl⟩:=rd
   cases ru
   obtain⟨Fj,rv,⟨o,h1,h2,n,h3⟩,hz⟩:=I.tuple q;exact seq (.inr rfl) h1 h2 h3 rv rl hz p
 · rename_i i;unfold d7 at rd;obtain⟨a,m,rfl⟩:=rd
   cases ru
   obtain⟨o,g,p1⟩:=w6 p;have ro:=hr.obj i o a g m;rcases o with l|l|l|l
   ·
     obtain⟨vs,q,rl⟩:=ro;obtain⟨Fj,rv,pl,hz⟩:=I.list (SqL.of q);obtain⟨o,h1,h2,n,h3⟩:=pl.isList;exact seq (.inl rfl) h1 h2 h3 rv rl hz p1
   ·exact p1.elim
   ·exact p1.elim
   ·exact p1.elim
 ·exact p.elim
end
section
variable{X:Cx}{Z:XC}{e:Expr}{fe:Fe}{p pf kp pos:Pos}{x:Str}{F:List D->M D}
theorem wT(hc:X.calm=true)(hF:∃k kk,W3 F 1 x X.prog X.w X.K X.mg X.base k/\K8 kk X.A/\k+2<=kk)(hbl:BLs X.mg)(hgs:Gl X "sorted")(hg:Gl X x)(he:DE X Z e fe)(hs:Q0 e=true)(hdb:(x==("__debug__" :Str))=false):
 DE X Z (.Call (.Name "sorted" p) [e] [⟨some "key",.Name x pf,kp⟩] pos) (WA F fe):=⟨by
 intro pins s σ H Q I h;obtain⟨k,kk,hF,hrm,hk⟩:=hF;obtain⟨f,fd,ps,f1,f2,f3,f4⟩:=hF.ex;have hbs:zK ("sorted" :Str)=some (.builtin "sorted"):=vF;refine yX (P8 I hgs (hbl.h _ (by decide +kernel)) hbs ?_ (by decide) (by decide));obtain⟨X2,μ,G,sr,hr,pp⟩:=h;unfold WA at pp;have pa:=c7.bind pp;have hst:zF [e] X.env= (false,eval e X.env)::zF [] X.env:=bB hs;refine callWith_builtin_kwB (by rw[EB];exact cA (by rw[jP,hs];rfl)) rfl (evalArgs_kw2 rfl ?_ hst);have ha:DA X Z [e] (x0 fe o0):=AF he OF hst;refine thn (ha.h pos pins s σ H (λvs H1=>∃v d X0 G1,vs= [v]/\d7 (wc X) X0 H1 d v/\j8 (wc X) X0 G1 H1/\c7 (wc X) Z X0 H1 (cC F d G1) (λd X9 _ H'=>∀v,d7 (wc X) X9 H' d v->Q v H')) I ?_) λus s1 ⟨vs,H1,I1,r1,v,d,X0,G1,e1,rd,hr1,p1⟩=>?_
 · refine⟨X2,μ,G,sr,hr,?_⟩;show c7 (wc X) Z μ H ((fe X2 >>= λy=>(pure [y]:M (List D))) G) _
   match hm:fe X2 G,pa with
   |some (.ok y,G1),pa=>
     rw[M.bind_ok hm];intro X9 H' x1 h1 vs rv;obtain⟨v,ev,rv2⟩:=F1 rv;subst ev;exact⟨v,y,X9,G1,rfl,rv2,h1,pa X9 H' x1 h1⟩
   |some (.error y,G1),pa=>
     rw[M.bind_eq,hm];exact pa
 ·subst e1;obtain⟨u,rfl,ru⟩:=W2 r1;show zp _ _ (evalAll [(do let v <-eval (.Name x pf) X.env;Xl pos;pure v)]) _ _ s1;refine wpAny_evalAll_cons (za (sB I1 hg f2 (za (xV (zl (wpAny_evalAll_nil ?_)))) hdb));exact iV hc f1 f4 (hrm.mono hk) I1 hr1 rd ru p1⟩
end
section
variable{prog:zI}{w:zR}{A:jb}{E:VSP}{s:zm}
end
section
variable{X:Cx}{Z:XC}{es:List Expr}{pos:Pos}
end
section
variable{X:Cx}{Z:XC}
end
def F4:List D->M D:=λds=>match ds with
 |[.int n]=>if n.natAbs.log2<1920 then pure (.str (jd (Xo n)))else M.stuck
 |_=>M.stuck
def C9:List D->M D:=λds=>match ds with
 |[.int i]=>pure (.int i)
 |[.bl k]=>pure (.int (if k then 1 else 0))
 |[.str z]=>match Xs z with
   |some n=>if z.length<=640 then pure (.int n)else M.stuck
   |none=>M.stuck
 |_=>M.stuck
def W9(z p:Str)(i:Int):Bool:=decide (Jk z.length i+p.length<=z.length)&&Zg z p (Jk z.length i)
def startsD:D->List D->M D:=λx ds=>match x,ds with
 | .str z, [.str p,.int i]=>pure (.bl (W9 z p i))
 |_,_=>M.stuck
def stuckS:Fs:=λ_=>M.stuck
section
variable{X:Cx}{Z:XC}
theorem wN:K6 X Z (.type "str") F4:=⟨by
 intro pins s σ H xs us Q I r Fm;obtain⟨ds,μ,G,rl,hr,p⟩:=Fm;rcases ds with _|⟨_|_|n|_|_|_|_|_,_|⟨_,_⟩⟩<;>try exact p.elim
 obtain⟨v,rfl,rv⟩:=F1 rl;obtain⟨u,rfl,ru⟩:=W2 r;rw[Q7 rv]at ru;obtain⟨t,rfl⟩:=ru;have p:c7 (wc X) Z μ H ((if n.natAbs.log2<1920 then pure (.str (jd (Xo n)))else M.stuck:M D) G) _:=p;split at p
 case isFalse=>exact p.elim
 rename_i hn;exact PySem.P.str_of_int hn ⟨.str (jd (Xo n)),H,I.tok _,⟨_,rfl⟩,c7.ok p hr _ (by unfold d7;rfl)⟩⟩
theorem FW:K6 X Z (.type "int") C9:=⟨by
 intro pins s σ H xs us Q I r Fm;have hE:=Fm;obtain⟨ds,μ,G,rl,hr,p⟩:=Fm;rcases ds with _|⟨_|b|n|z|_|_|_|_,_|⟨_,_⟩⟩<;>try exact p.elim
 ·exact(gL (X:=X) (Z:=Z)).h pins s σ H xs us Q I r ⟨_,μ,G,rl,hr,p⟩
 ·exact(gL (X:=X) (Z:=Z)).h pins s σ H xs us Q I r ⟨_,μ,G,rl,hr,p⟩
 · obtain⟨v,rfl,rv⟩:=F1 rl;obtain⟨u,rfl,ru⟩:=W2 r;rw[K0 rv]at ru;obtain⟨t,rfl⟩:=ru;have p:c7 (wc X) Z μ H ((match Xs z with|some n=>if z.length<=640 then pure (.int n)else M.stuck|none=>M.stuck:M D) G) _:=p;rcases hz:Xs z with _|n
   ·rw[hz]at p;exact p.elim
   · rw[hz]at p;have p:c7 (wc X) Z μ H ((if z.length<=640 then pure (.int n)else M.stuck:M D) G) _:=p;split at p
     case isFalse=>exact p.elim
     rename_i hl;exact PySem.W.KIN.call_text hz hl ⟨.int n,H,I.tok _,⟨_,rfl⟩,c7.ok p hr _ ofI⟩⟩
theorem RW(_:X.calm=true):BD F4 "str" X Z:=⟨.inr ⟨_,wN,Cm⟩⟩
theorem Cw(_:X.calm=true):BD C9 "int" X Z:=⟨.inr ⟨_,FW,mP⟩⟩
theorem gQ:MtD X Z "str.startswith" startsD:=by
 intro pins s σ H x xs v us Q I rx rvs Fm;obtain⟨d,ds,μ,G,rd,rl,hr,p⟩:=Fm;unfold startsD at p;split at p
 ·rename_i z q i;rw[K0 rd]at rx;obtain⟨t,rfl⟩:=rx;obtain⟨v1,v2,rfl,r1,r2⟩:=OC rl;obtain⟨u1,u2,rfl,s1,s2⟩:=wA rvs;rw[K0 r1]at s1;rw[Q7 r2]at s2;obtain⟨t1,rfl⟩:=s1;obtain⟨t2,rfl⟩:=s2;exact call_gives Xd (Xp _ _ _) F.entry_str_startswith (F.args_str_startswith_3 _ _ _) (gives_str_startswith_from z q i t t1 t2) (show (PySem.Made.val _).post _ s from⟨.bl (W9 z q i),H,I,rfl,c7.ok p hr _ (by unfold d7;rfl)⟩)
 ·exact p.elim
theorem wX{st:Stmt}:DS X Z st stuckS:=⟨by
 intro pins s σ H E I Fm;obtain⟨X2,μ,G,sr,hr,p⟩:=Fm;exact p.elim⟩
end
section
variable{prog:zI}{w:zR}{A:jb}{E:VSP}{s:zm}
end
section
variable{prog:zI}{w:zR}{A:jb}{E:VSP}{s:zm}
end
section
variable{prog:zI}{w:zR}{A:jb}{E:VSP}{s:zm}
end
section
variable{X:Cx}{Z:XC}{c:Wc}{μ:List Addr}{H:Hp}{G:DH}
end
section
variable{X:Cx}{Z:XC}{ea eb:Expr}{fa fb:Fe}{p p1 p2 q1 q2 q3 pos:Pos}
end
def vd(A:jb)(s:zm)(y x:zd)(b:Bool):Prop:=
 ∀(prog:zI) (w:zR) (E:VSP) (Q:VSP),Q (.bool b) s->zp (zy prog w) A (richCompare .GtE y x) Q E s
inductive GeR(A:jb)(s:zm):List zd->List zd->Bool->Prop
 |nil:GeR A s [] [] true
 |eq {x y xs ys b}:jp A s x y true->GeR A s xs ys b->GeR A s (x::xs) (y::ys) b
 |ne {x y xs ys b}:jp A s x y false->vd A s x y b->GeR A s (x::xs) (y::ys) b
section
open PySem.SeqAt
open PySem.AutoSeq1 (wpAny_loadPart')
open PySem.MeetsSeq PySem.MeetsSeq2 PySem.MeetsSeq3
end
section
variable{X:Cx}{Z:XC}
end
def cD:Fe:=λ_=>M.stuck
section
theorem UP:DE X Z e cD:=⟨by
 intro pins s σ H Q I Fm;obtain⟨X2,μ,G,sr,hr,p⟩:=Fm;exact p.elim⟩
end
def NF(c:Wc)(μ:List Addr)(H:Hp)(Fw:Option (D×D))(old:Array zd):Prop:=match Fw with
 |none=>old= #[]
 |some b=>∃v vk u uk,d7 c μ H b.1 v/\o5 v u/\d7 c μ H b.2 vk/\o5 vk uk/\old= #[u,uk]
theorem NF.mono(x:Ext μ H X9 H')(h:NF c μ H Fw old):NF c X9 H' Fw old:=by
 rcases Fw with _|b
 ·exact h
 ·obtain⟨v,vk,u,uk,a1,a2,a3,a4,a5⟩:=h;exact⟨v,vk,u,uk,a1.mono x,a2,a3.mono x,a4,a5⟩
section
variable{X:Cx}{Z:XC}{pins:PNS}{σ:St}{k:Nat}{f:Addr}{fd:yF}{ps:List Str}{F:List D->M D}{A:jb}
end
section
variable{X:Cx}{Z:XC}{F:List D->M D}{x:Str}{e:Expr}{fe:Fe}{p pf kp pos:Pos}
end
section
variable{prog:zI}{w:zR}{A:jb}{E:VSP}{s:zm}{K:Type}[DecidableEq K]{knd:KeyKind prog w K}
end
section
variable{X:Cx}{Z:XC}{ea:Expr}{fa:Fe}{p q1 ap pos:Pos}
end
inductive CdE(w:zR)(K:ze)(mg:Str->Option zd):List DictEntry->List (Str×D)->Prop
 |nil:CdE w K mg [] []
 |cons {z:Str} {t:Tok} {u:zd} {d:D} {es:List DictEntry} {tb:List (Str×D)} (h:CR K mg d u) (r:CdE w K mg es tb):CdE w K mg ({hash:=jw w.params z,key:=.str z t,val:=u}::es) ((z,d)::tb)
structure pF(w:zR)(K:ze)(mg:Str->Option zd)(x:Str)(tb:List (Str×D)):Prop where
 ex:∃a es n,mg x=some (.ref a)/\K.lookup a=some ⟨.type "dict",none,.dict (zB es) n, #[]⟩/\CdE w K mg es tb
 nd:(tb.map (·.1)).Nodup
def kE:List (Str×D)->Str->Option D
 |[],_=>none
 |(y,d)::r,z=>if y=z then some d else kE r z
def ixC(x:Str)(tb:List (Str×D)):D->D->M D:=λa b=>match a,b with
 | .fn y,.str z=>if y=x then N0 (kE tb z)else M.stuck
 |_,_=>M.stuck
theorem CdE.kv{w:zR}{K:ze}(h:CdE w K mg es tb):∃Fk:List (Key×zd),Pairs (v7 P w) es Fk/\(∀e∈es,∃k,(v7 P w).is k e.key=true/\e.hash= (v7 P w).hash k)/\Fk.map (·.1)=tb.map (λp=>(.inr p.1:Key))/\∀z d,kE tb z=some d->∃u,Zl Fk (.inr z)=some u/\CR K mg d u:=by
 induction h with
 |nil=>exact⟨[],.nil,λ_ h=>(nomatch h),rfl,λ_ _ h=>by cases h⟩
 |@cons z t u d es tb h r ih=>
   obtain⟨Fk,h1,h2,h3,h4⟩:=ih;refine⟨(.inr z,u)::Fk,.cons (WE z t) rfl h1,λe he=>?_,by rw[zN,zN,h3],λy d' e=>?_⟩
   · rcases zz.mp he with rfl|he
     ·exact⟨.inr z,WE z t,rfl⟩
     ·exact h2 e he
   · unfold kE at e;by_cases c:z=y
     · rw[if_pos c]at e
       cases e
       refine⟨u,?_,h⟩;subst c;simp[Zl]
     ·rw[if_neg c]at e;obtain⟨u',e1,e2⟩:=h4 y d' e;refine⟨u',?_,e2⟩;have:¬(Sum.inr z:Key)=Sum.inr y:=λq=>c (Xf q);simp only[Zl,yw,this,decide_false]at e1 ⊢;exact e1
section
variable{X:Cx}{Z:XC}{b:Expr}{fb:Fe}{x:Str}{tb:List (Str×D)}{p pos:Pos}
theorem ES(hc:pF X.w X.K X.mg x tb):IxD X Z (ixC x tb):=by
 intro value slice pins s σ H vx vy v u Q I rx ry h hs;obtain⟨dx,dy,μ,G,Gj,Gk,hr,pp⟩:=h;unfold ixC at pp;split at pp
 · rename_i y z;split at pp
   · rename_i e;subst e;obtain⟨d,ed,k⟩:=lG hr pp;unfold d7 at Gj;obtain⟨a',em,rfl⟩:=Gj;obtain⟨a,es,n,hm,hl,ce⟩:=hc.ex;have ea:a'=a:=by
      have:=em.symm.trans hm;injection this with this;injection this
     subst ea;obtain⟨Fk,h1,h2,h3,h4⟩:=ce.kv (P:=X.prog);obtain⟨w',e1,v',rv',rp⟩:=h4 z d ed
     cases rx
     have dd:s.heap.DictOf (v7 X.prog X.w) a' Fk:=⟨_,_,_,I.kIn _ _ hl,⟨rfl,rfl,rfl⟩,rfl,λe he=>h2 e (by simpa using he),by simpa using h1,by
      rw[h3];have:tb.map (λp=>(.inr p.1:Key))= (tb.map (·.1)).map Sum.inr:=by rw[jM];rfl
      rw[this];exact List.Pairwise.map Sum.inr (λa b h e=>h (Xf e)) hc.nd⟩
     rw[K0 Gk]at ry;exact Zp (x:=w') dd.typeIs PySem.F.slot_dict_getitem.lookup (wpAny_getItem_of (Q:=λr s'=>r=w'/\EP X pins σ Q r s') (iA (k:=.inr z) ry) dd.mapOf e1 ⟨rfl,v',H,I.tok _,rv',k v' (rp μ H)⟩) hs
   ·exact pp.elim
 ·exact pp.elim
theorem vO(hc:pF X.w X.K X.mg x tb)(hg:Gl X x)(hdb:(x==("__debug__" :Str))=false)(hb:DE X Z b fb)(hs:vC b):DE X Z (.Subscript (.Name x p) b pos) (j6 (ixC x tb) (cE (.fn x)) fb):=
 pI (ES hc) ⟨by
  intro pins s σ H Q I h;obtain⟨a,_,_,hm,_,_⟩:=hc.ex;obtain⟨X2,μ,G,sr,hr,pp⟩:=h;exact sB I hg hm ⟨.ref a,H,I,rfl,c7.ok pp hr _ ⟨a,hm,rfl⟩⟩ hdb⟩ hb hs
end
mutual
def pyD:D->PyData
 | .non=>.none
 | .bl b=>.bool b
 | .int i=>.int i
 | .str x=>.str x
 | .tup l=>.tuple (pyL l)
 | .ref _=>.none
 | .fn _=>.none
 | .ty _=>.none
def pyL:List D->List PyData
 |[]=> []
 |d::r=>pyD d::pyL r
end
mutual
def kA:D->Bool
 | .non=>true
 | .bl _=>true
 | .int _=>true
 | .str _=>true
 | .tup l=>FC l
 | .ref _=>false
 | .fn _=>false
 | .ty _=>false
def FC:List D->Bool
 |[]=>true
 |d::r=>kA d&&FC r
end
mutual
theorem PU:∀d:D,(pyD d).hasDict=false
 | .non=>rfl
 | .bl _=>rfl
 | .int _=>rfl
 | .str _=>rfl
 | .tup l=>by unfold pyD;exact dJ l
 | .ref _=>rfl
 | .fn _=>rfl
 | .ty _=>rfl
theorem dJ:∀l:List D,Jb (pyL l)=false
 |[]=>rfl
 |d::r=>by unfold pyL;show ((pyD d).hasDict||Jb (pyL r))=false;rw[PU d,dJ r];rfl
end
section
variable{X:Cx}{Z:XC}{pins:PNS}{σ:St}{H:Hp}{s:zm}
theorem iR(I:Inv X pins σ H s)(q:SqT X.K H a vs):∃o Fj n,s.heap.get? a=some o/\o.cls= .type "tuple"/\o.data= .seq Fj n/\j7 vs Fj.toList:=by
 rcases q with q|⟨o,Fj,n,hl,hc,hd,_,hv⟩
 ·obtain⟨_,Fj,hv,o,e,c,n,d⟩:=(show K5 X.prog X.w H s.heap a (.tup vs)from OG I.hok q);exact⟨o,Fj.toArray,n,e,c,(Za d).1,by simpa using hv⟩
 ·exact⟨o,Fj,n,I.kIn _ _ hl,hc,(Za hd).1,hv⟩
mutual
theorem bQ(I:Inv X pins σ H s):∀d {v} {u},kA d=true->d7 (wc X) μ H d v->o5 v u->∃as,Reads s.heap u (pyD d) as
 | .non,v,u,_,r,q=>by unfold d7 at r;subst r;cases q;exact⟨_,.none⟩
 | .bl b,v,u,_,r,q=>by unfold d7 at r;subst r;cases q;exact⟨_,.bool b⟩
 | .int i,v,u,_,r,q=>by unfold d7 at r;subst r;obtain⟨t,rfl⟩:=q;exact⟨_,.int i t⟩
 | .str x,v,u,_,r,q=>by unfold d7 at r;subst r;obtain⟨t,rfl⟩:=q;exact⟨_,.str x t⟩
 | .tup l,v,u,hd,r,q=>by
   unfold d7 at r;obtain⟨a,vs,rfl,sq,rl⟩:=r
   cases q
   obtain⟨o,Fj,n,e,c,d,hv⟩:=iR I sq;obtain⟨as,ra⟩:=mN I l (by unfold kA at hd;exact hd) rl hv;unfold pyD;exact⟨as,.tuple e c d ra⟩
 | .ref _,v,u,hd,_,_=>by unfold kA at hd;cases hd
 | .fn _,v,u,hd,_,_=>by unfold kA at hd;cases hd
 | .ty _,v,u,hd,_,_=>by unfold kA at hd;cases hd
theorem mN(I:Inv X pins σ H s):∀l {vs} {us},FC l=true->g8 (wc X) μ H l vs->j7 vs us->∃as,ReadsAll s.heap us (pyL l) as
 |[],vs,us,_,r,q=>by unfold g8 at r;subst r;cases q;exact⟨_,.nil⟩
 |d::l,vs,us,hd,r,q=>by
   unfold g8 at r;obtain⟨v,r',rfl,r1,r2⟩:=r;unfold FC at hd;rw[jl]at hd
   cases q with
   |cons q1 q2=>
     obtain⟨as,h1⟩:=bQ I d hd.1 r1 q1;obtain⟨bs,h2⟩:=mN I l hd.2 r2 q2;unfold pyL;exact⟨_,.cons h1 h2⟩
end
end
section
variable{X:Cx}{Z:XC}
end
end DL
namespace W
open PySem PySem.Spec L2 DL
open PyProof.Rows hiding St
end W
namespace DL
open PySem PySem.Spec L2
open PyProof.Rows hiding St
section
variable{X:Cx}{Z:XC}{o:Expr}{fo:Fe}{name:Str}{id:String}{mm:D->List D->M D}{Gq Fz:Pos}
end
def sV:zd->Str
 | .str x _=>x
 |_=> ""
def byT(w:zR):Bool:=w.params.followText "set-order"
def TSet(prog:zI)(w:zR)(h:Heap)(a:Addr)(ss:List Str):Prop:=∃o es ep t,h.get? a=some o/\o.ExactSet/\o.data= .set es ep t/\ElemsOf (strKind prog w) es.toList/\(es.toList.map λe=>sV e.2).Perm ss/\es.size<scanBound/\t.fits es.size=true/\t.led= (!byT w)/\(0<es.size->t.plain=false)
section
variable{prog:zI}{w:zR}{A:jb}{E:VSP}{s:zm}
end
theorem StrsAre.at:∀ {vs} {ss},StrsAre vs ss->∀(i:Nat) v,vs[i]? =some v->∃x t,ss[i]? =some x/\v= .str x t
 |_,_,.nil,i,v,h=>by simp at h
 |_,_,.cons x t hr,0,v,h=>by simp at h;exact⟨x,t,rfl,h.symm⟩
 |_,_,.cons n t hr,i+1,v,h=>by simp only[zV]at h ⊢;exact StrsAre.at hr i v h
section
variable{prog:zI}{w:zR}{A:jb}{R:Result->zm->Prop}{I:Addr}{fp wr:List Addr}{G:Array GenState->Array GenState->Prop}{n:Nat}{P:Nat->zd->Prop}{St:Nat->zm->Prop}
end
section
end
abbrev sO(es:Array (Int×zd))(ep:Nat)(t:SetTable):Obj:={cls:=.type "set",dict:=none,data:=.set es ep t,slots:= #[]}
section
end
section
end
structure SWalk(prog:zI)(w:zR)(A:jb)(s:zm)(a:Addr)(ss:List Str)(I:Addr)(h':Heap):Prop where
 keep:∀b o,s.heap.get? b=some o->h'.get? b=some o
 new:s.heap.objs.size<=I
 walk:∃(J:Addr) (vs:List zd) (ss':List Str) (St:Nat->Heap->Prop),s.heap.objs.size<=J/\StrsAre vs ss'/\ss'.Perm ss/\Walks prog w A I [I,J,a] [I] vs.length (λi v=>vs[i]? =some v) St/\St 0 h'
section
end
section
variable{prog:zI}{w:zR}{A:jb}{E:VSP}{s:zm}{a I:Addr}{es:Array (Int×zd)}{ep:Nat}{t:SetTable}
end
section
variable{prog:zI}{w:zR}{s:zm}{a I:Addr}{es:Array (Int×zd)}{ep:Nat}{t:SetTable}
theorem TSet.type(hS:TSet prog w s.heap a ss):s.TypeIs (.ref a) "set":=by obtain⟨o,es,ep,t,ho,⟨x1,_⟩,_⟩:=hS;exact⟨o,ho,x1⟩
end
section
end
section
end
section
end
end DL
namespace W
open PySem PySem.Spec L2 DL
open PyProof.Rows hiding St
end W
namespace DL
open PySem PySem.Spec L2
open PyProof.Rows hiding St
def lcg(m i:Nat):Nat:=(i*5+1) % (m+1)
def itr(m:Nat):Nat->Nat->Nat
 |0,i=>i
 |k+1,i=>itr m k (lcg m i)
def qK(m:Nat):Prop:=∀i≤m,∀j≤m,∃k≤m,itr m k i=j
def iC(owner:Array (Option Nat))(r:Option Nat):Prop:=∃j,r=some j/\owner[j]? =some none
theorem Bf{owner:Array (Option Nat)}(h:(zJ n).find? (λk=>(owner.getD (i+k) (some 0)).isNone)=some k):owner[i+k]? =some none:=by
 have:=List.find?_some h;have e:owner.getD (i+k) (some 0)=none:=by simpa using this
 rw[Yw]at e;rcases h2:owner[i+k]? with _|o
 ·rw[h2]at e;cases e
 ·rw[h2]at e;have:o=none:=e;rw[this]
theorem Bq(h:owner[i]? =some none):iC owner (jm mask owner (f+1) i p):=by
 unfold jm;have hr:∃m,ZP mask i+1-i=m+1:=by
  unfold ZP;split
  ·exact⟨9,by omega⟩
  ·exact⟨0,by omega⟩
 obtain⟨m,hm⟩:=hr;have:((zJ (ZP mask i+1-i)).find? λk=>(owner.getD (i+k) (some 0)).isNone)=some 0:=by rw[hm,yn,List.find?_cons_of_pos];rw[Yw,Nat.add_zero,h];rfl
 rw[this];exact⟨i,by simp,h⟩
theorem OH{owner:Array (Option Nat)}(h:iC owner (jm mask owner f (Zf mask i p).1 (Zf mask i p).2)):iC owner (jm mask owner (f+1) i p):=by
 unfold jm;split
 ·rename_i k hk;exact⟨i+k,rfl,Bf hk⟩
 ·exact h
theorem sI(hj:owner[j]? =some none):∀k f i,k<f->itr mask k i=j->iC owner (jm mask owner f i 0)
 |0,f+1,i,_,e=>by have e:i=j:=e;rw[<-e]at hj;exact Bq hj
 |k+1,f+1,i,hf,e=>by
   refine OH ?_;have e1:(Zf mask i 0).1=lcg mask i:=by show (i*5+1+0 / 32) % (mask+1)=_;simp[lcg]
   have e2:(Zf mask i 0).2=0:=by show 0 / 32=0;rfl
   rw[e1,e2];exact sI hj k f _ (by omega) e
theorem lI(hF:qK mask)(hj:owner[j]? =some none)(hm:j<=mask):∀n f i p,p<32 ^ n->n+mask<f->i<=mask->iC owner (jm mask owner f i p)
 |0,f,i,p,hp,hf,hi=>by
   obtain rfl:p=0:=by simpa using hp
   obtain⟨k,hk,e⟩:=hF i hi j hm;exact sI hj k f i (by omega) e
 |n+1,f+1,i,p,hp,hf,hi=>by
   refine OH (lI hF hj hm n f _ _ ?_ (by omega) ?_)
   ·show p / 32<32 ^ n;rw[Nat.pow_succ]at hp;omega
   ·show (i*5+1+p / 32) % (mask+1)<=mask;have:=YY (i*5+1+p / 32) (show 0<mask+1 by omega);omega
structure CF(mask:Nat)(k:Nat)(owner:Array (Option Nat)):Prop where
 sz:owner.size=mask+1
 pm:(owner.toList.filterMap id).Perm (zJ k)
theorem uN:∀ {l:List (Option α)} {j:Nat},l[j]? =some none->((l.set j (some x)).filterMap id).Perm (x::l.filterMap id)
 |[],_,h=>by simp at h
 |a::l,0,h=>by
   have:a=none:=by simpa using h
   subst this;simp
 |a::l,j+1,h=>by
   have ih:=uN (x:=x) (l:=l) (j:=j) (by simpa using h);rw[jI];rcases a with _|a
   ·simpa using ih
   ·show (a::YK id (l.set j (some x))).Perm (x::a::YK id l);exact(List.Perm.cons a ih).trans (List.Perm.swap ..)
theorem iJ:∀ {l:List (Option Nat)},(l.filterMap id).length<l.length->∃j,j<l.length/\l[j]? =some none
 |[],h=>by simp at h
 |none::l,h=>⟨0,by simp,rfl⟩
 |some a::l,h=>by obtain⟨j,h1,h2⟩:=iJ (l:=l) (by simpa using h);exact⟨j+1,by simpa using h1,by simpa using h2⟩
theorem SX(h:Int):yY h<32 ^ 13:=by
 unfold yY;have h1:=jY h (show (0:Int)<2 ^ 64 by decide);have h2:=jo h (show (2 ^ 64:Int)≠0 by decide);have:(32:Nat) ^ 13=36893488147419103232:=by decide
 omega
theorem CF.step{owner:Array (Option Nat)}(hF:qK mask)(I:CF mask k owner)(hk:k<=mask)(h:Int):∃j,jm mask owner (Yj mask) (yY h % (mask+1)) (yY h)=some j/\CF mask (k+1) (owner.setIfInBounds j (some k)):=by
 have hl:(owner.toList.filterMap id).length=k:=by rw[I.pm.length_eq,yW]
 obtain⟨j0,hj0,e0⟩:=iJ (l:=owner.toList) (by rw[hl,jA,I.sz];omega);rw[js]at e0;have hm:j0<=mask:=by rw[jA,I.sz]at hj0;omega
 have hi:yY h % (mask+1)<=mask:=by have:=YY (yY h) (show 0<mask+1 by omega);omega
 obtain⟨j,e,ho⟩:=lI hF e0 hm 13 (Yj mask) _ _ (SX h) (by unfold Yj;omega) hi;refine⟨j,e,by simp[I.sz],?_⟩;rw[Array.toList_setIfInBounds];refine(uN (by rw[js];exact ho)).trans ?_;rw[Yu];exact(List.Perm.cons k I.pm).trans (List.perm_append_singleton ..).symm
section
variable{prog:zI}{w:zR}{A:jb}{E:VSP}{s:zm}{a:Addr}
end
section
end
section
end
section
theorem TSet.obj(hS:TSet prog w h a ss):∃es ep t,h.get? a=some (sO es ep t)/\t.fits es.size=true:=by obtain⟨o,es,ep,t,ho,⟨x1,x2,x3⟩,hd,_,_,_,hf,_⟩:=hS;obtain⟨oc,od,odt,os⟩:=o;obtain rfl:oc= .type "set":=x1;obtain rfl:od=none:=x2;obtain rfl:os= #[]:=x3;obtain rfl:odt= .set es ep t:=hd;exact⟨es,ep,t,ho,hf⟩
end
inductive w9(w:zR):List DictEntry->List Str->Prop
 |nil:w9 w [] []
 |cons {e:DictEntry} {x:Str} {tk:Tok} {es:List DictEntry} {xs:List Str}:e.key= .str x tk->e.hash=hashStr w x->w9 w es xs->w9 w (e::es) (x::xs)
theorem w9.len(h:w9 w es xs):es.length=xs.length:=by
 induction h with
 |nil=>rfl
 |cons _ _ _ ih=>simp[ih]
theorem w9.at(h:w9 w es xs):∀ {i:Nat} {e:DictEntry},es[i]? =some e->∃x tk,xs[i]? =some x/\e.key= .str x tk/\e.hash=hashStr w x:=by
 induction h with
 |nil=>intro i e h;simp at h
 |cons h1 h2 _ ih=>
   intro i e h;rcases i with _|i
   ·simp at h;subst h;exact⟨_,_,rfl,h1,h2⟩
   ·simpa using ih (by simpa using h)
section
end
section
end
section
end
end DL
namespace W
open PySem PySem.Spec L2 DL
open PyProof.Rows hiding St
end W
namespace DL
open PySem PySem.Spec L2
open PyProof.Rows hiding St
structure Ev where
 P:zI
 w:zR
 K:ze
 mg:Str->Option zd
 base:Heap
structure EvX(E:Ev):Prop where
 ex:∃h:Heap,E.K.In h/\h.Ns zZ E.mg
abbrev Ck(E:Ev)(F:List D->M D)(n:Nat)(x:Str)(k:Nat):Prop:=W3 F n x E.P E.w E.K E.mg E.base k
def BA(x:Str)(st:Stmt)(ps:List Str):Prop:=∀(kV doc pm:zd) (an:Option Addr) (Gh ct:zd) (us:List zd),us.length=ps.length->bindArgs (jK x x (X8 st) (O9 st) (t7 st) .none kV doc pm an Gh ct) ⟨us, []⟩=pure (ps.zip us)
section
variable{E:Ev}{x:Str}{st:Stmt}{k n m:Nat}{fb:Fs}
theorem J1(N ps:List Str)(X:EvX E)(Y:FH E.K x st)(S:R3 N ps (t7 st))(b:BA x st ps)(hn:ps.length=n)(hm:N.length=m)
 (hb:R3 N ps (t7 st)->∀f Gh A outer s H Z,K8 k (A.deeper (xZ x (t7 st) s.heap.objs.size f Gh))->DB (t5 CX0 E.P E.w E.K E.mg E.base N x (t7 st) f Gh A outer s H Z).nox ZF (O9 st) fb):Ck E (m8 m fb) n x (k+1):=by
 obtain⟨h,X,G⟩:=X.ex;obtain⟨f,fd,c⟩:=Y.ff X G b;exact W3.of c (lN c S hn hm (hb S f))
theorem CY(ps:List Str)(X:EvX E)(Y:FH E.K x st)(b:BA x st ps)(hn:ps.length=n):Ck E (λ_=>M.stuck) n x k:=by obtain⟨h,X,G⟩:=X.ex;obtain⟨f,fd,c⟩:=Y.ff X G b;exact W3.of c (VQ hn)
end
def FHs(K:ze)(top:Nat->Stmt):List Str->List Nat->Prop
 |x::r,i::s=>FH K x (top i)/\FHs K top r s
 |_,_=>True
section
variable{K:ze}{top:Nat->Stmt}{x:Str}{i:Nat}{r:List Str}{s:List Nat}{mg:Str->Option zd}{d:D}{u:zd}{h:Heap}
theorem FHs.c(h:FH K x (top i))(t:FHs K top r s):FHs K top (x::r) (i::s):=⟨h,t⟩
structure CC(K:ze)(mg:Str->Option zd)(x:Str)(d:D):Prop where
 ex:∃u,yQ K zZ x=some (some u)/\CR K mg d u
theorem CC.of(g:yQ K zZ x=some (some u))(r:CR K mg d u):CC K mg x d:=⟨u,g,r⟩
theorem CC.ok(c:CC K mg x d)(X:K.In h)(G:h.Ns zZ mg):D8 K mg x d:=by obtain⟨u,g,r⟩:=c.ex;exact⟨u,xz X G g,r⟩
theorem kw{fa:Addr}{P:zI}{w:zR}{N:List Str}{k m:Nat}{fb:Fs}(X:K.In h)(G:h.Ns zZ mg)(hfa:mg "law" =some (.ref fa))(Y:FH K "law" (top i))(b:BA "law" (top i) ["script"])(S:R3 N ["script"] (t7 (top i)))(hm:N.length=m)
 (hs:∀kV dc pm an cd ct (s:zm) (v:zd),Zo s (jK "law" "law" (X8 (top i)) (O9 (top i)) (t7 (top i)) .none kV dc pm an cd ct) ⟨[v], []⟩ [("script",v)])
 (hb:∀base,R3 N ["script"] (t7 (top i))->∀Gh A outer s H Z,K8 k (A.deeper (xZ "law" (t7 (top i)) s.heap.objs.size fa Gh))->DB (t5 CX0 P w K mg base N "law" (t7 (top i)) fa Gh A outer s H Z).nox ZF (O9 (top i)) fb)
 (pure:∀ns:List Int,ns.length<=63->∃G',m8 m fb [.ref 0] [.rol (ns.map D.int)]=some (.ok (.bl true),G')):
 ∃fd:yF,(∀(s:zm) (v:zd),Zo s fd ⟨[v], []⟩ [("script",v)])/\∀base:Heap,K.In base->base.Ns zZ mg->V1 P w K mg base CX0 (k+1) fa fd ["script"] (AE K):=by
 obtain⟨f,od,an,sl,oc,kV,dc,pm,cd,ct,a,l,e,kp⟩:=Y;have q:=hfa.symm.trans (xz X G a)
 cases q
 exact⟨_,hs kV dc pm an cd ct,λbase _ _=>km (lN ⟨uE l e kp,(uE l e kp).binds b,xz X G a⟩ S rfl hm (hb base S)) pure⟩
theorem walk63{l:PySem.W.OpenLaw}{q:zI}{loose:List Str}{XP:(Str->Option zd)->Heap->Prop}{YP:zR->Heap->Prop}{d:DefRec}{K:Params->ze}(k:Nat)(hn:l.most=some 63)(hdf:d.params.defaults= [])(hr:K8 k ZO)
 (hY:∀(w:zR) (h:Heap),YP w h->(K w.params).In h)
 (F:∀(w:zR) (mg:Str->Option zd) (fa:Addr) (h:Heap),(K w.params).In h->h.Ns zZ mg->mg d.name=some (.ref fa)->
   ∃fd:yF,(∀(s:zm) (u:zd),Zo s fd ⟨[u], []⟩ [("script",u)])/\∀base:Heap,(K w.params).In base->base.Ns zZ mg->V1 l.prog w (K w.params) mg base CX0 k fa fd ["script"] (AE (K w.params))):
 JQ q loose XP YP l.row.toRowW d [] (λf vs=>XY f vs):=
 L2.walk_of hn (by decide) hdf hr hY F (λ_ _ a ns hl hO hS=>⟨a,ns,rfl,hS,hO,hl,λ_=>rfl⟩) λ_ _ _ _ _ z=>z
end
section
variable{prog:zI}{w:zR}{A:jb}{E:VSP}{s:zm}
end
section
end
section
end
section
variable{X:Cx}{Z:XC}{ea:Expr}{fa:Fe}{p q1 ap pos:Pos}
end
section
variable{prog:zI}{w:zR}{A:jb}{E:VSP}{s:zm}
theorem NS{a:Addr}{n:Nat}{vs:List zd}{qs:List (Int×Int)}{P:Fin->zm->Prop}(hl:qs.length=vs.length)(Gz:vs.length<64)(ho:s.heap.get? a=some (zG "list" vs.toArray n))(hp:∀(i:Nat) q,qs[i]? =some q->∃u,vs[i]? =some u/\C6 s.heap u q)
 (h:∀(h':Heap) e,(∀b o,b≠a->s.heap.get? b=some o->h'.get? b=some o)->h'.get? a=some (zG "list" (zB ((M9 qs vs.length).map λi=>vs.getD i .none)) e)->P (.done (.ret .none)) {s with heap:=h'}):
 zp (zy prog w) A (yT.«list.sort» ⟨[.ref a], []⟩) P E s:=by
 have ha:a<s.heap.objs.size:=zo ho;obtain⟨e1,ho1⟩:∃e1,(s.heap.update a (zO λ_=>(#[]:Array zd))).get? a=some (zG "list" #[] e1):=⟨_,yU ho λ_=> #[]⟩;have k1:∀b o,b≠a->s.heap.get? b=some o->(s.heap.update a (zO λ_=>(#[]:Array zd))).get? b=some o:=λb o hb e=>by rw[jq _ _ _ _ hb];exact e
 rw[list_sort_plain];refine za (Zq ho rfl (za (yk ho rfl ?_ (by rw[zg,jh];lia) (zW _))));refine za (xT ho1 rfl (za (ZH ?_ (by show vs.length<=_;rw[jh];lia))));refine za (xo ?_ (zW _));refine ju ?_;have Gp:(((s.heap.update a (zO λ_=>(#[]:Array zd))).push (zG "tuple" vs.toArray 0)).push (zG "list" #[] 0)).get? a=some (zG "list" #[] e1):=zc _ (zc _ ho1);have k2:∀b o,b≠a->s.heap.get? b=some o->(((s.heap.update a (zO λ_=>(#[]:Array zd))).push (zG "tuple" vs.toArray 0)).push (zG "list" #[] 0)).get? b=some o:=λb o hb e=>zc _ (zc _ (k1 b o hb e));show zp (zy prog w) A _ P E {s with heap:=((s.heap.update a (zO λ_=>(#[]:Array zd))).push (zG "tuple" vs.toArray 0)).push (zG "list" #[] 0)};generalize ((s.heap.update a (zO λ_=>(#[]:Array zd))).push (zG "tuple" vs.toArray 0)).push (zG "list" #[] 0)=hh at Gp k2;dsimp only;have hp':∀(i:Nat) q,qs[i]? =some q->∃u,vs[i]? =some u/\C6 hh u q:=λi x e=>by
  obtain⟨u,e1,b,t,t',rfl,o,hb,hc,n',hd⟩:=hp i x e;refine⟨_,e1,b,t,t',rfl,o,k2 b _ (λz=>?_) hb,hc,n',hd⟩;rw[z,ho]at hb
  cases hb
  simp[zG]at hc
 have fin:∃e,(hh.update a (zO λ_=>zB ((M9 qs vs.length).map λi=>vs.getD i .none))).get? a=some (zG "list" (zB ((M9 qs vs.length).map λi=>vs.getD i .none)) e)/\P (.done (.ret .none)) {s with heap:=hh.update a (zO λ_=>zB ((M9 qs vs.length).map λi=>vs.getD i .none))}:=by obtain⟨e,he⟩:∃e,(hh.update a (zO λ_=>zB ((M9 qs vs.length).map λi=>vs.getD i .none))).get? a=some (zG "list" (zB ((M9 qs vs.length).map λi=>vs.getD i .none)) e):=⟨_,yU Gp λ_=>_⟩;exact⟨e,he,h _ e (λb o hb q=>by rw[jq _ _ _ _ hb];exact k2 b o hb q) he⟩
 have pm:=(lE qs vs.length).1;have tail:(zB ((M9 qs vs.length).map λi=>vs.getD i Value.none)).size<=zi+1:=by rw[zg,zn,pm.length_eq,yW,jh];lia
 by_cases h2:vs.toArray.size<2
 · rw[if_pos h2,if_pos h2];refine za (zl ?_);rw[Ye];refine za (zl ?_);dsimp only;have hn:vs.length<2:=by simpa using h2
   have hv:(jB (XM general' (vs.toArray.zip vs.toArray) #[] 7 none)).map (·.2)=zB ((M9 qs vs.length).map λi=>vs.getD i Value.none):=by
    rw[M9,if_pos hn];show (vs.toArray.zip vs.toArray).map (·.2)=_;apply xf.mp;rw[Yd];apply yj
    ·simp
    ·intro i hi hj;simp at hi hj ⊢;simp[hj]
   rw[hv];refine za (xT Gp rfl (za (yk Gp rfl ?_ (zW _) tail)));simp only[bne_self_eq_false,zS,if_false];exact zl (fin.elim λ_ h=>h.2)
 · rw[if_neg h2,if_neg h2];have hn2:2<=vs.length:=by simpa using h2
   have gq:∀i,i<vs.length->qs[i]? =some (qs.getD i (0,0)):=λi hi=>by rw[zj,zq (by lia)];rfl
   obtain⟨fs,T,hfs,hT⟩:∃fs:List zd,yN hh vs fs/\0<fs.length/\∀v∈fs,∃n t,v= .int n t:=by
    have gen:∀(ku:List zd) (qs:List (Int×Int)),qs.length=ku.length->(∀(i:Nat) (q:Int×Int),qs[i]? =some q->∃u,ku[i]? =some u/\C6 hh u q)->∃fs:List zd,yN hh ku fs/\fs.length=ku.length/\∀v∈fs,∃n t,v= .int n t:=by
     intro ku
     induction ku with
     |nil=>exact λqs _ _=>⟨[],trivial,rfl,λv hv=>by cases hv⟩
     |cons u r ih=>
       intro qs hl hk;rcases qs with _|⟨q,qr⟩
       ·simp at hl
       ·
         obtain⟨u',e1,ad,t,t',rfl,o,ho,hc,n,hd⟩:=hk 0 q rfl;simp at e1;subst e1;obtain⟨fs,f1,f2,f3⟩:=ih qr (by simpa using hl) λi q hq=>by simpa using hk (i+1) q (by simpa using hq)
         refine⟨.int q.1 t::fs,xB ho hc hd rfl f1,by simp[f2],λv hv=>?_⟩;rcases zz.mp hv with rfl|hv
         ·exact⟨_,_,rfl⟩
         ·exact f3 v hv
    obtain⟨fs,f1,f2,f3⟩:=gen vs qs hl hp';exact⟨fs,f1,by lia,f3⟩
   refine za (ZK (T:=.type "int") T hfs (λv hv=>?_) (by decide) ?_)
   ·obtain⟨n,t,rfl⟩:=hT v hv;exact xA rfl
   · have run:=tOk.wp (s:={s with heap:=hh}) (cmp:=ym prog w A (tuples' (Value.type "int" != Value.type "tuple")) vs) (λi j C hi hj hC=>by
      obtain⟨u,u1,u2⟩:=hp' i _ (gq i hi);obtain⟨v,v1,v2⟩:=hp' j _ (gq j hj);unfold ym;rw[zj,zj,u1,v1];exact LJ u2 v2 hC) _ (tOk.run _ (AG (GF qs) hn2))
     refine za (jf (ZV (Q:=λFx s'=>∃p:Array Nat,p.size=vs.length/\jB Fx=p.map (ZL (vs.toArray.zip vs.toArray))/\xj Fx=none/\s'= {s with heap:=hh}/\p=y6 (ltP qs) (yE vs.length)/\v8 p vs.length/\upW (ltP qs) p vs.length) rfl hn2 Gz (λp Fx s' a1 a2 a3 a4=>⟨p,a1,a2,a3,a4⟩) run) ?_ λ_ _ x=>x);rintro⟨⟨⟩,Fx⟩ s' ⟨p,hp,har,hf,rfl,rfl,P1,U⟩;dsimp only;have e9:M9 qs vs.length= (y6 (ltP qs) (yE vs.length)).toList:=by rw[M9,if_neg (by lia)]
     rw[ZJ rfl har,<-e9];refine za (xT Gp rfl (za (yk Gp rfl ?_ (zW _) tail)));rw[hf];simp only[bne_self_eq_false,zS,if_false];exact zl (fin.elim λ_ h=>h.2)
theorem HX{a:Addr}{o:Obj}{n:Nat}{vs:List zd}{qs:List (Int×Int)}{Q:VSP}(ho:s.heap.get? a=some o)(hc:o.cls= .type "list")(hd:o.data= .seq vs.toArray n)(hl:qs.length=vs.length)(Gz:vs.length<64)(hp:∀(i:Nat) q,qs[i]? =some q->∃u,vs[i]? =some u/\C6 s.heap u q)
 (h:∀(h1 h':Heap) (tk e:Nat),(∀b o,s.heap.get? b=some o->h1.get? b=some o)->(∀b o,h1.get? b=some o->h'.get? b=some o)->h'.get? h1.objs.size=some (zG "list" (zB ((M9 qs vs.length).map λi=>vs.getD i .none)) e)->Q (.ref h1.objs.size) {s with heap:=h',toks:=tk}):
 zp (zy prog w) A (call (.builtin "sorted") [.ref a]) Q E s:=by
 have hz:vs.length<=zi:=zP (xa Gz) (by decide);refine Calls.call_function_entry kind_sorted JM JN (args_sorted1 _) ?_;unfold yT.«sorted»;refine za (zl ?_);refine za (Yx a (.inl rfl) ho hc hd (λh1 hk=>?_) (by rw[zg];exact hz));refine za (xo ?_ hz);have hoL:(h1.push (zG "list" vs.toArray 0)).get? h1.objs.size=some (zG "list" vs.toArray 0):=zu _ rfl;refine za (ju (yp Xy ⟨_,hoL,rfl⟩ Xi (NS hl Gz hoL (λi q e=>?_) λh' e k1 k2=>⟨_,rfl,?_⟩) (args_list_sort _)))
 ·obtain⟨u,e1,b,t,t',rfl,o',hb,hc,n',hd⟩:=hp i q e;exact⟨_,e1,b,t,t',rfl,o',zc _ (hk _ _ hb),hc,n',hd⟩
 ·exact zl ⟨_,rfl,h h1 h' s.toks e hk (λb o hb=>k1 b o (zE (zo hb)) (zc _ hb)) k2⟩
end
def mB(l:List D):M D:=if l.length<64 then (do
 let qs <-N0 (U8 l)
 J4 (.lst (l6 qs l)))else M.stuck
def NA:List D->M D:=λds=>match ds with
 |[.ref r]=>do
   match <-J5 r with
   | .lst l=>mB l
   |_=>M.stuck
 |_=>M.stuck
theorem nZ:K6 X Z (.builtin "sorted") NA:=⟨by
 intro pins s σ H xs us Q I r Fm;obtain⟨ds,μ,G,rl,hr,p⟩:=Fm;rcases ds with _|⟨_|_|_|_|l|i|_|_,_|⟨_,_⟩⟩<;>try exact p.elim
 delta NA at p;dsimp only at p;obtain⟨v,rfl,rv⟩:=F1 rl;obtain⟨u,rfl,ru⟩:=W2 r;have rv':=rv;unfold d7 at rv';obtain⟨a,m,rfl⟩:=rv'
 cases ru
 obtain⟨o,g,p1⟩:=w6 p;have ro:=hr.obj i o a g m;rcases o with l|l|l|l<;>try exact p1.elim
 obtain⟨vs,q,Gf⟩:=ro;obtain⟨Fj,rv,pl,hz⟩:=I.list (SqL.of q);obtain⟨o,h1,h2,n,h3⟩:=pl.isList;dsimp only at p1;unfold mB at p1;split at p1
 case isFalse=>exact p1.elim
 rename_i Gz;obtain⟨qs,eq,p2⟩:=O7 p1;obtain⟨hl,hk⟩:=BF I eq Gf rv;have hlv:l.length=Fj.length:=by rw[Gf.length,rv.length]
 obtain⟨ws,w1,w2,w3⟩:=fM (qs:=qs) Gf rv;refine HX h1 h2 h3 hl (by lia) hk λh1 h' tk e k1 k2 he=>?_;have I1:Inv X pins σ H {s with heap:=h1,toks:=tk}:=I.kept k1;have hf:=I1.hok.fresh (zh _);have Fp:ws.length<=zi:=zP (show ws.length<=64 by lia) (by decide);exact⟨.ref h1.objs.size,upd H h1.objs.size (.lst ws),I1.laid k2 (zh _) ⟨Fp,_,e,w1,he⟩,rfl,Q9 hr w2 p2 _ hf⟩⟩
theorem fR(h:X.calm=true):BD NA "sorted" X Z:=⟨.inl ⟨_,nZ,vF⟩⟩
def CxN(X:Cx):Cx:={X with xe:=λ_ _=>False}
section
variable{X:Cx}{pins:PNS}{σ:St}{H:Hp}{s:zm}
theorem cU(I:Inv X pins σ H s):Inv (CxN X) pins σ H s:=⟨(λk=>⟨k.mod,k.kind,k.glob,k.blt,k.above,k.inj,k.has,k.cab,k.hd,k.frames,k.stk,k.exf,k.bs,k.bsz,k.noex,k.exfs,k.funs,k.frf,k.gd⟩:X.Ok->(CxN X).Ok) I.ok,I.os,I.bare,I.base,I.loc,I.cell,I.free,I.freeC,I.pin,I.hok,I.len⟩
theorem ED(I:Inv (CxN X) pins σ H s):Inv X pins σ H s:=⟨(λk=>⟨k.mod,k.kind,k.glob,k.blt,k.above,k.inj,k.has,k.cab,k.hd,k.frames,k.stk,k.exf,k.bs,k.bsz,k.noex,k.exfs,k.funs,k.frf,k.gd⟩:(CxN X).Ok->X.Ok) I.ok,I.os,I.bare,I.base,I.loc,I.cell,I.free,I.freeC,I.pin,I.hok,I.len⟩
theorem nQ{Z:XC}{body:List Stmt}{h0:ExceptHandler}{hs:List ExceptHandler}{pos:Pos}{f:Fs}(hb:DB (CxN X) Z body f):DS X Z (.Try body (h0::hs) [] [] pos) f:=by
 refine⟨λpins s σ H D I hL=>wpAny_Try_except (jf (hb.h pins s σ H D (cU I) hL) (λfl s1 h1=>?_) λ_ _ z=>z.elim)⟩
 cases fl with
 |next=>
   obtain⟨X1,H',I',k⟩:=h1;exact xy ⟨X1,H',ED I',k⟩
 |brk=>
   obtain⟨X1,H',I',k⟩:=h1;exact⟨X1,H',ED I',k⟩
 |cont=>
   obtain⟨X1,H',I',k⟩:=h1;exact⟨X1,H',ED I',k⟩
 |ret u=>
   obtain⟨v,X1,H',I',k⟩:=h1;exact⟨v,X1,H',ED I',k⟩
end
end DL
namespace W
open PySem PySem.Spec L2 DL
open PyProof.Rows hiding St
def eK:List (Str×D):= [("number",.tup [.tup [.tup [.non,.non]],.tup [.str ("of" :Str),.tup []],.tup [],.non,.non]),("text",.tup [.tup [],.tup [.str ("but" :Str),.tup []],.tup [],.non,.non]),("truth",.tup [.tup [],.tup [.str ("of" :Str),.tup []],.tup [.bl false,.bl true],.non,.non]),("list",.tup [.tup [],.tup [.str ("of" :Str),.tup []],.tup [],.tup [.tup [],.str ("any" :Str)],.non]),("record",.tup [.tup [],.tup [.str ("of" :Str),.tup []],.tup [],.non,.tup [.tup [],.str ("any" :Str)]])]
def D1:Fs:=(seqS (G9 (j6 B2 (j6 L1 (j6 B2 (j6 J6 (j6 J6 (M4 3) (j6 L1 (cE (.int 7919)) (M4 2))) (cE (.int 3))) (cE (.int 2147483647))) (cE (.int 48271))) (cE (.int 2147483647))) (B1 4)) (seqS (G9 (j6 B2 (j6 L1 (M4 4) (M4 4)) (cE (.int 2147483629))) (B1 4)) (seqS (i3 (mtE K1 K7 (M4 1) (x0 (j6 B2 (j6 C7 (M4 4) (cE (.int 16))) (cE (.int 1000))) (o0)))) (seqS (i3 (mtE K1 K7 (M4 1) (x0 (j6 B2 (j6 C7 (M4 4) (cE (.int 16000))) (cE (.int 1000))) (o0)))) (seqS (G9 (j6 B2 (j6 J6 (M4 4) (j6 L1 (cE (.int 40692)) (j6 J6 (M4 2) (cE (.int 7))))) (cE (.int 2147483587))) (B1 4)) (i3 (mtE K1 K7 (M4 1) (x0 (j6 B2 (j6 C7 (j6 B2 (j6 L1 (M4 4) (M4 4)) (cE (.int 2147483647))) (cE (.int 16))) (cE (.int 1000))) (o0)))))))))
def WT1:DSt->M Bool:=(Q1 (n4 (j6 geD (M4 3) (cE (.int 1000)))) (n4 (j6 ltD (M4 5) (cE (.int 60)))))
def WB1:Fs:=(seqS (i3 (mtE K1 K7 (M4 1) (x0 (j6 B2 (M4 3) (cE (.int 1000))) (o0)))) (seqS (G9 (j6 C7 (M4 3) (cE (.int 1000))) (B1 3)) (G9 (j6 J6 (M4 5) (cE (.int 1))) (B1 5))))
def D2:Fs:=(seqS (G9 (cE (.int 0)) (B1 5)) (U5 WT1 WB1))
def DB:Fs:=(seqS (G9 (C1 P9 (x0 (j6 ixD (M4 0) (M4 2)) (o0))) (B1 3)) (ifS (n4 (j6 ltD (M4 3) (j6 T2 (cE (.int 10)) (cE (.int 18))))) D1 D2))
abbrev E1(a:Fe):=x0 a (o0)
abbrev H0(a b:Fe):=x0 a (x0 b (o0))
abbrev mW(a b c d:Fe):=x0 a (x0 b (x0 c (x0 d (o0))))
abbrev FE(a b c d e:Fe):=x0 a (x0 b (x0 c (x0 d (x0 e (o0)))))
abbrev asQ(e:Fe)(g:D->DSt->M DSt)(r:Fs):Fs:=seqS (G9 e g) r
abbrev cBf:Fe:=cE (.bl false)
abbrev cBt:Fe:=cE (.bl true)
abbrev l0:Fe:=cE (.int 0)
abbrev g0:Fe:=cE (.int 1)
abbrev f8:Fe:=cE (.int 10)
abbrev U2:Fe:=cE (.int 2)
abbrev dG:Fe:=cE (.int 3)
abbrev UB:Fe:=cE (.int 4)
abbrev iH:Fe:=cE (.int 5)
abbrev mK:Fe:=cE (.int 6)
abbrev rM:Fe:=cE (.int 8)
abbrev eZ:Fe:=cE (.int 9)
abbrev cIn(i:Int):Fe:=cE (.int i)
abbrev A0:Fe:=cE .non
abbrev cSt(s:Str):Fe:=cE (.str s)
abbrev B0(F:List D->M D)(a:Fe):Fe:=C1 (fnX 1 F) (x0 a (o0))
abbrev D0(F:List D->M D)(a b:Fe):Fe:=C1 (fnX 2 F) (x0 a (x0 b (o0)))
abbrev dB(F:List D->M D)(a b c:Fe):Fe:=C1 (fnX 3 F) (x0 a (x0 b (x0 c (o0))))
abbrev pN(F:List D->M D)(a b c d:Fe):Fe:=C1 (fnX 4 F) (x0 a (x0 b (x0 c (x0 d (o0)))))
abbrev z0(F:List D->M D)(a:Fe):Fe:=C1 F (x0 a (o0))
abbrev L0(F:List D->M D)(a b:Fe):Fe:=C1 F (x0 a (x0 b (o0)))
abbrev gdQ(t:DSt->M Bool)(x:Fe)(r:Fs):Fs:=seqS (ifS t (o8 x) nextS) r
abbrev ixE(a b:Fe):Fe:=j6 ixD a b
abbrev m4:=B1 0
abbrev I0:=B1 1
abbrev S0:=B1 2
abbrev C2:=B1 3
abbrev Q2:=B1 4
abbrev QB:=B1 5
abbrev nL:=B1 6
abbrev aF:=B1 7
abbrev UX:=B1 8
abbrev sIi(i:Int):Option D:=some (D.int i)
abbrev sRf(r:Nat):Option D:=some (D.ref r)
abbrev tBn(o:D->D->M D)(a b:Fe):=n4 (j6 o a b)
abbrev iN(a:Fe):=F3 (x0 a (o0))
abbrev F0(a b:Fe):=F3 (x0 a (x0 b (o0)))
abbrev KZ(a b c:Fe):=F3 (x0 a (x0 b (x0 c (o0))))
abbrev c0:Fe:=M4 0
abbrev d0:Fe:=M4 1
abbrev i0:Fe:=M4 2
abbrev y0:Fe:=M4 3
abbrev C0:Fe:=M4 4
abbrev cH:Fe:=M4 5
abbrev vG:Fe:=M4 6
abbrev CV:Fe:=M4 7
abbrev FG:Fe:=M4 8
def MF:Fs:=seqS (G9 (U9 o0) I0) (seqS (A3 (L7 (E1 (L0 B8 (z0 S8 c0) (cIn 80)))) S0 DB) (o8 (X3 d0 (X4) (O2 (cIn 240)))))
def O8:List D->M D:=m8 6 MF
def VF:Fs:=seqS (ifS (tBn eqD c0 (U9 o0)) (o8 l0) nextS) (o8 (j6 B2 (mtE K1 IC c0 (E1 l0)) d0))
def u0:List D->M D:=m8 2 VF
def NB:Fs:=(G9 (j6 J6 (j6 L1 y0 (cIn 1000)) (D0 u0 c0 (cIn 1000))) C2)
def N1:Fs:=(ifS (tBn ltD d0 iH) (asQ (D0 u0 c0 (cIn 40)) S0 (o8 (j6 L1 (j6 C7 i0 U2) (j6 E6 g0 (j6 L1 U2 (j6 B2 i0 U2)))))) nextS)
def N2:Fs:=(ifS (tBn eqD d0 iH) (o8 (ixE (U9 (mW (j6 T2 f8 (cIn 20)) (unE A2 (j6 T2 f8 (cIn 20))) (j6 E6 (j6 T2 f8 (cIn 20)) g0) (j6 T2 f8 (cIn 18)))) (D0 u0 c0 UB))) nextS)
def N3:Fs:=(o8 (j6 L1 (j6 J6 (j6 L1 y0 (cIn 100)) (D0 u0 c0 (cIn 100))) (j6 E6 (cIn 13) (j6 L1 U2 d0))))
def V6:Fs:=seqS (G9 (D0 u0 c0 rM) I0) (seqS N1 (seqS N2 (asQ l0 C2 (seqS (A3 (L7 (E1 mK)) Q2 NB) N3))))
def Q8:List D->M D:=m8 5 V6
def PT:DSt->M Bool:=(Q1 (tBn neD c0 (U9 o0)) (tBn ltD (z0 S8 d0) (cIn 50)))
def P1:Fs:=(ifS (tBn gtD y0 iH) (G9 (L0 B8 (j6 J6 i0 (D0 u0 c0 UB)) (j6 T2 f8 (cIn 20))) Q2) nextS)
def P2:Fs:=(ifS (tBn gtD y0 eZ) (G9 (L0 aA i0 (B0 Q8 c0)) Q2) nextS)
def P3:Fs:=(seqS (ifS (tBn eqD y0 (cIn 14)) (G9 (unE A2 (j6 T2 f8 (cIn 30))) S0) nextS) (seqS (ifS (tBn eqD y0 (cIn 15)) (G9 (j6 T2 f8 (cIn 30)) Q2) nextS) (i3 (mtE K1 K7 d0 (E1 (F0 i0 C0))))))
def PBd:Fs:=(asQ (B0 Q8 c0) S0 (asQ (D0 u0 c0 (cIn 16)) C2 (asQ i0 Q2 (seqS P1 (seqS P2 P3)))))
def Z1:Fs:=seqS (G9 (U9 o0) I0) (seqS (U5 PT PBd) (o8 d0))
def T9:List D->M D:=m8 5 Z1
def vN:Fs:=seqS (ifS (tBn T0 c0 A0) (o8 (U9 o0)) nextS) (seqS stuckS stuckS)
def TF:List D->M D:=m8 2 vN
def IH:Fs:=seqS (ifS (tBn T0 c0 A0) (o8 (U9 o0)) nextS) stuckS
def tF:List D->M D:=m8 1 IH
def II:Fs:=o8 (ifE (tBn eqD (z0 S8 c0) U2) (U9 (E1 (cSt "truth"))) (N6 (itW c0) [none] m4 (K2) (cD)))
def sH:List D->M D:=m8 1 II
def AJ:Fs:=seqS (ifS (truthE (L0 J2 c0 (cE (.ty "bool")))) stuckS nextS) (gdQ (truthE (L0 J2 c0 (cE (.ty "int")))) (z0 F4 c0) (seqS (ifS (truthE (L0 J2 c0 (cE (.ty "str")))) stuckS nextS) (seqS (ifS (tBn eqD (ixE c0 l0) (cSt "list")) stuckS nextS) stuckS)))
def Z8:List D->M D:=m8 1 AJ
def vJ:Fs:=o8 (ifE (tBn T0 c0 A0) (cSt "") (B0 Z8 c0))
def O3:List D->M D:=m8 1 vJ
def rK:Fs:=o8 (ifE (tBn eqD c0 d0) (B0 O3 c0) (j6 J6 (j6 J6 (B0 O3 c0) (cSt "..")) (B0 O3 d0)))
def T3:List D->M D:=m8 2 rK
def fN:Fs:=o8 (ifE (tBn eqD c0 (iN (F0 A0 A0))) (U9 (E1 (cSt "number"))) (N6 (itW c0) [none,none] (A4 2 (Q4 m4 (Q4 I0 (u4)))) (K2) (D0 T3 c0 d0)))
def T7:List D->M D:=m8 1 fN
def cJ:Fs:=seqS (G9 (N6 (itW (ixE c0 g0)) [none] m4 (K2) (cD)) I0) (gdQ (tBn eqD (ixE c0 l0) (cSt "of")) d0 stuckS)
def ME:List D->M D:=m8 2 cJ
def VJ:Fs:=seqS (ifS (tBn eqD c0 (cSt "any")) (o8 (U9 (E1 (cSt "any")))) nextS) (gdQ (tBn eqD c0 (cE (.tup [.tup [],.tup [.str ("of" :Str),.tup []],.tup [],.non,.non]))) (U9 (E1 (cSt "nothing"))) (o8 (j6 J6 (j6 J6 (j6 J6 (j6 J6 (B0 T7 (ixE c0 l0)) (B0 ME (ixE c0 g0))) (B0 sH (ixE c0 U2))) (B0 tF (ixE c0 dG))) (B0 TF (ixE c0 UB)))))
def NE:List D->M D:=m8 1 VJ
def vM:Fs:=o8 (mtE isStrM d6 (cSt " or ") (E1 (B0 NE c0)))
def rB:List D->M D:=m8 1 vM
def QI:Fs:=seqS (ifS (tBn eqD (z0 P9 c0) (j6 T2 f8 (cIn 30))) (o8 A0) nextS) (o8 c0)
def R7:List D->M D:=m8 1 QI
def LB:Fs:=(ifS (Q1 (tBn neD d0 (U9 o0)) (tBn leD i0 (j6 J6 (ixE (ixE d0 (unE A2 g0)) g0) g0))) (G9 (F0 (ixE (ixE d0 (unE A2 g0)) l0) (L0 aA (ixE (ixE d0 (unE A2 g0)) g0) y0)) (uA d0 (unE A2 g0))) (i3 (mtE K1 K7 d0 (E1 (F0 i0 y0)))))
def LE:Fe:=(F0 (B0 R7 c0) (B0 R7 d0))
def V7:Fs:=seqS (G9 (U9 o0) I0) (seqS (A3 (itW (z0 NA c0)) (A4 2 (Q4 S0 (Q4 C2 (u4)))) LB) (o8 (z0 S3 (N6 (itW d0) [none,none] (A4 2 (Q4 m4 (Q4 I0 (u4)))) (K2) LE))))
def V8:List D->M D:=m8 4 V7
def V9:Fs:=seqS (ifS (Q1 (tBn T0 c0 A0) (tBn T0 d0 A0)) (o8 (cSt "number")) nextS) (gdQ (tBn T0 c0 A0) (j6 J6 (cSt "..") (z0 F4 d0)) (gdQ (tBn T0 d0 A0) (j6 J6 (z0 F4 c0) (cSt "..")) (gdQ (tBn eqD c0 d0) (z0 F4 c0) (o8 (j6 J6 (j6 J6 (z0 F4 c0) (cSt "..")) (z0 F4 d0))))))
def u9:List D->M D:=m8 2 V9
def kJ:Fs:=o8 (N6 (itW c0) [none,none] (A4 2 (Q4 m4 (Q4 I0 (u4)))) (K2) (D0 u9 (B0 R7 c0) (B0 R7 d0)))
def R6:List D->M D:=m8 1 kJ
def SF(R:List D->M D):Fs:=(ifS (B5 (truthE (D0 R i0 y0))) (o8 cBf) nextS)
def W5(R:List D->M D):Fs:=seqS (ifS (tBn T0 d0 A0) (o8 (j6 T0 c0 A0)) nextS) (gdQ (truthE (L0 J2 d0 (cE (.ty "bool")))) (S2 (L0 J2 c0 (cE (.ty "bool"))) (j6 eqD c0 d0)) (gdQ (truthE (L0 J2 d0 (cE (.ty "int")))) (S2 (L0 J2 c0 (cE (.ty "int"))) (S2 (nF (L0 J2 c0 (cE (.ty "bool")))) (j6 eqD c0 d0))) (gdQ (truthE (L0 J2 d0 (cE (.ty "str")))) (S2 (L0 J2 c0 (cE (.ty "str"))) (j6 eqD c0 d0)) (gdQ (orT (B5 (truthE (L0 J2 c0 (cE (.ty "tuple"))))) (tBn neD (z0 S8 c0) (z0 S8 d0))) cBf (seqS (A3 (F5 (H0 c0 d0)) (A4 2 (Q4 S0 (Q4 C2 (u4)))) (SF R)) (o8 cBt))))))
def O4:Nat->List D->M D
 |0=>λ_=>M.stuck
 |n+1=>m8 4 (W5 (O4 n))
def W4:List D->M D:=O4 6
def MD:Fs:=seqS (ifS (truthE (mtE isStrM startsD c0 (H0 (cSt "any") d0))) (o8 (F0 (cSt "any") (j6 J6 d0 (z0 S8 (cSt "any"))))) nextS) (gdQ (truthE (mtE isStrM startsD c0 (H0 (cSt "nothing") d0))) (F0 (cE (.tup [.tup [],.tup [.str ("of" :Str),.tup []],.tup [],.non,.non])) (j6 J6 d0 (z0 S8 (cSt "nothing")))) (o8 A0))
def WD:List D->M D:=m8 2 MD
def RT:DSt->M Bool:=(Q1 (tBn ltD C0 (z0 S8 c0)) (n4 (WB leD leD i0 (ixE c0 C0) y0)))
def RB:Fs:=(G9 (j6 J6 C0 g0) Q2)
def sE:Fs:=seqS (G9 d0 Q2) (seqS (U5 RT RB) (o8 C0))
def UA:List D->M D:=m8 5 sE
def LG:Fs:=seqS (G9 (ifE (truthE (mtE isStrM startsD c0 (H0 (cSt "-") d0))) (j6 J6 d0 g0) d0) S0) (asQ (pN UA c0 i0 (cSt "0") (cSt "9")) C2 (seqS (ifS (orT (tBn eqD y0 i0) (tBn gtD (j6 E6 y0 i0) (cIn 40))) stuckS nextS) (seqS (ifS (Q1 (truthE (mtE isStrM startsD c0 (H0 (cSt "0") i0))) (tBn gtD (j6 E6 y0 d0) g0)) stuckS nextS) (o8 (F0 (z0 C9 (X3 c0 (O2 d0) (O2 y0))) y0)))))
def S6:List D->M D:=m8 4 LG
def pH:Fs:=seqS (ifS (tBn gtD i0 (cIn 20)) stuckS nextS) (seqS (ifS (truthE (mtE isStrM startsD c0 (H0 (cSt "[") d0))) stuckS nextS) (seqS (ifS (truthE (mtE isStrM startsD c0 (H0 (cSt "{") d0))) stuckS nextS) (seqS (ifS (truthE (mtE isStrM startsD c0 (H0 (cE (.str ("\"" :Str))) d0))) stuckS nextS) (seqS (ifS (truthE (mtE isStrM startsD c0 (H0 (cSt "true") d0))) stuckS nextS) (seqS (ifS (truthE (mtE isStrM startsD c0 (H0 (cSt "false") d0))) stuckS nextS) (o8 (D0 S6 c0 d0)))))))
def KD:List D->M D:=m8 3 pH
def pJ:Fs:=o8 (S2 (j6 i6 c0 A0) (S2 (j6 i6 d0 A0) (j6 gtD c0 d0)))
def DC:List D->M D:=m8 2 pJ
def kN:Fs:=o8 (ifE (orT (tBn T0 c0 A0) (tBn inX (cE (.tup [.tup [],.tup [.str ("of" :Str),.tup []],.tup [],.non,.non])) (ixE c0 l0))) A0 c0)
def X5:List D->M D:=m8 1 kN
def eI:Fs:=seqS (ifS (orT (tBn T0 c0 A0) (truthE (z0 qH (N6 (itW (ixE c0 l0)) [none,none,none] (A4 3 (Q4 m4 (Q4 I0 (Q4 S0 (u4))))) (K2) (cD))))) (o8 A0) nextS) stuckS
def U0:List D->M D:=m8 1 eI
def RH:Fs:=seqS (G9 (F3 (FE c0 d0 i0 (B0 X5 y0) (B0 U0 C0))) QB) (o8 (ifE (tBn eqD cH (cE (.tup [.tup [.tup [.non,.non]],.tup [.str ("but" :Str),.tup []],.tup [.bl false,.bl true],.tup [.tup [],.str ("any" :Str)],.tup [.tup [],.str ("any" :Str)]]))) (cSt "any") cH))
def VA:List D->M D:=m8 6 RH
def wK:Fs:=o8 (ifE (truthE (D0 DC c0 d0)) (cE (.tup [.tup [],.tup [.str ("of" :Str),.tup []],.tup [],.non,.non])) (C1 (fnX 5 VA) (FE (iN (F0 c0 d0)) (F0 (cSt "of") (F3 o0)) (F3 o0) A0 A0)))
def S5:List D->M D:=m8 2 wK
def GM:Fs:=o8 (GC (mtE isStrM startsD c0 (H0 (cSt "-") d0)) (j6 gtD (pN UA c0 d0 (cSt "0") (cSt "9")) d0))
def M6:List D->M D:=m8 2 GM
def Z3:Fs:=seqS (G9 (j6 J6 d0 (z0 S8 (cSt ".."))) C2) (gdQ (Q1 (tBn i6 i0 A0) (B5 (truthE (D0 M6 c0 y0)))) (F0 (D0 S5 i0 A0) y0) (asQ (D0 S6 c0 y0) Q2 (seqS (ifS (Q1 (tBn i6 i0 A0) (tBn gtD i0 (ixE C0 l0))) stuckS nextS) (o8 (F0 (D0 S5 i0 (ixE C0 l0)) (ixE C0 g0))))))
def P0:List D->M D:=m8 5 Z3
def GH:Fs:=o8 (S2 (L0 J2 c0 (cE (.ty "int"))) (nF (L0 J2 c0 (cE (.ty "bool")))))
def aE:List D->M D:=m8 1 GH
def oM:Fs:=seqS (ifS (truthE (L0 J2 c0 (cE (.ty "bool")))) stuckS nextS) (gdQ (truthE (L0 J2 c0 (cE (.ty "int")))) (D0 S5 c0 c0) (seqS (ifS (truthE (L0 J2 c0 (cE (.ty "str")))) stuckS nextS) (seqS (ifS (tBn eqD (ixE c0 l0) (cSt "list")) stuckS nextS) stuckS)))
def dD:List D->M D:=m8 1 oM
def CI:Fs:=o8 (j6 (ixC "KIND_SETS" eK) (cE (.fn "KIND_SETS")) c0)
def RE:List D->M D:=m8 1 CI
def WK:Fs:=(ifS (truthE (mtE isStrM startsD c0 (H0 y0 d0))) (o8 (F0 (B0 RE y0) (j6 J6 d0 (z0 S8 y0)))) nextS)
def WZ:Fs:=(gdQ (truthE (mtE isStrM startsD c0 (H0 (cSt "..") d0))) (dB P0 c0 d0 A0) (asQ (dB KD c0 d0 g0) Q2 (gdQ (Q1 (truthE (B0 aE (ixE C0 l0))) (truthE (mtE isStrM startsD c0 (H0 (cSt "..") (ixE C0 g0))))) (dB P0 c0 (ixE C0 g0) (ixE C0 l0)) (o8 (F0 (B0 dD (ixE C0 l0)) (ixE C0 g0))))))
def WL:Fs:=(A3 (itW (KZ (cSt "number") (cSt "text") (cSt "truth"))) C2 WK)
def wC:Fs:=seqS (ifS (truthE (mtE isStrM startsD c0 (H0 (cSt "[") d0))) stuckS nextS) (seqS (ifS (truthE (mtE isStrM startsD c0 (H0 (cSt "{") d0))) stuckS nextS) (seqS (ifS (truthE (mtE isStrM startsD c0 (H0 (cSt "text but") d0))) stuckS nextS) (seqS WL WZ)))
def FD:List D->M D:=m8 5 wC
def VBd:Fs:=(asQ (dB FD c0 d0 i0) Q2 (seqS (i3 (mtE K1 K7 y0 (E1 (ixE C0 l0)))) (gdQ (B5 (truthE (mtE isStrM startsD c0 (H0 (cSt " or ") (ixE C0 g0))))) (F0 y0 (ixE C0 g0)) (G9 (j6 J6 (ixE C0 g0) (z0 S8 (cSt " or "))) I0))))
def vE:Fs:=seqS (G9 (U9 o0) C2) (U5 (truthE cBt) VBd)
def QC:List D->M D:=m8 5 vE
def AK:Fs:=o8 (ifE (tBn T0 (ixE c0 l0) A0) (F0 l0 l0) (F0 g0 (ixE c0 l0)))
def v5:List D->M D:=m8 1 AK
def kL:Fs:=o8 (S2 (j6 i6 (ixE c0 g0) A0) (S2 (j6 i6 (ixE d0 l0) A0) (j6 ltD (j6 J6 (ixE c0 g0) g0) (ixE d0 l0))))
def X6:List D->M D:=m8 2 kL
def PH:Fs:=o8 (ifE (orT (tBn T0 c0 A0) (tBn T0 d0 A0)) A0 (L0 aA c0 d0))
def U3:List D->M D:=m8 2 PH
def JB:Fs:=(ifS (Q1 (truthE d0) (B5 (truthE (D0 X6 (ixE d0 (unE A2 g0)) i0)))) (G9 (F0 (ixE (ixE d0 (unE A2 g0)) l0) (D0 U3 (ixE (ixE d0 (unE A2 g0)) g0) (ixE i0 g0))) (uA d0 (unE A2 g0))) (i3 (mtE K1 K7 d0 (E1 (F0 (ixE i0 l0) (ixE i0 g0))))))
def X7:Fs:=seqS (G9 (U9 o0) I0) (seqS (A3 (itW (WA v5 c0)) S0 JB) (o8 (z0 S3 d0)))
def Z6:List D->M D:=m8 3 X7
def IM:Fs:=o8 (F0 (ifE (tBn eqD (ixE c0 l0) (cSt "of")) (cSt "but") (cSt "of")) (ixE c0 g0))
def pB:List D->M D:=m8 1 IM
def CK:Fs:=o8 (z0 GA (N6 (itW c0) [none] m4 (K2) (F0 c0 cBt)))
def BG:List D->M D:=m8 1 CK
def HL:Fs:=o8 (F0 (z0 S8 c0) c0)
def T5:List D->M D:=m8 1 HL
def BI:Fs:=o8 (z0 S3 (LF T5 (B0 BG c0)))
def T4:List D->M D:=m8 1 BI
def KL:Fs:=o8 (B0 T4 (j6 J6 c0 d0))
def aH:List D->M D:=m8 2 KL
def CJ:Fs:=seqS (ifS (Q1 (tBn eqD (ixE c0 l0) (cSt "of")) (tBn eqD (ixE d0 l0) (cSt "of"))) stuckS nextS) (seqS (ifS (tBn eqD (ixE c0 l0) (cSt "of")) stuckS nextS) (seqS (ifS (tBn eqD (ixE d0 l0) (cSt "of")) stuckS nextS) (o8 (F0 (cSt "but") (D0 aH (ixE c0 g0) (ixE d0 g0))))))
def gH:List D->M D:=m8 2 CJ
def HJ:Fs:=o8 (B0 pB (D0 gH (B0 pB c0) (B0 pB d0)))
def Z5:List D->M D:=m8 2 HJ
def CM:Fs:=seqS (ifS (orT (tBn T0 c0 A0) (tBn T0 d0 A0)) (o8 (ifE (tBn T0 c0 A0) d0 c0)) nextS) (seqS stuckS (seqS stuckS (seqS stuckS stuckS)))
def gF:List D->M D:=m8 5 CM
def rN:Fs:=seqS (ifS (orT (tBn T0 c0 A0) (tBn T0 d0 A0)) (o8 (ifE (tBn T0 c0 A0) d0 c0)) nextS) (seqS stuckS stuckS)
def EF:List D->M D:=m8 3 rN
def lF:Fs:=seqS (ifS (orT (tBn eqD c0 (cSt "any")) (tBn eqD d0 (cSt "any"))) (o8 (cSt "any")) nextS) (o8 (C1 (fnX 5 VA) (FE (B0 Z6 (z0 c8 (j6 J6 (ixE c0 l0) (ixE d0 l0)))) (D0 Z5 (ixE c0 g0) (ixE d0 g0)) (z0 S3 (N6 (itW (F0 cBf cBt)) [none,some 0,some 1] m4 (orT (tBn inD c0 (ixE d0 U2)) (tBn inD c0 (ixE i0 U2))) c0)) (D0 gF (ixE c0 dG) (ixE d0 dG)) (D0 EF (ixE c0 UB) (ixE d0 UB)))))
def WC:List D->M D:=m8 2 lF
def JAT:DSt->M Bool:=(tBn gtD (z0 S8 d0) g0)
def JAE:Fe:=(D0 WC c0 d0)
def GD:Fs:=seqS (G9 (z0 c8 c0) I0) (seqS (U5 JAT (asQ (N6 (F5 (H0 (E9 d0 (O2 l0) (X4) (O2 U2)) (E9 d0 (O2 g0) (X4) (O2 U2)))) [none,none] (A4 2 (Q4 m4 (Q4 I0 (u4)))) (K2) JAE) S0 (G9 (j6 J6 i0 (X3 d0 (O2 (j6 L1 U2 (z0 S8 i0))) (X4))) I0))) (o8 (ixE d0 l0)))
def LC:List D->M D:=m8 3 GD
def wE:Fs:=seqS (G9 (D0 WD c0 d0) S0) (gdQ (tBn i6 i0 A0) i0 (asQ (dB QC c0 d0 g0) C2 (o8 (F0 (B0 LC (ixE y0 l0)) (ixE y0 g0)))))
def UF:List D->M D:=m8 4 wE
def SD:Fs:=seqS (G9 (D0 UF c0 l0) I0) (seqS (ifS (tBn neD (ixE d0 g0) (z0 S8 c0)) stuckS nextS) (o8 (ixE d0 l0)))
def N8:List D->M D:=m8 3 SD
def rC:Fs:=(ifS (orT (B5 (truthE (L0 J2 vG (cE (.ty "str"))))) (tBn neD vG cH)) (o8 cBf) nextS)
def VD:Fs:=(ifS (tBn neD y0 (U9 o0)) (asQ (B0 R6 y0) UX (asQ (j6 B2 i0 (z0 S8 FG)) S0 (G9 (mtE isStrM d6 (cSt " or ") (E1 (j6 J6 (X3 FG (O2 i0) (X4)) (X3 FG (X4) (O2 (j6 J6 i0 g0)))))) aF))) nextS)
def VC:Fs:=(o8 (S2 (D0 W4 (B0 N8 CV) C0) (D0 W4 (B0 N8 vG) C0)))
def uF:Fs:=(G9 (F3 (FE (B0 V8 y0) (F0 (cSt "of") (F3 o0)) (F3 o0) A0 A0)) Q2)
def oD:Fs:=seqS (G9 (B0 O8 c0) I0) (asQ (D0 u0 d0 (cIn 50)) S0 (asQ (B0 T9 d0) C2 (seqS uF (asQ (cSt "nothing") QB (seqS (ifS (tBn neD y0 (U9 o0)) (G9 (mtE isStrM d6 (cSt " or ") (E1 (N6 (itW (ixE C0 l0)) [none,none] (A4 2 (Q4 m4 (Q4 I0 (u4)))) (K2) (D0 u9 c0 d0)))) QB) nextS) (asQ (B0 rB C0) nL (seqS rC (asQ (cSt "nothing") aF (seqS VD VC)))))))))
def bH:List D->M D:=m8 9 oD
local macro_rules | `(tactic| walk_at "cl") => `(tactic| (refine ⟨?k, ?kk, ?a, ?b, ?c⟩; (case a => first | (dsimp only [Cx.nox, t5]; with_reducible assumption) | assumption); (case b => assumption); (case c => first | decide | omega)))
local macro_rules | `(tactic| walk_at "ck") => `(tactic| (refine ⟨?k, ?kk, ?kkk, ?a, ?b, ?c, ?d⟩; (case a => assumption); (case b => rfl); (case c => rfl); (case d => decide +kernel)))
local macro_rules | `(tactic| walk_at "od") => `(tactic| first
 |with_reducible exact lU
 |with_reducible exact QR
 |with_reducible exact BQ
 |with_reducible exact vP
 |with_reducible exact BY
 |with_reducible exact Dj
 |with_reducible exact OR
 |with_reducible exact OQ
 |with_reducible exact BO
 |with_reducible exact bO
 |with_reducible exact HS
 |((with_reducible refine bU ?_);exact K8.units (by assumption))
 |((with_reducible refine dP ?_);exact K8.units (by assumption))
 |((with_reducible refine EN ?_);exact K8.units (by assumption))
 |((with_reducible refine AV ?_);exact K8.units (by assumption))
 |((with_reducible refine aU ?_);exact K8.units (by assumption)))
local macro_rules | `(tactic| walk_at "bd") => `(tactic| first
 |with_reducible exact bS
 |with_reducible exact HN
 |with_reducible exact KS
 |with_reducible exact QQ
 |with_reducible exact kj
 |with_reducible exact RW
 |with_reducible exact Cw
 |with_reducible exact OS
 |with_reducible exact FY
 |with_reducible exact nV
 |with_reducible exact fR
 |with_reducible exact Bk)
local macro_rules | `(tactic| walk_at "da") => `(tactic| first
 |with_reducible exact OF
 |((with_reducible refine VR ?_ ?_ ?_);walk_at "de";walk_at "da";rfl))
local macro_rules | `(tactic| walk_at "do") => `(tactic| first
 |with_reducible exact sQ
 |((with_reducible refine wg ?_);walk_at "de"))
local macro_rules | `(tactic| walk_at "pk") => `(tactic| first | exact OU | ((apply VZ); walk_at "pk"; walk_at "pk"; (unfold y4; decide); rfl) | ((apply rR); walk_at "pk"; walk_at "pk"; rfl))
local macro_rules | `(tactic| walk_at "de") => `(tactic| first
 |with_reducible exact Dw
 |with_reducible exact NO
 |with_reducible exact LX
 |with_reducible exact uR
 |((with_reducible refine rO _ ?_ ?_ ?_ ?_);rfl;(first|exact Or.inl rfl|exact Or.inr (Or.inl rfl)|exact Or.inr (Or.inr rfl));decide;decide)
 |((with_reducible refine vz ?_ ?_ ?_ ?_ ?_ ?_);assumption;decide;decide +kernel;rfl;decide;decide)
 |((with_reducible refine CU ?_ ?_ ?_);assumption;rfl;decide)
 |((with_reducible refine GX ?_ ?_ ?_);walk_at "od";walk_at "de";walk_at "de")
 |((with_reducible refine HV FZ ?_);walk_at "de")
 |((with_reducible refine Cc ?_);walk_at "de")
 |((with_reducible refine oP ?_ ?_ ?_ ?_);walk_at "od";walk_at "de";walk_at "de";with_unfolding_all rfl)
 |((with_reducible refine LU ?_);walk_at "de")
 |((with_reducible refine KW ?_ ?_);walk_at "de";walk_at "de")
 |((with_reducible refine vj ?_ ?_);walk_at "de";walk_at "de")
 |((with_reducible refine nT ?_ ?_ ?_);walk_at "dt";walk_at "de";walk_at "de")
 |((with_reducible refine pU ?_);walk_at "da")
 |((with_reducible refine wO ?_);walk_at "da")
 |((with_reducible refine LN ?_ ?_ ?_);walk_at "de";walk_at "do";walk_at "do")
 |((with_reducible refine gR ?_ ?_ ?_ ?_);walk_at "de";walk_at "do";walk_at "do";walk_at "do")
 |with_reducible exact UP
 |((with_reducible refine vO ?_ ?_ ?_ ?_ ?_);assumption;rfl;decide;walk_at "de";exact λ_ _=>rfl)
 |((with_reducible refine aW ?_ ?_ ?_);walk_at "de";walk_at "de";exact λ_ _=>rfl)
 |((with_reducible refine RN ?_ ?_ ?_ ?_ ?_);walk_at "cl";rfl;walk_at "da";decide;rfl)
 |((with_reducible refine kO ?_ ?_ ?_ ?_ ?_ ?_ ?_ ?_);rfl;walk_at "cl";assumption;rfl;rfl;walk_at "de";rfl;decide)
 |((with_reducible refine wT ?_ ?_ ?_ ?_ ?_ ?_ ?_ ?_);rfl;walk_at "cl";assumption;rfl;rfl;walk_at "de";rfl;decide)
 |((with_reducible refine uY ?_ ?_ ?_ ?_ ?_ ?_ ?_ ?_ ?_);rfl;walk_at "bd";assumption;decide +kernel;rfl;walk_at "da";decide;decide;rfl)
 |((with_reducible refine dL Xw PySem.F.type_list_append qO ?_ ?_ ?_ ?_ ?_ ?_ ?_);walk_at "de";walk_at "da";rfl;rfl;rfl;exact t4 rfl;rfl)
 |((with_reducible refine dL Jt PySem.F.type_list_pop oY ?_ ?_ ?_ ?_ ?_ ?_ ?_);walk_at "de";walk_at "da";rfl;rfl;rfl;exact t4 rfl;rfl)
 |((with_reducible refine cL PySem.F.slot_str_join PySem.F.type_str_join NU ?_ ?_ ?_ ?_ ?_ ?_ ?_);walk_at "de";walk_at "da";rfl;rfl;rfl;exact t4 rfl;rfl)
 |((with_reducible refine cL Xd PySem.F.type_str_startswith gQ ?_ ?_ ?_ ?_ ?_ ?_ ?_);walk_at "de";walk_at "da";rfl;rfl;rfl;exact t4 rfl;rfl)
 |((with_reducible refine rX ?_ ?_ ?_ ?_ ?_ ?_ ?_ ?_);rfl;walk_at "di";walk_at "ck";decide +kernel;(intro _ _ _ _ _;walk_at "dg");(intro _ _ _ _;walk_at "dts");(intro _ _ _ _;walk_at "de");exact λ_=>rfl))
local macro_rules | `(tactic| walk_at "dt") => `(tactic| first
 |((with_reducible refine DW.dt ?_);walk_at "dw")
 |((with_reducible refine DQ ?_);walk_at "dt")
 |((with_reducible refine Bc ?_ ?_ ?_ ?_);walk_at "od";walk_at "de";walk_at "de";with_unfolding_all rfl)
 |((with_reducible refine DP ?_ ?_ ?_ ?_ ?_ ?_);walk_at "od";walk_at "od";walk_at "de";walk_at "de";walk_at "de";with_unfolding_all rfl)
 |((with_reducible refine aO ?_ ?_);walk_at "de";exact λ_=>rfl))
local macro_rules | `(tactic| walk_at "dw") => `(tactic| first
 |((with_reducible refine Fh ?_);walk_at "dt")
 |((with_reducible refine IN ?_);walk_at "dt")
 |((with_reducible refine DR ?_ ?_);walk_at "dt";walk_at "dw")
 |((with_reducible refine uP ?_ ?_);walk_at "dt";walk_at "dw"))
local macro_rules | `(tactic| walk_at "dts") => `(tactic| first
 |with_reducible exact Bx
 |((with_reducible refine cT ?_);walk_at "dt"))
local macro_rules | `(tactic| walk_at "di") => `(tactic| first
 |((with_reducible refine qg ?_ ?_ ?_ ?_);assumption;rfl;walk_at "da";rfl)
 |((with_reducible refine pP ?_ ?_ ?_ ?_ ?_);assumption;rfl;walk_at "da";rfl;rfl)
 |((with_reducible refine SY ?_);walk_at "de"))
local macro_rules | `(tactic| walk_at "dg") => `(tactic| first
 |((with_reducible refine bW ?_ ?_ ?_ ?_);exact⟨_,_,_, ‹R3 _ _ _›,rfl⟩;rfl;(first|exact Or.inl rfl|exact Or.inr rfl);(first|exact .inl rfl|exact .inr rfl))
 |((with_reducible refine fI ?_ ?_ ?_ ?_);assumption;rfl;(first|exact Or.inl rfl|exact Or.inr rfl);(first|exact .inl rfl|exact .inr rfl))
 |((with_reducible refine oU ?_ ?_ ?_ ?_);rfl;walk_at "dgs";rfl;rfl)
 |((with_reducible refine qv ?_ ?_ ?_ ?_);exact K8.units (by assumption);walk_at "de";walk_at "de";exact λ_=>rfl))
local macro_rules | `(tactic| walk_at "dgs") => `(tactic| first
 |with_reducible exact fX
 |((with_reducible refine RS ?_ ?_ ?_);walk_at "dg";walk_at "dgs";rfl))
local macro_rules | `(tactic| walk_at "ds") => `(tactic| first
 |((with_reducible refine nQ ?_);walk_at "db")
 |((with_reducible refine qS ?_);walk_at "de")
 |((with_reducible refine TQ ?_ ?_ ?_);walk_at "dt";walk_at "db";walk_at "db")
 |((with_reducible refine Cb ?_ ?_ ?_ ?_ ?_ ?_ ?_ ?_ ?_ ?_);rfl;walk_at "di";walk_at "ck";decide +kernel;(intro _ _ _ _ _;walk_at "dg");(intro _ _ _ _;walk_at "dts");(intro _ _ _ _;walk_at "de");(exact λ_=>rfl);walk_at "dg";rfl)
 |((with_reducible refine cS ?_ ?_ ?_ ?_ ?_);walk_at "de";walk_at "dg";rfl;rfl;rfl)
 |((with_reducible refine PV ?_ ?_);walk_at "de";rfl)
 |((with_reducible refine ON ?_ ?_ ?_ ?_ ?_ ?_);exact XL;rfl;walk_at "di";walk_at "dg";walk_at "db";exact λ_=>rfl)
 |((with_reducible refine lV ?_ ?_ ?_);exact XL;walk_at "dt";walk_at "db")
 |with_reducible exact wX)
local macro_rules | `(tactic| walk_at "db") => `(tactic| first
 |with_reducible exact qP
 |((with_reducible refine FI ?_);walk_at "ds")
 |((with_reducible refine iL ?_ ?_);walk_at "ds";walk_at "db"))
local macro_rules | `(tactic| walk_at "db0") => `(tactic| first
 |(refine FI ?_;walk_at "ds")
 |(refine iL ?_ ?_;walk_at "ds";walk_at "db"))
set_option maxHeartbeats 2000000
local macro_rules | `(tactic| walk_at "sc") => `(tactic| exact ⟨rfl, rfl, rfl, by decide +kernel, rfl, by decide +kernel, by decide +kernel⟩)
local macro_rules | `(tactic| walk_at "ba") => `(tactic| (intro _ _ _ _ _ _ us h; (repeat (have q := fW h; clear h; obtain ⟨_, _, e, h⟩ := q; subst e)); cases List.eq_nil_of_length_eq_zero h; rfl))
abbrev fK:D:=.str ("any" :Str)
abbrev LK:D:=.tup [.tup [],.tup [.str ("of" :Str),.tup []],.tup [],.non,.non]
abbrev PJ:D:=.int 40
abbrev eM:D:=.int 20
abbrev RK:D:=.tup [.tup [.tup [.non,.non]],.tup [.str ("but" :Str),.tup []],.tup [.bl false,.bl true],.tup [.tup [],.str ("any" :Str)],.tup [.tup [],.str ("any" :Str)]]
structure BC(w:zR)(K:ze)(mg:Str->Option zd):Prop where
 b:BLs mg
 c_ANY:D8 K mg "ANY" fK
 c_NOTHING:D8 K mg "NOTHING" LK
 c_MOST_FIGURES:D8 K mg "MOST_FIGURES" PJ
 c_MOST_DEEP:D8 K mg "MOST_DEEP" eM
 c_ALL_PARTS:D8 K mg "ALL_PARTS" RK
 d_KIND_SETS:pF w K mg "KIND_SETS" eK
local macro_rules | `(tactic| walk_at "s1") => `(tactic| (walk_at "sc"; walk_at "ba"; (intro _ _ _ _ _ _ _ _ _; obtain ⟨_, _, _, _, _, _, _⟩ := (‹_› : BC _ _ _); skip)))
def top(i:Nat):Stmt:=PySem.Challenge.pw_allmeet_k40_numbers_in_words.main.body.getD i (.Pass ⟨0,0,0,0⟩)
section
variable{E:Ev}(zx:EvX E)(zb:BC E.w E.K E.mg)
include zx zb
theorem dQ(Y:FH E.K "_law_draws" (top 86)):Ck E O8 1 "_law_draws" 1:=by refine J1 ["script", "draws", "k", "rest", "stir", "many"] ["script"] zx Y ?_ ?_ rfl rfl ?_;walk_at "s1";unfold MF;unfold DB D1 D2 WT1 WB1;walk_at "db0"
variable(k0:Ck E O8 1 "_law_draws" 1)
theorem QY(Y:FH E.K "_law_take" (top 87)):Ck E u0 2 "_law_take" 1:=by refine J1 ["draws", "many"] ["draws", "many"] zx Y ?_ ?_ rfl rfl ?_;walk_at "s1";unfold VF;walk_at "db0"
variable(k1:Ck E u0 2 "_law_take" 1)
include k1 in
theorem gO(Y:FH E.K "_law_number" (top 88)):Ck E Q8 1 "_law_number" 2:=by refine J1 ["draws", "way", "small", "large", "k"] ["draws"] zx Y ?_ ?_ rfl rfl ?_;walk_at "s1";unfold V6;unfold N2 N1 N3 NB;walk_at "db0"
variable(k2:Ck E Q8 1 "_law_number" 2)
include k1 k2 in
theorem wz(Y:FH E.K "_law_pairs" (top 93)):Ck E T9 1 "_law_pairs" 3:=by refine J1 ["draws", "pairs", "low", "way", "high"] ["draws"] zx Y ?_ ?_ rfl rfl ?_;walk_at "s1";unfold Z1;unfold PBd P1 P2 P3 PT;walk_at "db0"
variable(k3:Ck E T9 1 "_law_pairs" 3)
theorem QN(Y:FH E.K "record_words" (top 67)):Ck E TF 1 "record_words" 1:=by refine J1 ["records", "fields"] ["records"] zx Y ?_ ?_ rfl rfl ?_;walk_at "s1";unfold vN;walk_at "db0"
variable(k4:Ck E TF 1 "record_words" 1)
theorem sW(Y:FH E.K "list_words" (top 66)):Ck E tF 1 "list_words" 1:=by refine J1 ["lists"] ["lists"] zx Y ?_ ?_ rfl rfl ?_;walk_at "s1";unfold IH;walk_at "db0"
variable(k5:Ck E tF 1 "list_words" 1)
theorem wv(Y:FH E.K "truth_words" (top 65)):Ck E sH 1 "truth_words" 1:=by refine J1 ["truths"] ["truths"] zx Y ?_ ?_ rfl rfl ?_;walk_at "s1";unfold II;walk_at "db0"
variable(k6:Ck E sH 1 "truth_words" 1)
theorem IT(Y:FH E.K "show_value" (top 47)):Ck E Z8 1 "show_value" 1:=by refine J1 ["value"] ["value"] zx Y ?_ ?_ rfl rfl ?_;walk_at "s1";unfold AJ;walk_at "db0"
variable(k7:Ck E Z8 1 "show_value" 1)
include k7 in
theorem Cd(Y:FH E.K "show_end" (top 63)):Ck E O3 1 "show_end" 2:=by refine J1 ["number"] ["number"] zx Y ?_ ?_ rfl rfl ?_;walk_at "s1";unfold vJ;walk_at "db0"
variable(k8:Ck E O3 1 "show_end" 2)
include k8 in
theorem SV(Y:FH E.K "show_stretch" (top 62)):Ck E T3 2 "show_stretch" 3:=by refine J1 ["low", "high"] ["low", "high"] zx Y ?_ ?_ rfl rfl ?_;walk_at "s1";unfold rK;walk_at "db0"
variable(k9:Ck E T3 2 "show_stretch" 3)
include k9 in
theorem qh(Y:FH E.K "number_words" (top 61)):Ck E T7 1 "number_words" 4:=by refine J1 ["numbers"] ["numbers"] zx Y ?_ ?_ rfl rfl ?_;walk_at "s1";unfold fN;walk_at "db0"
variable(k10:Ck E T7 1 "number_words" 4)
theorem RO(Y:FH E.K "text_words" (top 64)):Ck E ME 1 "text_words" 1:=by refine J1 ["texts", "words"] ["texts"] zx Y ?_ ?_ rfl rfl ?_;walk_at "s1";unfold cJ;walk_at "db0"
variable(k11:Ck E ME 1 "text_words" 1)
include k4 k5 k6 k10 k11 in
theorem MP(Y:FH E.K "words_of" (top 60)):Ck E NE 1 "words_of" 5:=by refine J1 ["some"] ["some"] zx Y ?_ ?_ rfl rfl ?_;walk_at "s1";unfold VJ;walk_at "db0"
variable(k12:Ck E NE 1 "words_of" 5)
include k12 in
theorem CZ(Y:FH E.K "show_set" (top 59)):Ck E rB 1 "show_set" 6:=by refine J1 ["some"] ["some"] zx Y ?_ ?_ rfl rfl ?_;walk_at "s1";unfold vM;walk_at "db0"
variable(k13:Ck E rB 1 "show_set" 6)
theorem Bp(Y:FH E.K "_law_end" (top 89)):Ck E R7 1 "_law_end" 1:=by refine J1 ["number"] ["number"] zx Y ?_ ?_ rfl rfl ?_;walk_at "s1";unfold QI;walk_at "db0"
variable(k14:Ck E R7 1 "_law_end" 1)
include k14 in
theorem oS(Y:FH E.K "_law_joined" (top 90)):Ck E V8 1 "_law_joined" 2:=by refine J1 ["pairs", "found", "low", "high"] ["pairs"] zx Y ?_ ?_ rfl rfl ?_;walk_at "s1";unfold V7;unfold LB LE;walk_at "db0"
variable(k15:Ck E V8 1 "_law_joined" 2)
theorem qQ(Y:FH E.K "_law_stretch_shown" (top 91)):Ck E u9 2 "_law_stretch_shown" 1:=by refine J1 ["low", "high"] ["low", "high"] zx Y ?_ ?_ rfl rfl ?_;walk_at "s1";unfold V9;walk_at "db0"
variable(k16:Ck E u9 2 "_law_stretch_shown" 1)
include k14 k16 in
theorem kh(Y:FH E.K "_law_words_of" (top 94)):Ck E R6 1 "_law_words_of" 2:=by refine J1 ["pairs"] ["pairs"] zx Y ?_ ?_ rfl rfl ?_;walk_at "s1";unfold kJ;walk_at "db0"
variable(k17:Ck E R6 1 "_law_words_of" 2)
theorem Fb{R:List D->M D}{lv kk:Nat}(kR:Ck E R 2 "_law_same" lv)(h1:lv<=kk)(h2:0<=kk)(Y:FH E.K "_law_same" (top 92)):Ck E (m8 4 (W5 R)) 2 "_law_same" (kk+1):=by refine J1 ["found", "due", "one", "other"] ["found", "due"] zx Y ?_ ?_ rfl rfl ?_;walk_at "s1";unfold W5;unfold SF;walk_at "db0"
section
variable(Y:FH E.K "_law_same" (top 92))
include Y
theorem IL:∀n,Ck E (O4 n) 2 "_law_same" (0+n)
 |0=>CY ["found", "due"] zx Y (by walk_at "ba") rfl
 |n+1=>Fb zx zb (IL n) (zh _) (yL _ _) Y
end
theorem wZ(Y:FH E.K "_law_same" (top 92)):Ck E W4 2 "_law_same" 6:=IL zx zb Y 6
variable(k18:Ck E W4 2 "_law_same" 6)
theorem rV(Y:FH E.K "alone_at" (top 72)):Ck E WD 2 "alone_at" 1:=by refine J1 ["text", "at"] ["text", "at"] zx Y ?_ ?_ rfl rfl ?_;walk_at "s1";unfold MD;walk_at "db0"
variable(k19:Ck E WD 2 "alone_at" 1)
theorem bV(Y:FH E.K "run_end" (top 56)):Ck E UA 4 "run_end" 1:=by refine J1 ["text", "at", "first", "last", "end"] ["text", "at", "first", "last"] zx Y ?_ ?_ rfl rfl ?_;walk_at "s1";unfold sE;unfold RT RB;walk_at "db0"
variable(k20:Ck E UA 4 "run_end" 1)
include k20 in
theorem GT(Y:FH E.K "number_at" (top 55)):Ck E S6 2 "number_at" 2:=by refine J1 ["text", "at", "start", "end"] ["text", "at"] zx Y ?_ ?_ rfl rfl ?_;walk_at "s1";unfold LG;walk_at "db0"
variable(k21:Ck E S6 2 "number_at" 2)
include k21 in
theorem FR(Y:FH E.K "value_at" (top 49)):Ck E KD 3 "value_at" 3:=by refine J1 ["text", "at", "depth"] ["text", "at", "depth"] zx Y ?_ ?_ rfl rfl ?_;walk_at "s1";unfold pH;walk_at "db0"
variable(k22:Ck E KD 3 "value_at" 3)
theorem CO(Y:FH E.K "is_empty" (top 10)):Ck E DC 2 "is_empty" 1:=by refine J1 ["low", "high"] ["low", "high"] zx Y ?_ ?_ rfl rfl ?_;walk_at "s1";unfold pJ;walk_at "db0"
variable(k23:Ck E DC 2 "is_empty" 1)
theorem wx(Y:FH E.K "lists_in_form" (top 36)):Ck E X5 1 "lists_in_form" 1:=by refine J1 ["lists"] ["lists"] zx Y ?_ ?_ rfl rfl ?_;walk_at "s1";unfold kN;walk_at "db0"
variable(k24:Ck E X5 1 "lists_in_form" 1)
theorem uZ(Y:FH E.K "records_in_form" (top 37)):Ck E U0 1 "records_in_form" 1:=by refine J1 ["records"] ["records"] zx Y ?_ ?_ rfl rfl ?_;walk_at "s1";unfold eI;walk_at "db0"
variable(k25:Ck E U0 1 "records_in_form" 1)
include k24 k25 in
theorem SS(Y:FH E.K "made" (top 35)):Ck E VA 5 "made" 2:=by refine J1 ["numbers", "texts", "truths", "lists", "records", "parts"] ["numbers", "texts", "truths", "lists", "records"] zx Y ?_ ?_ rfl rfl ?_;walk_at "s1";unfold RH;walk_at "db0"
variable(k26:Ck E VA 5 "made" 2)
include k23 k26 in
theorem OV(Y:FH E.K "stretch" (top 32)):Ck E S5 2 "stretch" 3:=by refine J1 ["low", "high"] ["low", "high"] zx Y ?_ ?_ rfl rfl ?_;walk_at "s1";unfold wK;walk_at "db0"
variable(k27:Ck E S5 2 "stretch" 3)
include k20 in
theorem Bh(Y:FH E.K "begins_number" (top 78)):Ck E M6 2 "begins_number" 2:=by refine J1 ["text", "at"] ["text", "at"] zx Y ?_ ?_ rfl rfl ?_;walk_at "s1";unfold GM;walk_at "db0"
variable(k28:Ck E M6 2 "begins_number" 2)
include k21 k27 k28 in
theorem LW(Y:FH E.K "stretch_at" (top 77)):Ck E P0 3 "stretch_at" 4:=by refine J1 ["text", "at", "low", "start", "found"] ["text", "at", "low"] zx Y ?_ ?_ rfl rfl ?_;walk_at "s1";unfold Z3;walk_at "db0"
variable(k29:Ck E P0 3 "stretch_at" 4)
theorem Bz(Y:FH E.K "is_whole" (top 5)):Ck E aE 1 "is_whole" 1:=by refine J1 ["thing"] ["thing"] zx Y ?_ ?_ rfl rfl ?_;walk_at "s1";unfold GH;walk_at "db0"
variable(k30:Ck E aE 1 "is_whole" 1)
include k27 in
theorem LQ(Y:FH E.K "set_of" (top 30)):Ck E dD 1 "set_of" 4:=by refine J1 ["value"] ["value"] zx Y ?_ ?_ rfl rfl ?_;walk_at "s1";unfold oM;walk_at "db0"
variable(k31:Ck E dD 1 "set_of" 4)
theorem BZ(Y:FH E.K "kind_set" (top 31)):Ck E RE 1 "kind_set" 1:=by refine J1 ["kind"] ["kind"] zx Y ?_ ?_ rfl rfl ?_;walk_at "s1";unfold CI;walk_at "db0"
variable(k32:Ck E RE 1 "kind_set" 1)
include k22 k29 k30 k31 k32 in
theorem wb(Y:FH E.K "word_at" (top 76)):Ck E FD 3 "word_at" 5:=by refine J1 ["text", "at", "depth", "kind", "found"] ["text", "at", "depth"] zx Y ?_ ?_ rfl rfl ?_;walk_at "s1";unfold wC;unfold WZ WL WK;walk_at "db0"
variable(k33:Ck E FD 3 "word_at" 5)
include k33 in
theorem KQ(Y:FH E.K "words_at" (top 75)):Ck E QC 3 "words_at" 6:=by refine J1 ["text", "at", "depth", "words", "found"] ["text", "at", "depth"] zx Y ?_ ?_ rfl rfl ?_;walk_at "s1";unfold vE;unfold VBd;walk_at "db0"
variable(k34:Ck E QC 3 "words_at" 6)
theorem nR(Y:FH E.K "low_order" (top 12)):Ck E v5 1 "low_order" 1:=by refine J1 ["stretch"] ["stretch"] zx Y ?_ ?_ rfl rfl ?_;walk_at "s1";unfold AK;walk_at "db0"
variable(k35:Ck E v5 1 "low_order" 1)
theorem pT(Y:FH E.K "lies_clear" (top 11)):Ck E X6 2 "lies_clear" 1:=by refine J1 ["lower", "upper"] ["lower", "upper"] zx Y ?_ ?_ rfl rfl ?_;walk_at "s1";unfold kL;walk_at "db0"
variable(k36:Ck E X6 2 "lies_clear" 1)
theorem NZ(Y:FH E.K "farther_high" (top 14)):Ck E U3 2 "farther_high" 1:=by refine J1 ["one", "other"] ["one", "other"] zx Y ?_ ?_ rfl rfl ?_;walk_at "s1";unfold PH;walk_at "db0"
variable(k37:Ck E U3 2 "farther_high" 1)
include k35 k36 k37 in
theorem lY(Y:FH E.K "numbers_of" (top 13)):Ck E Z6 1 "numbers_of" 4:=by refine J1 ["pairs", "merged", "pair"] ["pairs"] zx Y ?_ ?_ rfl rfl ?_;walk_at "s1";unfold X7;unfold JB;walk_at "db0"
variable(k38:Ck E Z6 1 "numbers_of" 4)
theorem iS(Y:FH E.K "turned" (top 17)):Ck E pB 1 "turned" 1:=by refine J1 ["texts"] ["texts"] zx Y ?_ ?_ rfl rfl ?_;walk_at "s1";unfold IM;walk_at "db0"
variable(k39:Ck E pB 1 "turned" 1)
theorem rZ(Y:FH E.K "marked" (top 18)):Ck E BG 1 "marked" 1:=by refine J1 ["texts"] ["texts"] zx Y ?_ ?_ rfl rfl ?_;walk_at "s1";unfold CK;walk_at "db0"
variable(k40:Ck E BG 1 "marked" 1)
theorem GP(Y:FH E.K "text_order" (top 8)):Ck E T5 1 "text_order" 1:=by refine J1 ["text"] ["text"] zx Y ?_ ?_ rfl rfl ?_;walk_at "s1";unfold HL;walk_at "db0"
variable(k41:Ck E T5 1 "text_order" 1)
include k40 k41 in
theorem NW(Y:FH E.K "rising_texts" (top 19)):Ck E T4 1 "rising_texts" 4:=by refine J1 ["texts"] ["texts"] zx Y ?_ ?_ rfl rfl ?_;walk_at "s1";unfold BI;walk_at "db0"
variable(k42:Ck E T4 1 "rising_texts" 4)
include k42 in
theorem QP(Y:FH E.K "in_either" (top 22)):Ck E aH 2 "in_either" 5:=by refine J1 ["one", "other"] ["one", "other"] zx Y ?_ ?_ rfl rfl ?_;walk_at "s1";unfold KL;walk_at "db0"
variable(k43:Ck E aH 2 "in_either" 5)
include k43 in
theorem Cv(Y:FH E.K "meet_texts" (top 15)):Ck E gH 2 "meet_texts" 6:=by refine J1 ["one", "other"] ["one", "other"] zx Y ?_ ?_ rfl rfl ?_;walk_at "s1";unfold CJ;walk_at "db0"
variable(k44:Ck E gH 2 "meet_texts" 6)
include k39 k44 in
theorem aX(Y:FH E.K "join_texts" (top 16)):Ck E Z5 2 "join_texts" 7:=by refine J1 ["one", "other"] ["one", "other"] zx Y ?_ ?_ rfl rfl ?_;walk_at "s1";unfold HJ;walk_at "db0"
variable(k45:Ck E Z5 2 "join_texts" 7)
theorem hV(Y:FH E.K "join_lists" (top 40)):Ck E gF 2 "join_lists" 1:=by refine J1 ["one", "other", "shorter", "fronts", "more"] ["one", "other"] zx Y ?_ ?_ rfl rfl ?_;walk_at "s1";unfold CM;walk_at "db0"
variable(k46:Ck E gF 2 "join_lists" 1)
theorem rY(Y:FH E.K "join_records" (top 41)):Ck E EF 2 "join_records" 1:=by refine J1 ["one", "other", "fields"] ["one", "other"] zx Y ?_ ?_ rfl rfl ?_;walk_at "s1";unfold rN;walk_at "db0"
variable(k47:Ck E EF 2 "join_records" 1)
include k26 k38 k45 k46 k47 in
theorem rP(Y:FH E.K "join" (top 39)):Ck E WC 2 "join" 8:=by refine J1 ["one", "other"] ["one", "other"] zx Y ?_ ?_ rfl rfl ?_;walk_at "s1";unfold lF;walk_at "db0"
variable(k48:Ck E WC 2 "join" 8)
include k48 in
theorem HZ(Y:FH E.K "join_all" (top 43)):Ck E LC 1 "join_all" 9:=by refine J1 ["sets", "waiting", "joined"] ["sets"] zx Y ?_ ?_ rfl rfl ?_;walk_at "s1";unfold GD;unfold JAT JAE;walk_at "db0"
variable(k49:Ck E LC 1 "join_all" 9)
include k19 k34 k49 in
theorem lR(Y:FH E.K "whole_at" (top 71)):Ck E UF 2 "whole_at" 10:=by refine J1 ["text", "at", "found", "words"] ["text", "at"] zx Y ?_ ?_ rfl rfl ?_;walk_at "s1";unfold wE;walk_at "db0"
variable(k50:Ck E UF 2 "whole_at" 10)
include k50 in
theorem Bj(Y:FH E.K "read_set" (top 70)):Ck E N8 1 "read_set" 11:=by refine J1 ["text", "found", "fault"] ["text"] zx Y ?_ ?_ rfl rfl ?_;walk_at "s1";unfold SD;walk_at "db0"
variable(k51:Ck E N8 1 "read_set" 11)
end
set_option maxHeartbeats 4000000 in
theorem all_mk{l:PySem.W.OpenLaw}{w:zR}{K:ze}{h:Heap}{mg:Str->Option zd}{fa:Addr}(X:K.In h)(G:h.Ns zZ mg)(hfa:mg "law" =some (.ref fa))(Z0:FHs K top ["_law_draws", "_law_take", "_law_number", "_law_pairs", "record_words", "list_words", "truth_words", "show_value", "show_end", "show_stretch", "number_words", "text_words", "words_of", "show_set", "_law_end", "_law_joined", "_law_stretch_shown", "_law_words_of", "_law_same", "alone_at", "run_end", "number_at", "value_at", "is_empty", "lists_in_form"] [86,87,88,93,67,66,65,47,63,62,61,64,60,59,89,90,91,94,92,72,56,55,49,10,36])(Z25:FHs K top ["records_in_form", "made", "stretch", "begins_number", "stretch_at", "is_whole", "set_of", "kind_set", "word_at", "words_at", "low_order", "lies_clear", "farther_high", "numbers_of", "turned", "marked", "text_order", "rising_texts", "in_either", "meet_texts", "join_texts", "join_lists", "join_records", "join", "join_all"] [37,35,32,78,77,5,30,31,76,75,12,11,14,13,17,18,8,19,22,15,16,40,41,39,43])(Z50:FHs K top ["whole_at", "read_set", "law"] [71,70,95])
 (g_ANY:CC K mg "ANY" fK)
 (g_NOTHING:CC K mg "NOTHING" LK)
 (g_MOST_FIGURES:CC K mg "MOST_FIGURES" PJ)
 (g_MOST_DEEP:CC K mg "MOST_DEEP" eM)
 (g_ALL_PARTS:CC K mg "ALL_PARTS" RK)
 {a_KIND_SETS:Addr} {n_KIND_SETS:Nat} {t_KIND_SETS_k0:Tok} {t_KIND_SETS_k1:Tok} {t_KIND_SETS_k2:Tok} {t_KIND_SETS_k3:Tok} {t_KIND_SETS_k4:Tok} {a_KIND_SETS_0:Addr} {n_KIND_SETS_0:Nat} {sl_KIND_SETS_0:Array (Option zd)} {a_KIND_SETS_0_0:Addr} {n_KIND_SETS_0_0:Nat} {sl_KIND_SETS_0_0:Array (Option zd)} {a_KIND_SETS_0_0_0:Addr} {n_KIND_SETS_0_0_0:Nat} {sl_KIND_SETS_0_0_0:Array (Option zd)} {a_KIND_SETS_0_1:Addr} {n_KIND_SETS_0_1:Nat} {sl_KIND_SETS_0_1:Array (Option zd)} {t_KIND_SETS_0_1_0:Tok} {a_KIND_SETS_0_1_1:Addr} {n_KIND_SETS_0_1_1:Nat} {sl_KIND_SETS_0_1_1:Array (Option zd)} {a_KIND_SETS_0_2:Addr} {n_KIND_SETS_0_2:Nat} {sl_KIND_SETS_0_2:Array (Option zd)} {a_KIND_SETS_1:Addr} {n_KIND_SETS_1:Nat} {sl_KIND_SETS_1:Array (Option zd)} {a_KIND_SETS_1_0:Addr} {n_KIND_SETS_1_0:Nat} {sl_KIND_SETS_1_0:Array (Option zd)} {a_KIND_SETS_1_1:Addr} {n_KIND_SETS_1_1:Nat} {sl_KIND_SETS_1_1:Array (Option zd)} {t_KIND_SETS_1_1_0:Tok} {a_KIND_SETS_1_1_1:Addr} {n_KIND_SETS_1_1_1:Nat} {sl_KIND_SETS_1_1_1:Array (Option zd)} {a_KIND_SETS_1_2:Addr} {n_KIND_SETS_1_2:Nat} {sl_KIND_SETS_1_2:Array (Option zd)} {a_KIND_SETS_2:Addr} {n_KIND_SETS_2:Nat} {sl_KIND_SETS_2:Array (Option zd)} {a_KIND_SETS_2_0:Addr} {n_KIND_SETS_2_0:Nat} {sl_KIND_SETS_2_0:Array (Option zd)} {a_KIND_SETS_2_1:Addr} {n_KIND_SETS_2_1:Nat} {sl_KIND_SETS_2_1:Array (Option zd)} {t_KIND_SETS_2_1_0:Tok} {a_KIND_SETS_2_1_1:Addr} {n_KIND_SETS_2_1_1:Nat} {sl_KIND_SETS_2_1_1:Array (Option zd)} {a_KIND_SETS_2_2:Addr} {n_KIND_SETS_2_2:Nat} {sl_KIND_SETS_2_2:Array (Option zd)} {a_KIND_SETS_3:Addr} {n_KIND_SETS_3:Nat} {sl_KIND_SETS_3:Array (Option zd)} {a_KIND_SETS_3_0:Addr} {n_KIND_SETS_3_0:Nat} {sl_KIND_SETS_3_0:Array (Option zd)} {a_KIND_SETS_3_1:Addr} {n_KIND_SETS_3_1:Nat} {sl_KIND_SETS_3_1:Array (Option zd)} {t_KIND_SETS_3_1_0:Tok} {a_KIND_SETS_3_1_1:Addr} {n_KIND_SETS_3_1_1:Nat} {sl_KIND_SETS_3_1_1:Array (Option zd)} {a_KIND_SETS_3_2:Addr} {n_KIND_SETS_3_2:Nat} {sl_KIND_SETS_3_2:Array (Option zd)} {a_KIND_SETS_3_3:Addr} {n_KIND_SETS_3_3:Nat} {sl_KIND_SETS_3_3:Array (Option zd)} {a_KIND_SETS_3_3_0:Addr} {n_KIND_SETS_3_3_0:Nat} {sl_KIND_SETS_3_3_0:Array (Option zd)} {t_KIND_SETS_3_3_1:Tok} {a_KIND_SETS_4:Addr} {n_KIND_SETS_4:Nat} {sl_KIND_SETS_4:Array (Option zd)} {a_KIND_SETS_4_0:Addr} {n_KIND_SETS_4_0:Nat} {sl_KIND_SETS_4_0:Array (Option zd)} {a_KIND_SETS_4_1:Addr} {n_KIND_SETS_4_1:Nat} {sl_KIND_SETS_4_1:Array (Option zd)} {t_KIND_SETS_4_1_0:Tok} {a_KIND_SETS_4_1_1:Addr} {n_KIND_SETS_4_1_1:Nat} {sl_KIND_SETS_4_1_1:Array (Option zd)} {a_KIND_SETS_4_2:Addr} {n_KIND_SETS_4_2:Nat} {sl_KIND_SETS_4_2:Array (Option zd)} {a_KIND_SETS_4_4:Addr} {n_KIND_SETS_4_4:Nat} {sl_KIND_SETS_4_4:Array (Option zd)} {a_KIND_SETS_4_4_0:Addr} {n_KIND_SETS_4_4_0:Nat} {sl_KIND_SETS_4_4_0:Array (Option zd)} {t_KIND_SETS_4_4_1:Tok}
 (g_KIND_SETS:yQ K zZ "KIND_SETS" =some (some (.ref a_KIND_SETS))) (l_KIND_SETS:K.lookup a_KIND_SETS=some ⟨.type "dict",none,.dict #[{hash:=jw w.params "number",key:=.str "number" t_KIND_SETS_k0,val:=.ref a_KIND_SETS_0},{hash:=jw w.params "text",key:=.str "text" t_KIND_SETS_k1,val:=.ref a_KIND_SETS_1},{hash:=jw w.params "truth",key:=.str "truth" t_KIND_SETS_k2,val:=.ref a_KIND_SETS_2},{hash:=jw w.params "list",key:=.str "list" t_KIND_SETS_k3,val:=.ref a_KIND_SETS_3},{hash:=jw w.params "record",key:=.str "record" t_KIND_SETS_k4,val:=.ref a_KIND_SETS_4}] n_KIND_SETS, #[]⟩) (l_KIND_SETS_0:K.lookup a_KIND_SETS_0=some ⟨.type "tuple",none,.seq #[.ref a_KIND_SETS_0_0,.ref a_KIND_SETS_0_1,.ref a_KIND_SETS_0_2,.none,.none] n_KIND_SETS_0,sl_KIND_SETS_0⟩) (l_KIND_SETS_0_0:K.lookup a_KIND_SETS_0_0=some ⟨.type "tuple",none,.seq #[.ref a_KIND_SETS_0_0_0] n_KIND_SETS_0_0,sl_KIND_SETS_0_0⟩) (l_KIND_SETS_0_0_0:K.lookup a_KIND_SETS_0_0_0=some ⟨.type "tuple",none,.seq #[.none,.none] n_KIND_SETS_0_0_0,sl_KIND_SETS_0_0_0⟩) (l_KIND_SETS_0_1:K.lookup a_KIND_SETS_0_1=some ⟨.type "tuple",none,.seq #[.str "of" t_KIND_SETS_0_1_0,.ref a_KIND_SETS_0_1_1] n_KIND_SETS_0_1,sl_KIND_SETS_0_1⟩) (l_KIND_SETS_0_1_1:K.lookup a_KIND_SETS_0_1_1=some ⟨.type "tuple",none,.seq #[] n_KIND_SETS_0_1_1,sl_KIND_SETS_0_1_1⟩) (l_KIND_SETS_0_2:K.lookup a_KIND_SETS_0_2=some ⟨.type "tuple",none,.seq #[] n_KIND_SETS_0_2,sl_KIND_SETS_0_2⟩) (l_KIND_SETS_1:K.lookup a_KIND_SETS_1=some ⟨.type "tuple",none,.seq #[.ref a_KIND_SETS_1_0,.ref a_KIND_SETS_1_1,.ref a_KIND_SETS_1_2,.none,.none] n_KIND_SETS_1,sl_KIND_SETS_1⟩) (l_KIND_SETS_1_0:K.lookup a_KIND_SETS_1_0=some ⟨.type "tuple",none,.seq #[] n_KIND_SETS_1_0,sl_KIND_SETS_1_0⟩) (l_KIND_SETS_1_1:K.lookup a_KIND_SETS_1_1=some ⟨.type "tuple",none,.seq #[.str "but" t_KIND_SETS_1_1_0,.ref a_KIND_SETS_1_1_1] n_KIND_SETS_1_1,sl_KIND_SETS_1_1⟩) (l_KIND_SETS_1_1_1:K.lookup a_KIND_SETS_1_1_1=some ⟨.type "tuple",none,.seq #[] n_KIND_SETS_1_1_1,sl_KIND_SETS_1_1_1⟩) (l_KIND_SETS_1_2:K.lookup a_KIND_SETS_1_2=some ⟨.type "tuple",none,.seq #[] n_KIND_SETS_1_2,sl_KIND_SETS_1_2⟩) (l_KIND_SETS_2:K.lookup a_KIND_SETS_2=some ⟨.type "tuple",none,.seq #[.ref a_KIND_SETS_2_0,.ref a_KIND_SETS_2_1,.ref a_KIND_SETS_2_2,.none,.none] n_KIND_SETS_2,sl_KIND_SETS_2⟩) (l_KIND_SETS_2_0:K.lookup a_KIND_SETS_2_0=some ⟨.type "tuple",none,.seq #[] n_KIND_SETS_2_0,sl_KIND_SETS_2_0⟩) (l_KIND_SETS_2_1:K.lookup a_KIND_SETS_2_1=some ⟨.type "tuple",none,.seq #[.str "of" t_KIND_SETS_2_1_0,.ref a_KIND_SETS_2_1_1] n_KIND_SETS_2_1,sl_KIND_SETS_2_1⟩) (l_KIND_SETS_2_1_1:K.lookup a_KIND_SETS_2_1_1=some ⟨.type "tuple",none,.seq #[] n_KIND_SETS_2_1_1,sl_KIND_SETS_2_1_1⟩) (l_KIND_SETS_2_2:K.lookup a_KIND_SETS_2_2=some ⟨.type "tuple",none,.seq #[.bool false,.bool true] n_KIND_SETS_2_2,sl_KIND_SETS_2_2⟩) (l_KIND_SETS_3:K.lookup a_KIND_SETS_3=some ⟨.type "tuple",none,.seq #[.ref a_KIND_SETS_3_0,.ref a_KIND_SETS_3_1,.ref a_KIND_SETS_3_2,.ref a_KIND_SETS_3_3,.none] n_KIND_SETS_3,sl_KIND_SETS_3⟩) (l_KIND_SETS_3_0:K.lookup a_KIND_SETS_3_0=some ⟨.type "tuple",none,.seq #[] n_KIND_SETS_3_0,sl_KIND_SETS_3_0⟩) (l_KIND_SETS_3_1:K.lookup a_KIND_SETS_3_1=some ⟨.type "tuple",none,.seq #[.str "of" t_KIND_SETS_3_1_0,.ref a_KIND_SETS_3_1_1] n_KIND_SETS_3_1,sl_KIND_SETS_3_1⟩) (l_KIND_SETS_3_1_1:K.lookup a_KIND_SETS_3_1_1=some ⟨.type "tuple",none,.seq #[] n_KIND_SETS_3_1_1,sl_KIND_SETS_3_1_1⟩) (l_KIND_SETS_3_2:K.lookup a_KIND_SETS_3_2=some ⟨.type "tuple",none,.seq #[] n_KIND_SETS_3_2,sl_KIND_SETS_3_2⟩) (l_KIND_SETS_3_3:K.lookup a_KIND_SETS_3_3=some ⟨.type "tuple",none,.seq #[.ref a_KIND_SETS_3_3_0,.str "any" t_KIND_SETS_3_3_1] n_KIND_SETS_3_3,sl_KIND_SETS_3_3⟩) (l_KIND_SETS_3_3_0:K.lookup a_KIND_SETS_3_3_0=some ⟨.type "tuple",none,.seq #[] n_KIND_SETS_3_3_0,sl_KIND_SETS_3_3_0⟩) (l_KIND_SETS_4:K.lookup a_KIND_SETS_4=some ⟨.type "tuple",none,.seq #[.ref a_KIND_SETS_4_0,.ref a_KIND_SETS_4_1,.ref a_KIND_SETS_4_2,.none,.ref a_KIND_SETS_4_4] n_KIND_SETS_4,sl_KIND_SETS_4⟩) (l_KIND_SETS_4_0:K.lookup a_KIND_SETS_4_0=some ⟨.type "tuple",none,.seq #[] n_KIND_SETS_4_0,sl_KIND_SETS_4_0⟩) (l_KIND_SETS_4_1:K.lookup a_KIND_SETS_4_1=some ⟨.type "tuple",none,.seq #[.str "of" t_KIND_SETS_4_1_0,.ref a_KIND_SETS_4_1_1] n_KIND_SETS_4_1,sl_KIND_SETS_4_1⟩) (l_KIND_SETS_4_1_1:K.lookup a_KIND_SETS_4_1_1=some ⟨.type "tuple",none,.seq #[] n_KIND_SETS_4_1_1,sl_KIND_SETS_4_1_1⟩) (l_KIND_SETS_4_2:K.lookup a_KIND_SETS_4_2=some ⟨.type "tuple",none,.seq #[] n_KIND_SETS_4_2,sl_KIND_SETS_4_2⟩) (l_KIND_SETS_4_4:K.lookup a_KIND_SETS_4_4=some ⟨.type "tuple",none,.seq #[.ref a_KIND_SETS_4_4_0,.str "any" t_KIND_SETS_4_4_1] n_KIND_SETS_4_4,sl_KIND_SETS_4_4⟩) (l_KIND_SETS_4_4_0:K.lookup a_KIND_SETS_4_4_0=some ⟨.type "tuple",none,.seq #[] n_KIND_SETS_4_4_0,sl_KIND_SETS_4_4_0⟩)
 (z:∀b∈bltL,yQ K zZ b=some none) (pure:∀ns:List Int,ns.length<=63->∃G',bH [.ref 0] [.rol (ns.map D.int)]=some (.ok (.bl true),G')):
 ∃fd:yF,(∀(s:zm) (v:zd),Zo s fd ⟨[v], []⟩ [("script",v)])/\∀base:Heap,K.In base->base.Ns zZ mg->V1 l.prog w K mg base CX0 12 fa fd ["script"] (AE K):=by
 obtain⟨Y0,Y1,Y2,Y3,Y4,Y5,Y6,Y7,Y8,Y9,Y10,Y11,Y12,Y13,Y14,Y15,Y16,Y17,Y18,Y19,Y20,Y21,Y22,Y23,Y24,_⟩:=Z0;obtain⟨Y25,Y26,Y27,Y28,Y29,Y30,Y31,Y32,Y33,Y34,Y35,Y36,Y37,Y38,Y39,Y40,Y41,Y42,Y43,Y44,Y45,Y46,Y47,Y48,Y49,_⟩:=Z25;obtain⟨Y50,Y51,Y52,_⟩:=Z50;have zb:BC w K mg:=⟨BLs.of X G z,g_ANY.ok X G,g_NOTHING.ok X G,g_MOST_FIGURES.ok X G,g_MOST_DEEP.ok X G,g_ALL_PARTS.ok X G,⟨⟨_, [{hash:=jw w.params "number",key:=.str "number" t_KIND_SETS_k0,val:=.ref a_KIND_SETS_0},{hash:=jw w.params "text",key:=.str "text" t_KIND_SETS_k1,val:=.ref a_KIND_SETS_1},{hash:=jw w.params "truth",key:=.str "truth" t_KIND_SETS_k2,val:=.ref a_KIND_SETS_2},{hash:=jw w.params "list",key:=.str "list" t_KIND_SETS_k3,val:=.ref a_KIND_SETS_3},{hash:=jw w.params "record",key:=.str "record" t_KIND_SETS_k4,val:=.ref a_KIND_SETS_4}],_,xz X G g_KIND_SETS,l_KIND_SETS,.cons (cr_tup (us:= [.ref a_KIND_SETS_0_0,.ref a_KIND_SETS_0_1,.ref a_KIND_SETS_0_2,.none,.none]) l_KIND_SETS_0 rfl (crl_cons (cr_tup (us:= [.ref a_KIND_SETS_0_0_0]) l_KIND_SETS_0_0 rfl (crl_cons (cr_tup (us:= [.none,.none]) l_KIND_SETS_0_0_0 rfl (crl_cons (cr_non) (crl_cons (cr_non) (crl_nil)))) (crl_nil))) (crl_cons (cr_tup (us:= [.str "of" t_KIND_SETS_0_1_0,.ref a_KIND_SETS_0_1_1]) l_KIND_SETS_0_1 rfl (crl_cons (cr_str) (crl_cons (cr_tup (us:= []) l_KIND_SETS_0_1_1 rfl (crl_nil)) (crl_nil)))) (crl_cons (cr_tup (us:= []) l_KIND_SETS_0_2 rfl (crl_nil)) (crl_cons (cr_non) (crl_cons (cr_non) (crl_nil))))))) (.cons (cr_tup (us:= [.ref a_KIND_SETS_1_0,.ref a_KIND_SETS_1_1,.ref a_KIND_SETS_1_2,.none,.none]) l_KIND_SETS_1 rfl (crl_cons (cr_tup (us:= []) l_KIND_SETS_1_0 rfl (crl_nil)) (crl_cons (cr_tup (us:= [.str "but" t_KIND_SETS_1_1_0,.ref a_KIND_SETS_1_1_1]) l_KIND_SETS_1_1 rfl (crl_cons (cr_str) (crl_cons (cr_tup (us:= []) l_KIND_SETS_1_1_1 rfl (crl_nil)) (crl_nil)))) (crl_cons (cr_tup (us:= []) l_KIND_SETS_1_2 rfl (crl_nil)) (crl_cons (cr_non) (crl_cons (cr_non) (crl_nil))))))) (.cons (cr_tup (us:= [.ref a_KIND_SETS_2_0,.ref a_KIND_SETS_2_1,.ref a_KIND_SETS_2_2,.none,.none]) l_KIND_SETS_2 rfl (crl_cons (cr_tup (us:= []) l_KIND_SETS_2_0 rfl (crl_nil)) (crl_cons (cr_tup (us:= [.str "of" t_KIND_SETS_2_1_0,.ref a_KIND_SETS_2_1_1]) l_KIND_SETS_2_1 rfl (crl_cons (cr_str) (crl_cons (cr_tup (us:= []) l_KIND_SETS_2_1_1 rfl (crl_nil)) (crl_nil)))) (crl_cons (cr_tup (us:= [.bool false,.bool true]) l_KIND_SETS_2_2 rfl (crl_cons (cr_bl) (crl_cons (cr_bl) (crl_nil)))) (crl_cons (cr_non) (crl_cons (cr_non) (crl_nil))))))) (.cons (cr_tup (us:= [.ref a_KIND_SETS_3_0,.ref a_KIND_SETS_3_1,.ref a_KIND_SETS_3_2,.ref a_KIND_SETS_3_3,.none]) l_KIND_SETS_3 rfl (crl_cons (cr_tup (us:= []) l_KIND_SETS_3_0 rfl (crl_nil)) (crl_cons (cr_tup (us:= [.str "of" t_KIND_SETS_3_1_0,.ref a_KIND_SETS_3_1_1]) l_KIND_SETS_3_1 rfl (crl_cons (cr_str) (crl_cons (cr_tup (us:= []) l_KIND_SETS_3_1_1 rfl (crl_nil)) (crl_nil)))) (crl_cons (cr_tup (us:= []) l_KIND_SETS_3_2 rfl (crl_nil)) (crl_cons (cr_tup (us:= [.ref a_KIND_SETS_3_3_0,.str "any" t_KIND_SETS_3_3_1]) l_KIND_SETS_3_3 rfl (crl_cons (cr_tup (us:= []) l_KIND_SETS_3_3_0 rfl (crl_nil)) (crl_cons (cr_str) (crl_nil)))) (crl_cons (cr_non) (crl_nil))))))) (.cons (cr_tup (us:= [.ref a_KIND_SETS_4_0,.ref a_KIND_SETS_4_1,.ref a_KIND_SETS_4_2,.none,.ref a_KIND_SETS_4_4]) l_KIND_SETS_4 rfl (crl_cons (cr_tup (us:= []) l_KIND_SETS_4_0 rfl (crl_nil)) (crl_cons (cr_tup (us:= [.str "of" t_KIND_SETS_4_1_0,.ref a_KIND_SETS_4_1_1]) l_KIND_SETS_4_1 rfl (crl_cons (cr_str) (crl_cons (cr_tup (us:= []) l_KIND_SETS_4_1_1 rfl (crl_nil)) (crl_nil)))) (crl_cons (cr_tup (us:= []) l_KIND_SETS_4_2 rfl (crl_nil)) (crl_cons (cr_non) (crl_cons (cr_tup (us:= [.ref a_KIND_SETS_4_4_0,.str "any" t_KIND_SETS_4_4_1]) l_KIND_SETS_4_4 rfl (crl_cons (cr_tup (us:= []) l_KIND_SETS_4_4_0 rfl (crl_nil)) (crl_cons (cr_str) (crl_nil)))) (crl_nil))))))) (.nil)))))⟩,by decide⟩⟩;refine kw (N:= ["script", "draws", "at", "pairs", "some", "due", "shown", "told", "words"]) X G hfa Y52 (by walk_at "ba") (by walk_at "sc") rfl (λ_ _ _ _ _ _ s v=>.of_eq rfl) (λbase=>?_) pure;have zx:EvX ⟨l.prog,w,K,mg,base⟩:=⟨h,X,G⟩;have k0:=dQ zx zb Y0;have k1:=QY zx zb Y1;have k2:=gO zx zb k1 Y2;have k3:=wz zx zb k1 k2 Y3;have k4:=QN zx zb Y4;have k5:=sW zx zb Y5;have k6:=wv zx zb Y6;have k7:=IT zx zb Y7;have k8:=Cd zx zb k7 Y8;have k9:=SV zx zb k8 Y9;have k10:=qh zx zb k9 Y10;have k11:=RO zx zb Y11;have k12:=MP zx zb k4 k5 k6 k10 k11 Y12;have k13:=CZ zx zb k12 Y13;have k14:=Bp zx zb Y14;have k15:=oS zx zb k14 Y15;have k16:=qQ zx zb Y16;have k17:=kh zx zb k14 k16 Y17;have k18:=wZ zx zb Y18;have k19:=rV zx zb Y19;have k20:=bV zx zb Y20;have k21:=GT zx zb k20 Y21;have k22:=FR zx zb k21 Y22;have k23:=CO zx zb Y23;have k24:=wx zx zb Y24;have k25:=uZ zx zb Y25;have k26:=SS zx zb k24 k25 Y26;have k27:=OV zx zb k23 k26 Y27;have k28:=Bh zx zb k20 Y28;have k29:=LW zx zb k21 k27 k28 Y29;have k30:=Bz zx zb Y30;have k31:=LQ zx zb k27 Y31;have k32:=BZ zx zb Y32;have k33:=wb zx zb k22 k29 k30 k31 k32 Y33;have k34:=KQ zx zb k33 Y34;have k35:=nR zx zb Y35;have k36:=pT zx zb Y36;have k37:=NZ zx zb Y37;have k38:=lY zx zb k35 k36 k37 Y38;have k39:=iS zx zb Y39;have k40:=rZ zx zb Y40;have k41:=GP zx zb Y41;have k42:=NW zx zb k40 k41 Y42;have k43:=QP zx zb k42 Y43;have k44:=Cv zx zb k43 Y44;have k45:=aX zx zb k39 k44 Y45;have k46:=hV zx zb Y46;have k47:=rY zx zb Y47;have k48:=rP zx zb k26 k38 k45 k46 k47 Y48;have k49:=HZ zx zb k48 Y49;have k50:=lR zx zb k19 k34 k49 Y50;have k51:=Bj zx zb k50 Y51;intro _ _ _ _ _ _ _ _;obtain⟨_,_,_,_,_,_,_⟩:=zb;unfold oD;unfold VD VC uF rC;walk_at "db0"
mutual
def szD:D->Nat
 | .tup l=>1+szL l
 | .str _=>1
 | .ref _=>1
 | .fn _=>1
 | .ty _=>1
 | .non=>1
 | .bl _=>1
 | .int _=>1
def szL:List D->Nat
 |[]=>0
 |d::r=>szD d+szL r
end
abbrev RR:Str:= "list"
abbrev gP:Str:= "record"
def Ap(G G':DH):Prop:=∃t,G'=G++t
theorem Ap.refl:Ap G G:=⟨[],by simp⟩
theorem Ap.trans(h:Ap G G1)(k:Ap G1 G2):Ap G G2:=by obtain⟨t,rfl⟩:=h;obtain⟨u,rfl⟩:=k;exact⟨t++u,by simp⟩
theorem Ap.one:Ap G (G++[o]):=⟨_,rfl⟩
theorem Ap.at{p:Nat}(h:Ap G G')(e:G[p]? =some o):G'[p]? =some o:=by obtain⟨t,rfl⟩:=h;exact v9 e
theorem Ap.len(h:Ap G G'):G.length<=G'.length:=by obtain⟨t,rfl⟩:=h;simp
section
end
theorem GW(e:G[p]? =some (.lst xs))(eq:G[q]? =some (.lst [])):Wp (eqD (.ref p) (.ref q)) G Q↔Q (.bl xs.isEmpty) G:=by
 have h:eqN 40 G (.ref p) (.ref q)=some xs.isEmpty:=by
  have h1:V4 G (.ref p)=some (false,xs):=by simp only[V4,e]
  have h2:V4 G (.ref q)=some (false, []):=by simp only[V4,eq]
  rw[OD,h1,h2]
  cases xs<;>rfl
 rw[CA,h];exact Q5
theorem US{lo hi:Option Int}(e:G[p]? =some (.lst l)):Wp (slD (.ref p) lo hi) G Q↔Q (.ref G.length) (G++[.lst (DL.cutD l lo hi)]):=by
 have h:slD (.ref p) lo hi= (do
  let l <-J5 p >>= DL.listOf
  J4 (.lst (DL.cutD l lo hi))):=rfl
 rw[h];simp only[d9,K4,e,Q5,DL.listOf,d8,R0]
theorem big:1000000<zi:=by decide
section
theorem R9:Wp (J7 (n+1) t b σ) G P↔Wp (t σ) G λk G1=>if k=true then Wp (b σ) G1 λfl G2=>match fl with
 | .nx X1=>Wp (J7 n t b X1) G2 P
 | .ct X1=>Wp (J7 n t b X1) G2 P
 | .bk X1=>P (.nx X1) G2
 | .rt d=>P (.rt d) G2
 else P (.nx σ) G1:=by
 rw[J7];simp only[d9,A6,d8];constructor
 · rintro⟨k,G1,e,q⟩;refine⟨k,G1,e,?_⟩;rcases k with _|_
   ·exact q
   ·
     simp only[if_true]at q ⊢;obtain⟨fl,G2,e2,q⟩:=q;refine⟨fl,G2,e2,?_⟩
     cases fl<;>first
      |exact q
      |exact d8.mp q
 · rintro⟨k,G1,e,q⟩;refine⟨k,G1,e,?_⟩;rcases k with _|_
   ·exact q
   ·
     simp only[if_true]at q ⊢;obtain⟨fl,G2,e2,q⟩:=q;refine⟨fl,G2,e2,?_⟩
     cases fl<;>first
      |exact q
      |exact d8.mpr q
theorem vB(h:Wp (J7 n t b σ) G P):Wp (U5 t b σ) G P:=by obtain⟨a,G',e,q⟩:=h;refine⟨a,G',?_,q⟩;have hx:∃n,(J7 n t b σ G).isSome=true:=⟨n,by rw[e];rfl⟩;unfold U5;rw[dif_pos hx];have hs:=Classical.choose_spec hx;obtain⟨r,hr⟩:=YI.mp hs;rw[hr];have e1:=NI (Nat.le_max_left n (ZB hx)) e;have e2:=NI (Nat.le_max_right n (ZB hx)) hr;rw[e1]at e2;exact e2.symm
end
theorem Gr.set(h:Gr G0 G)(hp:G0.length<=p):Gr G0 (G.set p o):=⟨by rw[xk];exact h.1,λi hi=>by rw[zY (by lia)];exact h.2 i hi⟩
theorem iY(e:G[p]? =some (.lst xs)):Wp (T6 (.ref p)) G B↔B (!xs.isEmpty) G:=by unfold T6;simp only[d9,K4,e,Q5,d8]
theorem lt_of_get{G:DH}(e:G[p]? =some o):p<G.length:=by
 by_cases hi:p<G.length
 ·exact hi
 ·rw[zM (by lia)]at e;exact t6 e
def VB(b:Nat):Nat->D->Prop
 |0,_=>False
 |n+1,d=>(∃i,d= .int i)\/(∃k,d= .bl k)\/(∃z,d= .str z/\z.length<=b)\/(∃l,d= .tup [.str RR,.tup l]/\∀x∈l,VB b n x)\/(∃l,d= .tup [.str gP,.tup l]/\∀x∈l,∃nm v,x= .tup [.str nm,v]/\nm.length<=1000/\VB b n v)
theorem VB.le{b c:Nat}(hb:b<=c):∀ {n m:Nat} {d:D},n<=m->VB b n d->VB c m d
 |0,_,_,_,h=>h.elim
 |n+1,0,_,h,_=>by lia
 |n+1,m+1,d,h,a=>by
   rcases a with a|a|⟨z,e,hz⟩|⟨l,e,hl⟩|⟨l,e,hl⟩
   ·exact .inl a
   ·exact .inr (.inl a)
   ·exact .inr (.inr (.inl ⟨z,e,by lia⟩))
   ·exact .inr (.inr (.inr (.inl ⟨l,e,λx hx=>VB.le hb (by lia) (hl x hx)⟩)))
   ·exact .inr (.inr (.inr (.inr ⟨l,e,λx hx=>let ⟨nm,v,q1,q2,q3⟩:=hl x hx;⟨nm,v,q1,q2,VB.le hb (by lia) q3⟩⟩)))
section
variable{bd n:Nat}
theorem VB.b{i:Bool}:VB bd (n+1) (.bl i):=.inr (.inl ⟨i,rfl⟩)
end
theorem VB.pos{b n:Nat}{d:D}(h:VB b n d):0<n:=by
 cases n with
 |zero=>exact h.elim
 |succ n=>lia
theorem VB.there{b n:Nat}{d:D}{G:DH}(h:VB b n d):eB G d:=by
 cases n with
 |zero=>exact h.elim
 |succ n=>rcases h with⟨i,rfl⟩|⟨k,rfl⟩|⟨z,rfl,hz⟩|⟨l,rfl,hl⟩|⟨l,rfl,hl⟩<;>exact⟨_,rfl⟩
theorem VL(l:List D)(n:Nat):DL.cutD l none (some (n:Int))=l.take n:=by
 unfold DL.cutD;rw[HT.sIx_none,HT.sIx_nat,List.drop_zero,Nat.sub_zero];by_cases h:n<=l.length
 ·rw[YE h]
 ·rw[Nat.min_eq_right (by lia),yV (zh _),yV (by lia)]
theorem UJ(l:List D)(n:Nat):DL.cutD l (some (n:Int)) none=l.drop n:=by
 unfold DL.cutD;rw[HT.sIx_none,HT.sIx_nat];by_cases h:n<=l.length
 ·rw[YE h,yV (by rw[yJ];lia)]
 ·rw[Nat.min_eq_right (by lia),xU (zh _),xU (by lia)];simp
section
variable{G:DH}{Q:DPP}
theorem gJ{i:Int}:Wp (P9 [.int i]) G Q↔Q (.int (if i<0 then -i else i)) G:=d8
end
def u3{α β:Type}(R:α->β->Prop):List α->List β->Prop
 |[], []=>True
 |a::r,b::s=>R a b/\u3 R r s
 |_,_=>False
section
variable{α β:Type}{R S:α->β->Prop}
theorem u3.len:∀ {a:List α} {b:List β},u3 R a b->a.length=b.length
 |[], [],_=>rfl
 |_::_,_::_,h=>by simp[u3.len h.2]
 |[],_::_,h=>h.elim
 |_::_, [],h=>h.elim
theorem u3.mono(k:∀a b,R a b->S a b):∀ {a:List α} {b:List β},u3 R a b->u3 S a b
 |[], [],_=>trivial
 |_::_,_::_,h=>⟨k _ _ h.1,u3.mono k h.2⟩
 |[],_::_,h=>h.elim
 |_::_, [],h=>h.elim
theorem u3.app:∀ {a c:List α} {b d:List β},u3 R a b->u3 R c d->u3 R (a++c) (b++d)
 |[],_, [],_,_,h=>h
 |_::_,_,_::_,_,h,k=>⟨h.1,u3.app h.2 k⟩
 |[],_,_::_,_,h,_=>h.elim
 |_::_,_, [],_,h,_=>h.elim
end
abbrev tl(z:Str):List Nat:=z.cps.toList
abbrev ofL(l:List Nat):Str:=⟨l.toArray⟩
theorem dA(z:Str):(tl z).length=z.length:=rfl
theorem bZ(l:List Nat):tl (ofL l)=l:=rfl
theorem UD{a b:Str}(h:tl a=tl b):a=b:=by obtain⟨⟨a⟩⟩:=a;obtain⟨⟨b⟩⟩:=b;have h:a=b:=h;rw[h]
theorem ER(a b:List Nat):ofL a++ofL b=ofL (a++b):=UD (show tl (ofL a++ofL b)=a++b from Zs)
theorem tG{z p:Str}{pre rest:List Nat}(h:tl z=pre++rest):W9 z p (pre.length:Int)=decide (tl p <+:rest):=by
 have hl:z.length=pre.length+rest.length:=by rw[<-dA,h,zf]
 have fi:Jk z.length (pre.length:Int)=pre.length:=by unfold Jk;rw[if_neg (by lia)];lia
 have e:Zg z p pre.length=decide (tl p=rest.take p.length):=by rw[Bool.eq_iff_iff,decide_eq_true_iff];unfold Zg;rw[beq_iff_eq,<-xf,Array.toList_extract,List.extract_eq_drop_take];show List.take (pre.length+p.length-pre.length) (List.drop pre.length (tl z))=tl p↔_;rw[h,List.drop_left,Xn];exact eq_comm
 unfold W9;rw[fi,e,Bool.eq_iff_iff,XV,decide_eq_true_iff,decide_eq_true_iff,decide_eq_true_iff,List.prefix_iff_eq_take];refine⟨λk=>k.2,λk=>⟨?_,k⟩⟩;have:=congrArg xI k;rw[yI]at this;have q:(tl p).length=p.length:=rfl;lia
theorem V0{z p:Str}{pre rest r:List Nat}(h:tl z=pre++rest)(k:rest=tl p++r):W9 z p (pre.length:Int)=true:=by rw[tG h,decide_eq_true_iff,k];exact Jw ..
def hdN(c:Nat)(rest:List Nat):Prop:=∀d r,rest=d::r->d≠c
theorem W6{z p:Str}{pre rest:List Nat}{c:Nat}{ps:List Nat}(h:tl z=pre++rest)(hp:tl p=c::ps)(k:hdN c rest):W9 z p (pre.length:Int)=false:=by rw[tG h,decide_eq_false_iff_not,hp];rintro⟨t,e⟩;exact k c (ps++t) e.symm rfl
theorem IE{f g:Nat->Option Nat}:∀ {l:List Nat},(∀k∈l,f k=g k)->l.filterMap f=l.filterMap g
 |[],_=>rfl
 |a::r,h=>by rw[ji,ji,h a (zr ..),IE λk hk=>h k (zk _ hk)]
theorem EX(l:List Nat):(zJ l.length).filterMap (λk=>l[k]?)=l:=by
 have e:(zJ l.length).filterMap (λk=>l[k]?)= (zJ l.length).map λk=>l.getD k 0:=by rw[<-List.filterMap_eq_map];refine IE λk hk=>?_;have:=jW.mp hk;simp[this]
 rw[e];apply yj
 ·simp
 ·intro i hi hj;simp[hj]
theorem pV(a b n:Nat)(h:a+b<=n):ZD (some (a:Int)) (some ((a:Int)+b)) 1 n= (zJ b).map λk=>a+k:=by
 unfold ZD Xq;have e1:max 0 (min (a:Int) n)=a:=by lia
 have e2:max 0 (min ((a:Int)+b) n)= (a:Int)+b:=by lia
 simp only[show (1:Int)>0 by decide,if_true,show ¬(a:Int)<0 by lia,show ¬(a:Int)+b<0 by lia,if_false,e1,e2];have e3:(if (a:Int)<(a:Int)+b then ((a:Int)+b-a+1-1) / 1 else 0).toNat=b:=by split<;>lia
 rw[e3];refine yh λk _=>?_;lia
theorem MQ{z:Str}{a b c:List Nat}(h:tl z=a++b++c):xv z (some (a.length:Int)) (some ((a.length:Int)+b.length))=ofL b:=by
 have hl:z.length=a.length+b.length+c.length:=by rw[<-dA,h,zf,zf]
 unfold xv;rw[pV _ _ _ (by lia)];split
 ·rename_i k;rw[XV,beq_iff_eq,beq_iff_eq,zn,yW]at k;have ha:a= []:=Ys (by lia);have hc:c= []:=Ys (by lia);subst ha hc;exact UD (by rw[h];simp)
 ·refine UD ?_;show YK (λi=>z.cps[i]?) (List.map (λk=>a.length+k) (zJ b.length))=b;rw[yo];refine Eq.trans (IE λk hk=>?_) (EX b);have hk:=jW.mp hk;show z.cps[a.length+k]? =b[k]?;rw[<-js];show (tl z)[a.length+k]? =b[k]?;rw[h,zD,jy (by lia),Xn,zt hk]
theorem sD{a c:Nat}{G:DH}{Q:DPP}:Wp (leD (.str ⟨#[a]⟩) (.str ⟨#[c]⟩)) G Q↔Q (.bl (decide (a<=c))) G:=by
 rw[Cp];have:(!decide ((⟨#[c]⟩:Str).cps.toList<(⟨#[a]⟩:Str).cps.toList))=decide (a<=c):=by
  show (!decide ([c] < [a]))=_;by_cases h:a<=c
  · have:¬c<a:=by lia
    simp[h,XE,this]
  · have:c<a:=by lia
    simp[h,XE,this]
 rw[this]
def dg(m:Nat):List Nat:=(ZY 10 m).map Char.toNat
theorem w8(m:Nat):NumText.AllDigits (dg m):=by intro c hc;obtain⟨ch,hch,e⟩:=jJ.mp hc;rw[<-e];exact digit_range (Nat.isDigit_of_mem_toDigits (by decide) (by decide) hch)
theorem EK{m:Nat}(h:¬m<10):dg m=dg (m / 10)++dg (m % 10):=by have hm:m % 10<10:=YY m (by decide);have t:ZY 10 (m / 10)++ZY 10 (m % 10)=ZY 10 (10*(m / 10)+m % 10):=Nat.toDigits_append_toDigits (by decide) (by lia) hm;rw[Nat.div_add_mod]at t;unfold dg;rw[<-t,jk]
theorem rA{m:Nat}(h:m<10):dg m= [48+m]:=by
 unfold dg;rw[Nat.toDigits_of_lt_base h];have:∀d,d<10->(Nat.digitChar d).toNat=48+d:=by decide
 show [(Nat.digitChar m).toNat]=_;rw[this m h]
theorem IB:∀(k m:Nat),m<10 ^ (k+1)->(dg m).length<=k+1
 |0,m,h=>by rw[rA (by lia)];simp
 |k+1,m,h=>by
   by_cases h':m<10
   ·rw[rA h'];simp
   ·rw[EK h',zf,rA (YY m (by decide))];have:=IB k (m / 10) (by rw[Nat.pow_succ]at h;lia);simp;lia
theorem NG(m:Nat)(h:0<m):∃c r,dg m=c::r/\49<=c:=by
 induction m using Nat.strongRecOn with
 |_ m ih=>
   by_cases h':m<10
   ·exact⟨48+m, [],rA h',by lia⟩
   ·obtain⟨c,r,e,k⟩:=ih (m / 10) (by lia) (by lia);exact⟨c,r++dg (m % 10),by rw[EK h',e];rfl,k⟩
theorem g7(m:Nat):dg m≠ []:=by
 rcases ZM m with rfl|h
 ·rw[rA (by decide)];exact JY _ _
 ·obtain⟨c,r,e,_⟩:=NG m h;rw[e];exact JY _ _
def nmL(i:Int):List Nat:=tl (jd (Xo i))
theorem nB(m:Nat):nmL (m:Int)=dg m:=PySem.W.KIN.signs_num m
theorem eC(m:Nat)(h:0<m):nmL (-(m:Int))=45::dg m:=by obtain⟨k,rfl⟩:∃k,m=k+1:=⟨m-1,by lia⟩;unfold nmL tl;rw[signs_ofString];show (("-" ++ Nat.repr (k+1):String)).toList.map Char.toNat=_;rw[String.toList_append,jk,Nat.toList_repr];rfl
def KA:Nat:=9999999999999999999999999999999999999999
def smI(i:Int):Prop:=i.natAbs<=KA
theorem kC(i:Int):(∃m:Nat,i=m)\/∃m:Nat,0<m/\i= -(m:Int):=by
 rcases Int.lt_or_le i 0 with h|h
 ·exact .inr ⟨i.natAbs,by lia,by lia⟩
 ·exact .inl ⟨i.natAbs,by lia⟩
theorem V5{i:Int}(h:smI i):(nmL i).length<=41:=by
 unfold smI KA at h;rcases kC i with⟨m,rfl⟩|⟨m,hm,rfl⟩
 ·rw[nB];have:=IB 39 m (by show m<10000000000000000000000000000000000000000;lia);lia
 ·rw[eC m hm,zw];have:=IB 39 m (by show m<10000000000000000000000000000000000000000;lia);lia
theorem MW{m:Nat}(h:smI (m:Int)):(dg m).length<=40:=IB 39 m (by unfold smI KA at h;show m<10000000000000000000000000000000000000000;lia)
theorem DV{m:Nat}(h:smI (-(m:Int))):(dg m).length<=40:=IB 39 m (by unfold smI KA at h;show m<10000000000000000000000000000000000000000;lia)
theorem oV{i:Int}(h:smI i):Xs (ofL (nmL i))=some i:=by
 have hl:=V5 h;have hl':(ofL (nmL i)).length<=4300:=by rw[<-dA,bZ];lia
 rcases kC i with⟨m,rfl⟩|⟨m,hm,rfl⟩
 ·rw[nB]at hl' ⊢;have e:=PySem.intText_digits (x:=ofL (dg m)) (w8 m) (g7 m) hl';rw[e];show some ((Zx (dg m):Nat):Int)=_;rw[show Zx (dg m)=m from YB m]
 ·rw[eC m hm]at hl' ⊢;have e:=PySem.intText_neg (x:=ofL (45::dg m)) (cs:=dg m) rfl (w8 m) (g7 m) hl';rw[e,show Zx (dg m)=m from YB m]
def glL(s:List Nat):List (List Nat)->List Nat
 |[]=> []
 |p::r=>s++p++glL s r
def E3(s:List Nat):List (List Nat)->List Nat
 |[]=> []
 |a::r=>a++glL s r
theorem qY(sep:Str)(ss:List Str):tl (ZW sep ss)=E3 (tl sep) (ss.map tl):=by
 have go:∀(r:List Str) (Fw:Array Nat),(r.foldl (λFw p=>Fw++sep.cps++p.cps) Fw).toList=Fw.toList++glL (tl sep) (r.map tl):=λr=>by
  induction r with
  |nil=>intro Fw;simp[glL]
  |cons p r ih=>
    intro Fw;rw[List.foldl_cons,ih,Zs,Zs,zN,glL,zD,zD,zD]
 rcases ss with _|⟨a,r⟩
 ·rfl
 ·exact go r a.cps
theorem pX{i:Int}(h:smI i):i.natAbs.log2<1920:=by
 unfold smI KA at h;rcases ZM i.natAbs with z|z
 ·rw[z];decide
 ·exact zQ ((Nat.log2_lt (by lia)).mpr (show i.natAbs<2 ^ 140 by lia)) (by decide)
theorem pA{i:Int}{G:DH}{Q:DPP}(h:smI i)(q:Q (.str (ofL (nmL i))) G):Wp (F4 [.int i]) G Q:=by have e:F4 [.int i]= (if i.natAbs.log2<1920 then pure (.str (jd (Xo i)))else M.stuck:M D):=rfl;rw[e,if_pos (pX h)];exact d8.mpr q
abbrev Rg:=Option Int×Option Int
def inR(p:Rg)(x:Int):Prop:=(∀a,p.1=some a->a<=x)/\∀b,p.2=some b->x<=b
def inS(l:List Rg)(x:Int):Prop:=∃p∈l,inR p x
def okR(p:Rg):Prop:=∀a b,p.1=some a->p.2=some b->a<=b
def C3(p q:Rg):Prop:=∃a b,p.2=some a/\q.1=some b/\a+1<b
def Can(l:List Rg):Prop:=(∀p∈l,okR p)/\l.Pairwise C3
theorem v4{p:Rg}{l:List Rg}{x:Int}:inS (p::l) x↔inR p x\/inS l x:=by
 unfold inS;constructor
 · rintro⟨q,hq,h⟩;rcases zz.mp hq with rfl|hq
   ·exact .inl h
   ·exact .inr ⟨q,hq,h⟩
 · rintro(h|⟨q,hq,h⟩)
   ·exact⟨p,zr ..,h⟩
   ·exact⟨q,zk _ hq,h⟩
theorem P6{x:Int}:¬inS [] x:=fun⟨_,h,_⟩=>nomatch h
theorem Can.tail{p:Rg}{l:List Rg}(h:Can (p::l)):Can l:=⟨λq hq=>h.1 q (zk _ hq),(yP.mp h.2).2⟩
theorem Can.head{p:Rg}{l:List Rg}(h:Can (p::l)):okR p:=h.1 p (zr ..)
theorem Can.beyond{p:Rg}{l:List Rg}(h:Can (p::l)){x:Int}(hx:inS l x):∃a,p.2=some a/\a+1<x:=by obtain⟨q,hq,h1,h2⟩:=hx;obtain⟨a,b,e1,e2,k⟩:=(yP.mp h.2).1 q hq;exact⟨a,e1,by have:=h1 b e2;lia⟩
theorem Can.low{p:Rg}{l:List Rg}(h:Can (p::l)){a x:Int}(e:p.1=some a)(hx:inS (p::l) x):a<=x:=by
 rcases v4.mp hx with k|k
 ·exact k.1 a e
 ·obtain⟨b,e2,k⟩:=h.beyond k;have:=h.head a b e e2;lia
theorem Can.deep{p:Rg}{l:List Rg}(e:p.1=none)(a:Int):∃x,x<a/\inS (p::l) x:=by
 rcases e2:p.2 with _|b
 ·exact⟨a-1,by lia,v4.mpr (.inl ⟨λc hc=>(by rw[e]at hc;cases hc),λc hc=>(by rw[e2]at hc;cases hc)⟩)⟩
 ·exact⟨min (a-1) b,by lia,v4.mpr (.inl ⟨λc hc=>(by rw[e]at hc;cases hc),λc hc=>(by rw[e2]at hc;cases hc;lia)⟩)⟩
theorem okR.some{p:Rg}(h:okR p):∃x,inR p x:=by
 obtain⟨a,b⟩:=p;rcases a with _|a<;>rcases b with _|b
 ·exact⟨0,λc hc=>(nomatch hc),λc hc=>(nomatch hc)⟩
 ·exact⟨b,λc hc=>(nomatch hc),λc hc=>by cases hc;exact xK _⟩
 ·exact⟨a,λc hc=>(by cases hc;exact xK _),λc hc=>nomatch hc⟩
 ·exact⟨a,λc hc=>(by cases hc;exact xK _),λc hc=>by cases hc;exact h a b rfl rfl⟩
theorem NJ{p q:Rg}{l m:List Rg}(hp:Can (p::l))(hq:Can (q::m))(h:∀x,inS (p::l) x↔inS (q::m) x):p.1=q.1:=by
 have one:∀ {p q:Rg} {l m:List Rg} {a:Int},Can (p::l)->Can (q::m)->(∀x,inS (p::l) x↔inS (q::m) x)->p.1=some a->∃b,q.1=some b/\b<=a:=by
  intro p q l m a hp hq h e;have ha:inS (p::l) a:=v4.mpr (.inl ⟨λc hc=>(by rw[e]at hc;cases hc;exact xK _),λb hb=>hp.head a b e hb⟩);rcases e2:q.1 with _|b
  ·obtain⟨x,hx,k⟩:=Can.deep (p:=q) (l:=m) e2 a;have:=hp.low e ((h x).mpr k);lia
  ·exact⟨b,rfl,hq.low e2 ((h a).mp ha)⟩
 rcases e1:p.1 with _|a
 · rcases e2:q.1 with _|b
   ·rfl
   ·obtain⟨a,e3,_⟩:=one hq hp (λx=>(h x).symm) e2;rw[e1]at e3;cases e3
 ·obtain⟨b,e2,k1⟩:=one hp hq h e1;obtain⟨a',e3,k2⟩:=one hq hp (λx=>(h x).symm) e2;rw[e1]at e3;cases e3;rw[e2,Int.le_antisymm k1 k2]
theorem Dx{p q:Rg}{l m:List Rg}(hp:Can (p::l))(hq:Can (q::m))(h:∀x,inS (p::l) x↔inS (q::m) x):p.2=q.2:=by
 have lo:=NJ hp hq h;have one:∀ {p q:Rg} {l m:List Rg} {a:Int},Can (p::l)->Can (q::m)->(∀x,inS (p::l) x↔inS (q::m) x)->p.1=q.1->p.2=some a->∃b,q.2=some b/\b<=a:=by
  intro p q l m a hp hq h lo e;have hn:¬inS (q::m) (a+1):=λk=>by
   rcases v4.mp ((h (a+1)).mpr k)with k|k
   ·have:=k.2 a e;lia
   ·obtain⟨b,e2,k⟩:=hp.beyond k;rw[e]at e2;cases e2;lia
  have hlo:∀c,q.1=some c->c<=a:=λc hc=>hp.head c a (lo.trans hc) e;rcases e2:q.2 with _|b
  ·exact absurd (v4.mpr (.inl ⟨λc hc=>(by have:=hlo c hc;lia),λc hc=>by rw[e2]at hc;cases hc⟩)) hn
  · refine⟨b,rfl,?_⟩;rcases Int.lt_or_le a b with k|k
    ·exact absurd (v4.mpr (.inl ⟨λc hc=>(by have:=hlo c hc;lia),λc hc=>by rw[e2]at hc;cases hc;lia⟩)) hn
    ·exact k
 rcases e1:p.2 with _|a
 · rcases e2:q.2 with _|b
   ·rfl
   ·obtain⟨a,e3,_⟩:=one hq hp (λx=>(h x).symm) lo.symm e2;rw[e1]at e3;cases e3
 ·obtain⟨b,e2,k1⟩:=one hp hq h lo e1;obtain⟨a',e3,k2⟩:=one hq hp (λx=>(h x).symm) lo.symm e2;rw[e1]at e3;cases e3;rw[e2,Int.le_antisymm k1 k2]
theorem KF:∀ {l m:List Rg},Can l->Can m->(∀x,inS l x↔inS m x)->l=m
 |[], [],_,_,_=>rfl
 |[],q::m,_,hm,h=>by obtain⟨x,hx⟩:=hm.head.some;exact absurd ((h x).mpr (v4.mpr (.inl hx))) P6
 |p::l, [],hl,_,h=>by obtain⟨x,hx⟩:=hl.head.some;exact absurd ((h x).mp (v4.mpr (.inl hx))) P6
 |p::l,q::m,hl,hm,h=>by
   have e:p=q:=XO (NJ hl hm h) (Dx hl hm h);subst e;rw[KF hl.tail hm.tail λx=>?_];have out:∀ {l:List Rg},Can (p::l)->inS l x->¬inR p x:=λhl k r=>by obtain⟨a,e,k⟩:=hl.beyond k;have:=r.2 a e;lia
   constructor
   · intro k;rcases v4.mp ((h x).mp (v4.mpr (.inr k)))with r|r
     ·exact absurd r (out hl k)
     ·exact r
   · intro k;rcases v4.mp ((h x).mpr (v4.mpr (.inr k)))with r|r
     ·exact absurd r (out hm k)
     ·exact r
theorem lD{l m:List Rg}{x:Int}:inS (l++m) x↔inS l x\/inS m x:=by
 unfold inS;constructor
 ·rintro⟨p,hp,h⟩;exact(zU.mp hp).elim (λk=>.inl ⟨p,k,h⟩) λk=>.inr ⟨p,k,h⟩
 · rintro(⟨p,hp,h⟩|⟨p,hp,h⟩)
   ·exact⟨p,yc _ hp,h⟩
   ·exact⟨p,zC _ hp,h⟩
theorem Can.snoc{l:List Rg}{r:Rg}(h:Can l)(ok:okR r)(c:∀p∈l,C3 p r):Can (l++[r]):=
 ⟨λp hp=>(zU.mp hp).elim (h.1 p) λk=>by rw[zA.mp k];exact ok,
  jv.mpr ⟨h.2,Xj ..,λp hp q hq=>by rw[zA.mp hq];exact c p hp⟩⟩
def kle:Option Int->Option Int->Prop
 |none,_=>True
 |some _,none=>False
 |some a,some b=>a<=b
theorem VU{a:Int}{b:Option Int}(h:kle (some a) b):∃c,b=some c/\a<=c:=match b,h with
 |some c,h=>⟨c,rfl,h⟩
def E5:Option Int->Option Int->Option Int
 |some a,some b=>some (max a b)
 |_,_=>none
theorem BJ{a b:Option Int}{c:Int}(h:E5 a b=some c):∃x y,a=some x/\b=some y/\x<=c/\y<=c:=match a,b,h with
 |some x,some y,h=>⟨x,y,rfl,rfl,by cases h;lia,by cases h;lia⟩
theorem pY{e p:Rg}(k:kle e.1 p.1)(n:¬C3 e p){x:Int}:inR (e.1,E5 e.2 p.2) x↔inR e x\/inR p x:=by
 constructor
 · rintro⟨lo,hi⟩;by_cases hx:inR e x
   ·exact .inl hx
   ·refine .inr ?_;obtain⟨c,ec,hc⟩:∃c,e.2=some c/\c<x:=jz λz=>hx ⟨lo,λb eb=>Int.not_lt.mp λy=>z ⟨b,eb,y⟩⟩;refine⟨λd ed=>Int.not_lt.mp λy=>n ⟨c,d,ec,ed,by lia⟩,λb eb=>?_⟩;have:=hi (max c b) (by show E5 e.2 p.2=_;rw[ec,eb];rfl);lia
 · have hf:∀b,E5 e.2 p.2=some b->∃c d,e.2=some c/\p.2=some d/\c<=b/\d<=b:=λb=>BJ;rintro(h|h)
   ·refine⟨h.1,λb eb=>?_⟩;obtain⟨c,d,e1,e2,k1,k2⟩:=hf b eb;exact Yc (h.2 c e1) k1
   · refine⟨λa ea=>?_,λb eb=>?_⟩
     ·rw[show e.1=some a from ea]at k;obtain⟨c,ec,hc⟩:=VU k;exact Yc hc (h.1 c ec)
     ·obtain⟨c,d,e1,e2,k1,k2⟩:=hf b eb;exact Yc (h.2 d e2) k2
structure Mg(ds Fw rest:List Rg):Prop where
 can:Can Fw
 ok:∀p∈rest,okR p
 ord:rest.Pairwise λp q=>kle p.1 q.1
 le:∀e∈Fw,∀p∈rest,kle e.1 p.1
 same:∀x,inS ds x↔inS Fw x\/inS rest x
 len:Fw.length+rest.length<=ds.length
theorem Mg.start{ds l:List Rg}(h:∀p∈ds,okR p)(pm:l.Perm ds)(o:l.Pairwise λp q=>kle p.1 q.1):Mg ds [] l:=
 ⟨⟨λ_ h=>(nomatch h),.nil⟩,λp hp=>h p (pm.mem_iff.mp hp),o,λ_ h=>(nomatch h),λx=>⟨fun⟨p,hp,k⟩=>.inr ⟨p,pm.mem_iff.mpr hp,k⟩,λz=>z.elim (λz=>absurd z P6) fun⟨p,hp,k⟩=>⟨p,pm.mem_iff.mp hp,k⟩⟩,by rw[pm.length_eq];simp⟩
theorem Mg.new{ds Fw rest:List Rg}{p:Rg}(h:Mg ds Fw (p::rest))(c:∀t e,Fw=t++[e]->C3 e p):Mg ds (Fw++[p]) rest:=by
 have o:=yP.mp h.ord;refine⟨h.can.snoc (h.ok p (zr ..)) λr hr=>?_,λq hq=>h.ok q (zk _ hq),o.2,λe he q hq=>?_,λx=>?_,?_⟩
 · have Gg:Fw≠ []:=Jx hr;obtain⟨t,e,rfl⟩:∃(t:List Rg) (e:Rg),Fw=t++[e]:=⟨_,_,(yx Gg).symm⟩;have ce:=c t e rfl;rcases zU.mp hr with k|k
   ·obtain⟨a,b,e1,e2,k1⟩:=(jv.mp h.can.2).2.2 r k e (zA.mpr rfl);obtain⟨a',b',e3,e4,k2⟩:=ce;have:=h.can.1 e (zC _ (zA.mpr rfl)) b a' e2 e3;exact⟨a,b',e1,e4,by lia⟩
   ·rw[zA.mp k];exact ce
 · rcases zU.mp he with k|k
   ·exact h.le e k q (zk _ hq)
   ·rw[zA.mp k];exact o.1 q hq
 ·rw[h.same x,lD,v4 (p:=p) (l:=rest),v4 (p:=p) (l:= [])];have n0:¬inS [] x:=P6;exact⟨λz=>z.elim (λz=>.inl (.inl z)) λz=>z.elim (λz=>.inl (.inr (.inl z))) .inr,λz=>z.elim (λz=>z.elim .inl λz=>z.elim (λz=>.inr (.inl z)) λz=>absurd z n0) λz=>.inr (.inr z)⟩
 ·have:=h.len;simp only[zw,zf,jD]at this ⊢;lia
theorem Mg.join{ds t rest:List Rg}{e p:Rg}(h:Mg ds (t++[e]) (p::rest))(n:¬C3 e p):Mg ds (t++[(e.1,E5 e.2 p.2)]) rest:=by
 have o:=yP.mp h.ord;have he:=zC t (zA.mpr (rfl:e=e));have pw:=jv.mp h.can.2;refine⟨Can.snoc ⟨λq hq=>h.can.1 q (yc _ hq),pw.1⟩ (λa b ea eb=>?_) λr hr=>pw.2.2 r hr e (zA.mpr rfl),λq hq=>h.ok q (zk _ hq),o.2,λq hq r hr=>?_,λx=>?_,?_⟩
 ·obtain⟨c,d,e1,e2,k1,k2⟩:=BJ eb;exact Yc (h.can.1 e he a c ea e1) k1
 · rcases zU.mp hq with k|k
   ·exact h.le q (yc _ k) r (zk _ hr)
   ·rw[zA.mp k];exact h.le e he r (zk _ hr)
 · rw[h.same x,lD,lD,v4 (p:=p) (l:=rest),v4 (p:=e) (l:= []),v4 (p:=(e.1,E5 e.2 p.2)) (l:= []),pY (h.le e he p (zr ..)) n];have n0:¬inS [] x:=P6;exact⟨λz=>z.elim (λz=>z.elim (λz=>.inl (.inl z)) λz=>z.elim (λz=>.inl (.inr (.inl (.inl z)))) λz=>absurd z n0) λz=>z.elim (λz=>.inl (.inr (.inl (.inr z)))) .inr,
    λz=>z.elim (λz=>z.elim (λz=>.inl (.inl z)) λz=>z.elim (λz=>z.elim (λz=>.inl (.inr (.inl z))) λz=>.inr (.inl z)) λz=>absurd z n0) λz=>.inr (.inr z)⟩
 ·have:=h.len;simp only[zw,zf,jD]at this ⊢;lia
theorem Gr.ap{G G':DH}(h:Gr G G'):Ap G G':=by
 refine⟨G'.drop G.length,?_⟩;refine List.ext_getElem? λi=>?_;rcases ZZ i G.length with c|c
 ·rw[zt c];exact h.2 i c
 ·rw[jy c,List.getElem?_drop];congr 1;lia
theorem IP{i j:Int}{G:DH}{Q:DPP}:Wp (gtD (.int i) (.int j)) G Q↔Q (.bl (decide (i>j))) G:=d8
theorem SA{G:DH}{p q:Nat}{xs:List D}{Q:DPP}(e:G[p]? =some (.lst xs))(eq:G[q]? =some (.lst [])):Wp (neD (.ref p) (.ref q)) G Q↔Q (.bl (!xs.isEmpty)) G:=by
 have h:eqN 40 G (.ref p) (.ref q)=some xs.isEmpty:=by
  have h1:V4 G (.ref p)=some (false,xs):=by simp only[V4,e]
  have h2:V4 G (.ref q)=some (false, []):=by simp only[V4,eq]
  rw[OD];rw[h1,h2];rcases xs with _|⟨_,_⟩
  ·rfl
  ·rfl
 exact SG (show neD (.ref p) (.ref q) G=_ from by unfold neD;rw[h])
theorem eN{r:Nat}{l:List D}{k:Int}{j:Nat}{a b:Fe}{σ:DSt}{d:D}{G:DH}{S:DSt->DH->Prop}(ha:a σ G=some (.ok (.ref r),G))(hb:b σ G=some (.ok (.int k),G))(e:G[r]? =some (.lst l))(hj:ixN l.length k=some j)(q:S σ (G.set r (.lst (l.set j d)))):Wp (uA a b d σ) G S:=KR.mpr (b8 ha (b8 hb ((GS e hj).mpr q)))
theorem iD{G:DH}{p:Nat}{l:List D}{lo hi:Option Int}{Q:DPP}(e:G[p]? =some (.lst l)):Wp (slT (.ref p) lo hi) G Q↔Q (.ref G.length) (G++[.lst (DL.cutD l lo hi)]):=US e
section
variable{a b:Fe}{t:DSt->M Bool}{f g:Fs}{σ:DSt}{G G1:DH}{Q:DPP}{P:Fl->DH->Prop}{B:Bool->DH->Prop}
theorem lH(e:a σ G=some (.ok (.bl true),G1))(w:Wp (b σ) G1 Q):Wp (S2 a b σ) G Q:=RJ.mpr (b8 e (O5.mpr (by rw[if_pos rfl];exact w)))
theorem dR(w:Wp (a σ) G λx G1=>x= .bl true/\Wp (b σ) G1 Q):Wp (S2 a b σ) G Q:=RJ.mpr (w.mono λx G1 q=>by obtain⟨rfl,q⟩:=q;exact O5.mpr (by rw[if_pos rfl];exact q))
theorem nA(w:Wp (a σ) G λx G1=>x= .bl true/\B true G1):Wp (truthE a σ) G B:=a9.mpr (w.mono λx G1 q=>by obtain⟨rfl,q⟩:=q;exact O5.mpr q)
end
def rD(p:Rg):D:=.tup [J8 p.1,J8 p.2]
def rsD(l:List Rg):List D:=l.map rD
theorem D9(l:List Rg):(rsD l).length=l.length:=zn ..
theorem KG(l:List Rg)(p:Rg):rsD (l++[p])=rsD l++[rD p]:=jk ..
section
variable{a b:Fe}{t:DSt->M Bool}{f g:Fs}{σ:DSt}{G G1:DH}{Q:DPP}{P:Fl->DH->Prop}{B:Bool->DH->Prop}
theorem MB(w:Wp (a σ) G λx G1=>x= .bl false/\B false G1):Wp (truthE a σ) G B:=a9.mpr (w.mono λx G1 q=>by obtain⟨rfl,q⟩:=q;exact O5.mpr q)
end
theorem pQ:sE=seqS (G9 d0 Q2) (seqS (U5 RT RB) (o8 C0)):=rfl
section
variable{T:Str}{G:DH}{Q:DPP}
theorem GL{pre rest:List Nat}{c:Nat}(h:tl T=pre++c::rest)(hz:T.length<=zi)(q:Q (.str ⟨#[c]⟩) G):Wp (ixD (.str T) (.int (pre.length:Int))) G Q:=by
 have e:ixD (.str T) (.int (pre.length:Int))=if T.length<=zi then (do
  let c <-N0 (atI T.cps.toList (pre.length:Int))
  pure (.str ⟨#[c]⟩):M D)else M.stuck:=rfl
 rw[e,if_pos hz];refine d9.mpr<| n9.mpr ⟨c,?_,d8.mpr q⟩;have hl:(tl T).length=pre.length+(c::rest).length:=by rw[h,zf]
 show atI (tl T) (pre.length:Int)=some c;unfold atI ixN;simp only[zw]at hl;rw[if_pos (by lia),if_pos (by lia)];simp only[xb,Jv,h];rw[jy (zh _),XB];rfl
def HA(lo hi:Nat)(rest:List Nat):Prop:=∀c r,rest=c::r->¬(lo<=c/\c<=hi)
theorem SK{lo hi:Nat}{a1:Option D}(hz:T.length<=zi):∀(run pre rest:List Nat) (n:Nat),run.length<=n->tl T=pre++run++rest->(∀c∈run,lo<=c/\c<=hi)->HA lo hi rest->
 Wp (J7 (n+1) RT RB [some (.str T),a1,some (.str ⟨#[lo]⟩),some (.str ⟨#[hi]⟩),some (.int (pre.length:Int))]) G λfl G'=>G'=G/\fl= .nx [some (.str T),a1,some (.str ⟨#[lo]⟩),some (.str ⟨#[hi]⟩),some (.int ((pre.length:Int)+run.length))]
 |[],pre,rest,n,hn,h,hr,ho=>by
   rw[jt]at h;have hl:T.length=pre.length+rest.length:=by rw[<-dA,h,zf]
   refine R9.mpr ?_;refine(show Wp (RT _) G λk G1=>k=false/\G1=G from ?_).mono ?_
   · refine A5<| u6<| bin_w<| b8 (a:=.int (pre.length:Int)) (G':=G) rfl<| T8 (as:= [.str T]) rfl<| (SE hz).mpr<| lt_int.mpr ⟨_,rfl,λk=>?_,λk=>⟨rfl,rfl⟩⟩;have k:=of_decide_eq_true k;rcases rest with _|⟨c,r⟩
     ·simp at hl;lia
     · have nc:=ho c r rfl;refine u6<| uJ.mpr<| b8 (a:=.str ⟨#[lo]⟩) (G':=G) rfl<| bin_w<| b8 (a:=.str T) (G':=G) rfl<| b8 (a:=.int (pre.length:Int)) (G':=G) rfl<| GL h hz<| sD.mpr ⟨_,rfl,?_⟩;by_cases h1:lo<=c
       ·rw[decide_eq_true h1,if_pos rfl];refine b8 (a:=.str ⟨#[hi]⟩) (G':=G) rfl<| sD.mpr ⟨_,rfl,?_,rfl⟩;exact decide_eq_false λh2=>nc ⟨h1,h2⟩
       ·rw[decide_eq_false h1,if_neg zv];exact⟨_,rfl,rfl,rfl⟩
   ·rintro _ _ ⟨rfl,rfl⟩;rw[if_neg zv];exact⟨rfl,by simp⟩
 |c::r,pre,rest,n,hn,h,hr,ho=>by
   obtain⟨m,rfl⟩:∃m,n=m+1:=⟨n-1,by simp at hn;lia⟩;have hc:=hr c (zr ..);have h':tl T=pre++c::(r++rest):=by rw[h,zD];rfl
   have hl:T.length=pre.length+(c::(r++rest)).length:=by rw[<-dA,h',zf]
   refine R9.mpr ?_;refine(show Wp (RT _) G λk G1=>k=true/\G1=G from ?_).mono ?_
   · refine A5<| u6<| bin_w<| b8 (a:=.int (pre.length:Int)) (G':=G) rfl<| T8 (as:= [.str T]) rfl<| (SE hz).mpr<| lt_int.mpr ⟨_,rfl,λ_=>?_,λk=>?_⟩
     ·refine u6<| uJ.mpr<| b8 (a:=.str ⟨#[lo]⟩) (G':=G) rfl<| bin_w<| b8 (a:=.str T) (G':=G) rfl<| b8 (a:=.int (pre.length:Int)) (G':=G) rfl<| GL h' hz<| sD.mpr ⟨_,rfl,?_⟩;rw[decide_eq_true hc.1,if_pos rfl];exact b8 (a:=.str ⟨#[hi]⟩) (G':=G) rfl<| sD.mpr ⟨_,rfl,decide_eq_true hc.2,rfl⟩
     ·have k:=of_decide_eq_false k;simp at hl;lia
   ·rintro _ G1 ⟨rfl,eG⟩;rw[if_pos rfl,eG];clear eG;refine b8 (a:=.nx [some (.str T),a1,some (.str ⟨#[lo]⟩),some (.str ⟨#[hi]⟩),some (.int ((pre.length:Int)+1))]) rfl ?_;have ih:=SK (a1:=a1) hz r (pre++[c]) rest m (by simp at hn;lia) (by rw[h];simp) (λc hc=>hr c (zk _ hc)) ho;rw[zf]at ih;refine(show Wp (J7 (m+1) RT RB [some (.str T),a1,some (.str ⟨#[lo]⟩),some (.str ⟨#[hi]⟩),some (.int ((pre.length:Int)+1))]) G _ from ih).mono ?_;rintro _ _ ⟨rfl,rfl⟩;refine⟨rfl,?_⟩;rw[zw];congr 6;simp;lia
theorem NC{lo hi:Nat}{pre run rest:List Nat}{at':Int}(hz:T.length<=zi)(ha:at'=pre.length)(h:tl T=pre++run++rest)(hr:∀c∈run,lo<=c/\c<=hi)(ho:HA lo hi rest)(q:Q (.int ((pre.length:Int)+run.length)) G):
 Wp (UA [.str T,.int at',.str ⟨#[lo]⟩,.str ⟨#[hi]⟩]) G Q:=by
 subst ha;refine m9 (show Wp (sE [some (.str T),some (.int pre.length),some (.str ⟨#[lo]⟩),some (.str ⟨#[hi]⟩),none]) G _ from ?_);rw[pQ];refine o7 (G':=G) rfl<| f9.mpr<| vB (n:=run.length+1)<| (SK hz run pre rest _ (zh _) h hr ho).mono ?_;rintro _ _ ⟨rfl,rfl⟩;exact o9<| b8 rfl<| o4 q
theorem M5{p:Str}{i:Int}{a b c:Fe}{σ:DSt}(ha:a σ G=some (.ok (.str T),G))(hb:b σ G=some (.ok (.str p),G))(hc:c σ G=some (.ok (.int i),G))(q:Q (.bl (W9 T p i)) G):Wp (mtE isStrM startsD a (H0 b c) σ) G Q:=
 B4.mpr<| b8 ha<| gE.mpr<| cN hb<| cN hc<| w5.mpr<| b8 (a:=.bl (W9 T p i)) rfl q
end
section
variable{T:Str}{G:DH}{Q:DPP}
theorem KN{i:Int}(h:smI i)(q:Q (.int i) G):Wp (C9 [.str (ofL (nmL i))]) G Q:=by have e:C9 [.str (ofL (nmL i))]= (match Xs (ofL (nmL i)) with|some n=>if (ofL (nmL i)).length<=640 then pure (.int n)else M.stuck|none=>M.stuck:M D):=rfl;have hl:=V5 h;rw[e,oV h];show Wp (if (ofL (nmL i)).length<=640 then pure (.int i)else M.stuck:M D) G Q;rw[if_pos (show (ofL (nmL i)).length<=640 from zP hl (by decide))];exact d8.mpr q
theorem eJ{i:Int}{pre post ds:List Nat}{st:Int}(hz:T.length<=zi)(hi:smI i)(h:tl T=pre++nmL i++post)(en:(pre.length:Int)+(nmL i).length=st+ds.length)(hd:ds≠ [])(h40:ds.length<=40)(h0:(W9 T ("0" :Str) st=false)\/(nmL i).length=1)
 (q:Q (.tup [.int i,.int ((pre.length:Int)+(nmL i).length)]) G):
 Wp (seqS (ifS (orT (tBn eqD y0 i0) (tBn gtD (j6 E6 y0 i0) (cIn 40))) stuckS nextS) (seqS (ifS (Q1 (truthE (mtE isStrM startsD c0 (H0 (cSt "0") i0))) (tBn gtD (j6 E6 y0 d0) g0)) stuckS nextS) (o8 (F0 (z0 C9 (X3 c0 (O2 d0) (O2 y0))) y0))) [some (.str T),some (.int pre.length),some (.int st),some (.int (st+ds.length))]) G (PB Q):=by
 have hp:0<ds.length:=Zu.mpr hd;refine f9.mpr<| M3<| sF<| u6<| bin_w<| b8 (a:=.int (st+ds.length)) (G':=G) rfl<| b8 (a:=.int st) (G':=G) rfl<| P5.mpr ⟨_,rfl,λk=>?_,λ_=>u6<| bin_w<| bin_w<| b8 (a:=.int (st+ds.length)) (G':=G) rfl<| b8 (a:=.int st) (G':=G) rfl<| OB.mpr<| b8 (a:=.int 40) (G':=G) rfl<| A9.mpr ⟨_,rfl,λk=>?_,λ_=>u5.mpr ?_⟩⟩
 ·have:=of_decide_eq_true k;lia
 ·have:=of_decide_eq_true k;lia
 · have fin:Wp (o8 (F0 (z0 C9 (X3 c0 (O2 d0) (O2 y0))) y0) [some (.str T),some (.int pre.length),some (.int st),some (.int (st+ds.length))]) G (PB Q):=by
    refine o9<| D4.mpr<| o6<| N5<| o6<| lB.mpr<| b8 (a:=.str T) (G':=G) rfl<| b8 (a:=some (pre.length:Int)) (G':=G) rfl<| b8 (a:=some (st+ds.length)) (G':=G) rfl<| (HY hz).mpr<| w5.mpr ?_;rw[<-en,MQ h];refine KN hi<| b8 (a:= [.int ((pre.length:Int)+(nmL i).length)]) (G':=G) (by rw[en];rfl) ⟨sz,o4 q⟩
   refine f9.mpr<| M3<| A5<| a9.mpr<| M5 (G:=G) (i:=st) (p:=("0" :Str)) rfl rfl rfl<| O5.mpr ⟨λk=>?_,λ_=>⟨λz=>(nomatch z),λ_=>u5.mpr fin⟩⟩;rcases h0 with h0|h0
   ·rw[h0]at k;cases k
   ·exact u6<| bin_w<| bin_w<| b8 (a:=.int (st+ds.length)) (G':=G) rfl<| b8 (a:=.int pre.length) (G':=G) rfl<| OB.mpr<| b8 (a:=.int 1) (G':=G) rfl<| A9.mpr ⟨_,rfl,λk=>(by have:=of_decide_eq_true k;lia),λ_=>u5.mpr fin⟩
theorem sK{i:Int}{pre post:List Nat}(hz:T.length<=zi)(hi:smI i)(h:tl T=pre++nmL i++post)(ho:HA 48 57 post)(q:Q (.tup [.int i,.int ((pre.length:Int)+(nmL i).length)]) G):Wp (S6 [.str T,.int pre.length]) G Q:=by
 have hl:=V5 hi;have hs:tl T=pre++(nmL i++post):=by rw[h,zD]
 refine m9 (show Wp (LG [some (.str T),some (.int pre.length),none,none]) G _ from ?_);rcases kC i with⟨m,rfl⟩|⟨m,hm,rfl⟩
 · have en:=nB m;have hb:W9 T ("-" :Str) (pre.length:Int)=false:=W6 hs (c:=45) (ps:= []) rfl λc r e=>by
    rw[en]at e;rcases k:dg m with _|⟨x,y⟩
    ·exact absurd k (g7 m)
    ·rw[k]at e;have e:=(jG e).1;have:=w8 m x (by rw[k];exact zr ..);lia
   refine f9.mpr<| v6<| vA.mpr<| MB<| M5 (G:=G) rfl rfl rfl ?_;rw[hb];refine⟨rfl,?_⟩;rw[if_neg zv];refine b8 (a:=.int pre.length) (G':=G) rfl<| f9.mpr<| v6<| j4 (as:= [.str T,.int pre.length,.str ⟨#[48]⟩,.str ⟨#[57]⟩]) rfl rfl<| NC hz rfl (by rw[h,en]) (w8 m) ho ?_;refine eJ (ds:=dg m) hz hi h (by rw[en]) (g7 m) (MW hi) ?_ q;rcases ZM m with rfl|hp
   ·exact .inr (by rw[en,rA (by decide)];rfl)
   · refine .inl<| W6 hs (c:=48) (ps:= []) rfl λc r e=>?_;obtain⟨x,y,k,h49⟩:=NG m hp;rw[en,k]at e
     cases e;lia
 · have en:=eC m hm;have hb:W9 T ("-" :Str) (pre.length:Int)=true:=V0 hs (r:=dg m++post) (by rw[en];rfl);refine f9.mpr<| v6<| vA.mpr<| nA<| M5 (G:=G) rfl rfl rfl ?_;rw[hb];refine⟨rfl,?_⟩;rw[if_pos rfl];have h1:tl T= (pre++[45])++dg m++post:=by rw[h,en];simp
   have e1:((pre++[45]).length:Int)= (pre.length:Int)+1:=by simp
   refine b8 (a:=.int ((pre.length:Int)+1)) (G':=G) rfl<| f9.mpr<| v6<| j4 (as:= [.str T,.int ((pre.length:Int)+1),.str ⟨#[48]⟩,.str ⟨#[57]⟩]) rfl rfl<| NC hz e1.symm h1 (w8 m) ho ?_;rw[e1];refine eJ (ds:=dg m) hz hi h (by rw[en,zw];lia) (g7 m) (DV hi) (.inl ?_) q;rw[<-e1];refine W6 (rest:=dg m++post) (by rw[h1,zD]) (c:=48) (ps:= []) rfl λc r e=>?_;obtain⟨x,y,k,h49⟩:=NG m hm;rw[k]at e
   cases e;lia
end
def clO:Option Int->Option Int->Bool
 |some a,some b=>decide (a+1<b)
 |_,_=>false
theorem qb{p r:Rg}{G:DH}{Q:DPP}(h:Q (.bl (clO p.2 r.1)) G):Wp (X6 [rD p,rD r]) G Q:=Z7 (d:=.bl (clO p.2 r.1)) (by
 obtain⟨_,a⟩:=p;obtain⟨b,_⟩:=r;rcases a with _|a
 ·rfl
 ·rcases b with _|b<;>rfl) h
theorem gI{p r:Rg}:clO p.2 r.1=true↔C3 p r:=by
 unfold C3;rcases p.2 with _|a
 ·exact⟨λh=>(nomatch h),fun⟨_,_,h,_⟩=>(nomatch h)⟩
 · rcases r.1 with _|b
   ·exact⟨λh=>(nomatch h),fun⟨_,_,_,h,_⟩=>(nomatch h)⟩
   ·exact⟨λh=>⟨a,b,rfl,rfl,of_decide_eq_true h⟩,fun⟨_,_,h1,h2,k⟩=>decide_eq_true (je h1▸je h2▸k)⟩
theorem u7{G:DH}{p:Nat}{o:DO}(e:G[p]? =some o):ckO p o G=true:=by unfold ckO;rw[e];simp
def U1:Option Int->Int×Int
 |none=>(0,0)
 |some a=>(1,a)
def kD(a:Option Int):D:=.tup [.int (U1 a).1,.int (U1 a).2]
theorem gT{p:Rg}{G:DH}{Q:DPP}(q:Q (kD p.1) G):Wp (v5 [rD p]) G Q:=Z7 (d:=kD p.1) (by obtain⟨a,_⟩:=p;rcases a with _|a<;>rfl) q
theorem eW{a b:Option Int}(h:c6 (U1 b) (U1 a)=false):kle a b:=by
 have h:=y9.mp h;rcases a with _|a
 ·trivial
 · rcases b with _|b
   ·simp only[U1]at h;lia
   ·simp only[U1]at h;show a<=b;lia
theorem HM{G:DH}:∀l:List Rg,M8 v5 (rsD l) G=some (.ok (l.map λp=>kD p.1),G)
 |[]=>rfl
 |p::r=>by have h1:noX (v5 [rD p]) G=some (.ok (kD p.1),G):=j3 (vD.mpr (gT ⟨rfl,rfl⟩));show (do let k <-noX (v5 [rD p]);let ks <-M8 v5 (rsD r);pure (k::ks):M (List D)) G=_;rw[M.bind_ok h1,M.bind_ok (HM r)];rfl
theorem CH:∀l:List Rg,U8 (l.map λp=>kD p.1)=some (l.map λp=>U1 p.1)
 |[]=>rfl
 |p::r=>by show (match GB (kD p.1),U8 (r.map λp=>kD p.1) with|some a,some b=>some (a::b)|_,_=>none)=_;rw[CH r];rfl
theorem TN(l:List Rg):∃l':List Rg,l6 (l.map λp=>U1 p.1) (rsD l)=rsD l'/\l'.Perm l/\l'.Pairwise λp q=>kle p.1 q.1:=by
 obtain⟨pm,pw⟩:=lE (l.map λp=>U1 p.1) l.length;have lt:∀i∈M9 (l.map λp=>U1 p.1) l.length,i<l.length:=λi hi=>jW.mp (pm.mem_iff.mp hi);refine⟨(M9 (l.map λp=>U1 p.1) l.length).map λi=>l.getD i (none,none),?_,?_,?_⟩
 ·unfold l6 rsD;rw[zn,jM];refine yh λi hi=>?_;have:=lt i hi;simp[zj,this]
 · have e:(zJ l.length).map (λi=>l.getD i (none,none))=l:=by
    apply yj
    ·simp
    ·intro i hi hj;simp[hj]
   have:=pm.map λi=>l.getD i ((none,none):Rg);rw[e]at this;exact this
 · refine xH.mpr (pw.imp_of_mem λ{i j} hi hj h=>eW ?_);have li:=lt i hi;have lj:=lt j hj;have ei:(l.map λp=>U1 p.1).getD i (0,0)=U1 (l.getD i (none,none)).1:=by simp[zj,li]
   have ej:(l.map λp=>U1 p.1).getD j (0,0)=U1 (l.getD j (none,none)).1:=by simp[zj,lj]
   unfold ltP at h;rw[ei,ej]at h;exact h
theorem UR{a:Nat}{l:List Rg}{G:DH}{σ:DSt}{f:Fe}{Q:DPP}(hf:f σ G=some (.ok (.ref a),G))(e:G[a]? =some (.lst (rsD l)))(hl:l.length<64)
 (q:∀l':List Rg,l'.Perm l->(l'.Pairwise λp q=>kle p.1 q.1)->Q (.ref G.length) (G++[.lst (rsD l')])):Wp (WA v5 f σ) G Q:=by
 obtain⟨l',e1,pm,pw⟩:=TN l;refine b8 (a:=.ref G.length) (G':=G++[.lst (rsD l')]) ?_ (q l' pm pw);show (do let x <-f σ;cC v5 x:M D) G=_;rw[M.bind_ok hf];show (do match <-J5 a with
  | .lst l=>if l.length<64 then B7 v5 l else M.stuck
  |_=>M.stuck:M D) G=_
 rw[M.bind_ok (show J5 a G=some (.ok (.lst (rsD l)),G) by unfold J5;rw[e])];show (if (rsD l).length<64 then B7 v5 (rsD l)else M.stuck:M D) G=_;rw[if_pos (by rw[D9];exact hl)];unfold B7;rw[M.bind_ok (HM l),M.bind_ok (show N0 (U8 (l.map λp=>kD p.1)) G=some (.ok (l.map λp=>U1 p.1),G) by rw[CH];rfl),e1];rfl
theorem CW{a b:Option Int}{G:DH}{Q:DPP}(q:Q (J8 (E5 a b)) G):Wp (U3 [J8 a,J8 b]) G Q:=by
 rcases a with _|a
 ·exact Z7 (d:=.non) rfl q
 · rcases b with _|b
   ·exact Z7 (d:=.non) rfl q
   · refine Z7 (d:=.int (if b>a then b else a)) rfl ?_;have:(if b>a then b else a)=max a b:=by split<;>lia
     rw[this];exact q
theorem iU:X7=seqS (G9 (U9 o0) I0) (seqS (A3 (itW (WA v5 c0)) S0 JB) (o8 (z0 S3 d0))):=rfl
section
variable{ds:List Rg}{c:Nat}{a0:Option D}
theorem Dc{Fw rest:List Rg}{p:Rg}{G:DH}(M:Mg ds Fw (p::rest))(e:G[c]? =some (.lst (rsD Fw)))(hl:ds.length<10000):
 Wp (JB [a0,sRf c,some (rD p)]) G λfl G'=>fl= .nx [a0,sRf c,some (rD p)]/\∃Gb o,Mg ds Gb rest/\G'=G.set c o/\G'[c]? =some (.lst (rsD Gb)):=by
 have bg:=big;have ln:=M.len;simp only[zw]at ln;have new:(∀t e,Fw=t++[e]->C3 e p)->Wp ((i3 (mtE K1 K7 d0 (E1 (F0 (ixE i0 l0) (ixE i0 g0))))) [a0,sRf c,some (rD p)]) G λfl G'=>fl= .nx [a0,sRf c,some (rD p)]/\∃Gb o,Mg ds Gb rest/\G'=G.set c o/\G'[c]? =some (.lst (rsD Gb)):=λhc=>by refine QA.mpr<| B4.mpr<| b8 (a:=.ref c) rfl<| (U4 e).mpr<| b8 (a:= [rD p]) (G':=G) rfl<| (dC e (by rw[D9];lia)).mpr ⟨rfl,_,_,M.new hc,rfl,?_⟩;rw[jg (lt_of_get e),KG]
 refine M3<| A5<| a9.mpr<| b8 (a:=.ref c) (G':=G) rfl<| (iY e).mpr ⟨λh=>?_,λh=>⟨λz=>(nomatch z),λ_=>new λt x z=>?_⟩⟩
 · have Gg:Fw≠ []:=by rintro rfl;cases h
   clear h;obtain⟨t,x,rfl⟩:∃(t:List Rg) (x:Rg),Fw=t++[x]:=⟨_,_,(yx Gg).symm⟩;have e':=e;rw[KG]at e';have ix:∀ {Q:DPP},Q (rD x) G->Wp (j6 ixD d0 (unE A2 g0) [a0,sRf c,some (rD p)]) G Q:=λq=>bin_w<| b8 (a:=.ref c) rfl<| b8 (a:=.int (-1)) rfl<| (QD e').mpr ⟨_,aM _ _,q⟩;refine L6.mpr<| a9.mpr<| N5<| o6<| ix<| b8 (a:= [rD p]) (G':=G) rfl<| N4.mpr ⟨rfl,qb<| O5.mpr ⟨λh=>?_,λh=>new λt' x' z=>?_⟩⟩
   · have nc:¬C3 x p:=λk=>by rw[gI.mpr k]at h;cases h
     refine l7.mpr<| D4.mpr<| o6<| bin_w<| ix<| b8 (a:=D.int 0) (G':=G) rfl<| (ix_tup (l:= [J8 x.1,J8 x.2]) (i:=0)).mpr ⟨J8 x.1,rfl,o6<| N5<| o6<| bin_w<| ix<| b8 (a:=D.int 1) (G':=G) rfl<| (ix_tup (l:= [J8 x.1,J8 x.2]) (i:=1)).mpr ⟨J8 x.2,rfl,b8 (a:= [J8 p.2]) (G':=G) rfl<| N4.mpr ⟨rfl,CW<| w5.mpr ⟨sz,?_⟩⟩⟩⟩;refine eN (k:= -1) rfl rfl e' (j:=(rsD t).length) ?_ ⟨rfl,_,_,M.join nc,rfl,?_⟩
     ·unfold ixN;rw[if_neg (by lia),if_pos (by simp;lia)];congr 1;simp;lia
     ·rw[jg (lt_of_get e),KG,XD _ _ (zh _),XB];rfl
   · obtain⟨rfl,h2⟩:=Yo z rfl
     cases h2
     exact gI.mp (by simpa using h)
 · rw[z]at h
   cases t<;>cases h
theorem KI{q:Nat}{L:List D}(hq:q≠c):∀(rest Fw:List Rg) (u:Option D) (G:DH),Mg ds Fw rest->G[c]? =some (.lst (rsD Fw))->G[q]? =some (.lst L)->ds.length<10000->
 Wp (M0 S0 JB (ckO q (.lst L)) (rsD rest) [a0,sRf c,u]) G λfl G'=>(∃u,fl= .nx [a0,sRf c,u])/\∃Gb,Mg ds Gb []/\G'[c]? =some (.lst (rsD Gb))/\G.length<=G'.length/\∀i,i≠c->i<G.length->G'[i]? =G[i]?
 |[],Fw,u,G,M,e,eq,hl=>EA.mpr ⟨u7 eq,⟨u,rfl⟩,Fw,M,e,zh _,λ_ _ _=>rfl⟩
 |p::r,Fw,u,G,M,e,eq,hl=>by refine Z4.mpr ⟨u7 eq,O6.mpr<| (Dc M e hl).mono ?_⟩;rintro _ G1 ⟨rfl,Gb,o,M',rfl,e1⟩;refine(KI hq r Gb _ _ M' e1 (by rw[zY (Ne.symm hq)];exact eq) hl).mono ?_;rintro _ G2 ⟨⟨u,rfl⟩,acc2,M2,e2,l2,f2⟩;rw[xk]at l2;exact⟨⟨u,rfl⟩,acc2,M2,e2,l2,λi hi h=>by rw[f2 i hi (by rw[xk];exact h),zY (Ne.symm hi)]⟩
end
def nC(l due:List Rg):Prop:=Can due/\∀x,inS due x↔inS l x
theorem cY{l:List Rg}{a:Nat}{G:DH}{Q:DPP}(ok:∀p∈l,okR p)(e:G[a]? =some (.lst (rsD l)))(hl:l.length<64)
 (q:∀met G',nC l met->met.length<=l.length->Ap G G'->Q (.tup (rsD met)) G'):Wp (Z6 [.ref a]) G Q:=by
 refine m9 (show Wp (X7 [sRf a,none,none]) G _ from ?_);rw[iU];refine o7 (X1:= [sRf a,some (.ref G.length),none]) (G':=G++[.lst []]) rfl<| f9.mpr<| C8.mpr<| wp_itW.mpr<| UR (a:=a) rfl (v9 e) hl λl' pm pw=>?_;have Gg:(G++[DO.lst []]).length≠G.length:=by simp
 refine(UC j9).mpr<| (KI (ds:=l) Gg l' [] none _ (Mg.start ok pm pw) (v9 j9) j9 (by lia)).mono ?_;rintro _ G1 ⟨⟨u,rfl⟩,met,M,e1,l1,f1⟩;refine o9<| T8 (as:= [.ref G.length]) rfl<| (EC e1).mpr<| o4<| q met G1 ⟨M.can,λx=>?_⟩ (by have:=M.len;simpa using this) (Gr.ap ⟨?_,λi hi=>?_⟩)
 ·rw[M.same x];exact⟨.inl,λz=>z.elim id λz=>absurd z P6⟩
 ·simp only[zf]at l1;lia
 ·rw[f1 i (by lia) (by simp;lia),zD,zt hi]
def Dr(G:DH)(r:Nat):Prop:=∃ns:List Nat,G[r]? =some (.lst (ns.map λn:Nat=>D.int (n:Int)))
def Fd(r:Nat)(G G':DH):Prop:=G.length<=G'.length/\(∀i,i≠r->i<G.length->G'[i]? =G[i]?)/\Dr G' r
theorem Dr.lt{G:DH}{r:Nat}(h:Dr G r):r<G.length:=by obtain⟨ns,hr⟩:=h;exact lt_of_get hr
theorem Dr.app{G t:DH}{r:Nat}(h:Dr G r):Dr (G++t) r:=by obtain⟨ns,hr⟩:=h;exact⟨ns,v9 hr⟩
theorem Fd.refl{r:Nat}{G:DH}(h:Dr G r):Fd r G G:=⟨zh _,λ_ _ _=>rfl,h⟩
theorem Fd.trans{r:Nat}{G G1 G2:DH}(h:Fd r G G1)(k:Fd r G1 G2):Fd r G G2:=
 ⟨zP h.1 k.1,λi hi hl=>by rw[k.2.1 i hi (by have:=h.1;lia),h.2.1 i hi hl],k.2.2⟩
theorem Fd.app{r:Nat}{G t:DH}(h:Dr G r):Fd r G (G++t):=⟨by simp,λi _ hl=>zt hl,h.app⟩
theorem Fd.at{r p:Nat}{G G':DH}{o:DO}(h:Fd r G G')(hp:p≠r)(e:G[p]? =some o):G'[p]? =some o:=by rw[h.2.1 p hp (lt_of_get e)];exact e
theorem Dr.set{G:DH}{r p:Nat}{o:DO}(h:Dr G r)(hp:p≠r):Dr (G.set p o) r:=by obtain⟨ns,hr⟩:=h;exact⟨ns,by rw[zY hp];exact hr⟩
theorem Fd.put{r p:Nat}{G G':DH}{o:DO}(h:Fd r G G')(hp:G.length<=p)(hr:p≠r):Fd r G (G'.set p o):=
 ⟨by rw[xk];exact h.1,λi hi hl=>by rw[zY (by lia)];exact h.2.1 i hi hl,h.2.2.set hr⟩
theorem P7{r:Nat}{m:Int}{G:DH}{Q:DPP}(h:Dr G r)(hm:0<m)(q:∀k:Int,0<=k->k<m->∀G',Fd r G G'->Q (.int k) G'):Wp (u0 [.ref r,.int m]) G Q:=by
 have h':=h;obtain⟨ns,hr⟩:=h';have s0:([D.ref r,D.int m].map some++jV (2 - [D.ref r,D.int m].length) none:DSt)= [sRf r,some (.int m)]:=rfl;unfold u0 VF;simp only[VE,s0,f9,vH,AB,MC,D6,WG,B4,F7,w5,C5,L5,u5,ja,exists_eq_left',zL,zV];refine⟨sz,?_⟩;have e1:=v9 (t:= [DO.lst []]) hr;rw[GW e1 j9];refine⟨_,rfl,?_⟩
 cases ns with
 |nil=>
   simp only[xp,List.isEmpty_nil,if_true];exact q 0 (by lia) hm _ (Fd.app h)
 |cons n t=>
   simp only[zN,List.isEmpty_cons,zS,if_false];rw[U4 e1,hZ e1,R5 hm];refine q _ (jo _ (by lia)) (jY _ hm) _ ⟨by simp,λi hi hl=>?_,t,?_⟩
   ·rw[zY (Ne.symm hi),zt hl]
   ·rw[jg (lt_of_get e1)]
theorem mU{r:Nat}{G:DH}{n:Int}{ds:List D}{Q:DPP}(h:Dr G r)(hn:(ds.length:Int)=n)(h0:0<n)(q:∀d∈ds,∀G',Fd r G G'->Q d G'):
 Wp (u0 [.ref r,.int n]) (G++[.lst ds]) λy G2=>Wp (ixD (.ref G.length) y) G2 Q:=by
 refine P7 h.app h0 λk h3 h4 G2 f2=>?_;have Gg:G.length≠r:=by have:=h.lt;lia
 have hg:=f2.at Gg (o:=.lst ds) BK;rw[QD hg];obtain⟨d,hd,e⟩:=kq (l:=ds) h3 (by lia);exact⟨d,e,q d hd G2 ((Fd.app h).trans f2)⟩
theorem NT:V6=seqS (G9 (D0 u0 c0 rM) I0) (seqS N1 (seqS N2 (asQ l0 C2 (seqS (A3 (L7 (E1 mK)) Q2 NB) N3)))):=rfl
def S9(i:Int):Prop:= -100000000000000000000<=i/\i<=100000000000000000000
theorem qL{r:Nat}{w u:Option D}:∀(items:List D) (l B:Int) (v:Option D) (G:DH),Dr G r->0<=l->l<B->
 Wp (M0 Q2 NB (λ_=>true) items [sRf r,w,u,some (.int l),v]) G λfl G'=>Fd r G G'/\∃l' v',fl= .nx [sRf r,w,u,some (.int l'),v']/\0<=l'/\l'<B*1000 ^ items.length
 |[],l,B,v,G,h,h0,h1=>EA.mpr ⟨rfl,Fd.refl h,l,v,rfl,h0,by simpa using h1⟩
 |d::t,l,B,v,G,h,h0,h1=>by refine Z4.mpr ⟨rfl,O6.mpr<| v6<| bin_w<| bin_w<| b8 (a:=.int l) (G':=G) rfl<| b8 (a:=.int 1000) (G':=G) rfl<| (Q3 (Or.inr ⟨by lia,by lia⟩)).mpr<| j4 (as:= [.ref r,.int 1000]) rfl rfl<| P7 h (by decide) λk k0 k1 G1 f1=>x9.mpr ?_⟩;refine Wp.mono (qL t (l*1000+k) (B*1000) (some d) G1 f1.2.2 (by lia) (by lia)) λfl G2 ⟨f2,l',v',e,q0,q1⟩=>⟨f1.trans f2,l',v',e,q0,?_⟩;rw[zw,Int.pow_succ,Int.mul_comm (1000 ^ _) 1000,<-Int.mul_assoc];exact q1
theorem FL{r:Nat}{G:DH}(h:Dr G r):Wp (Q8 [.ref r]) G λx G'=>∃i,x= .int i/\S9 i/\Fd r G G':=by
 refine m9 (show Wp (V6 [sRf r,none,none,none,none]) G _ from ?_);rw[NT];refine f9.mpr<| v6<| j4 (as:= [.ref r,.int 8]) rfl rfl<| P7 h (by decide) λw w0 w1 G1 f1=>?_;refine f9.mpr<| M3<| u6<| bin_w<| b8 (a:=.int w) (G':=G1) rfl<| b8 (a:=.int 5) (G':=G1) rfl<| lt_int.mpr ⟨_,rfl,λk=>?_,λk=>u5.mpr ?_⟩
 · refine f9.mpr<| v6<| j4 (as:= [.ref r,.int 40]) rfl rfl<| P7 f1.2.2 (by decide) λk k0 k1 G2 f2=>?_;have b1:0<=k % 2:=jo _ (by lia);have b2:k % 2<2:=jY _ (by lia);refine o9<| bin_w<| bin_w<| b8 (a:=.int k) (G':=G2) rfl<| b8 (a:=.int 2) (G':=G2) rfl<| (fB ⟨by decide,by decide⟩).mpr<| bin_w<| b8 (a:=.int 1) (G':=G2) rfl<| bin_w<| b8 (a:=.int 2) (G':=G2) rfl<| bin_w<| b8 (a:=.int k) (G':=G2) rfl<| b8 (a:=.int 2) (G':=G2) rfl<| (R5 (by decide)).mpr<| (Q3 (Or.inl ⟨by decide,by decide⟩)).mpr<| OB.mpr<| (Q3 (Or.inr ⟨by lia,by lia⟩)).mpr<| o4 ⟨_,rfl,?_,f1.trans f2⟩;unfold S9;have c:k % 2=0\/k % 2=1:=by lia
   rcases c with c|c<;>rw[c]<;>constructor<;>lia
 · have k:=of_decide_eq_false k;refine f9.mpr<| M3<| u6<| bin_w<| b8 (a:=.int w) (G':=G1) rfl<| b8 (a:=.int 5) (G':=G1) rfl<| P5.mpr ⟨_,rfl,λk=>?_,λk=>u5.mpr ?_⟩
   ·simp only[MC,D6,mM,WG,gA,F7,w5,C5,L5,N4,mD (show y4 10 20 by decide),p18,aK,OB,zL,zV,jI,jU,ja,exists_eq_left'];refine⟨sz,rfl,mU f1.2.2 rfl (by decide) λd hd G2 f2=>o4 ?_⟩;simp only[zz,zT,or_false]at hd;rcases hd with rfl|rfl|rfl|rfl<;>exact⟨_,rfl,by unfold S9;lia,f1.trans f2⟩
   · have k:=of_decide_eq_false k;refine f9.mpr<| v6<| b8 (a:=.int 0) (G':=G1) rfl<| f9.mpr<| C8.mpr<| KJ.mpr<| b8 (a:= [.int 6]) (G':=G1) rfl<| (AM ⟨by decide,by decide⟩).mpr ?_;refine Wp.mono (qL (V3 0 (6:Int).toNat) 0 1 none G1 f1.2.2 (by decide) (by decide)) λfl G2 ⟨f2,l,v,e2,q0,q1⟩=>?_;subst e2;have q1:l<1000000000000000000:=q1;refine o9<| bin_w<| bin_w<| bin_w<| b8 (a:=.int l) (G':=G2) rfl<| b8 (a:=.int 100) (G':=G2) rfl<| (Q3 (Or.inr ⟨by lia,by lia⟩)).mpr<| j4 (as:= [.ref r,.int 100]) rfl rfl<| P7 f2.2.2 (by decide) λk k0 k1 G3 f3=>x9.mpr<| bin_w<| b8 (a:=.int 13) (G':=G3) rfl<| bin_w<| b8 (a:=.int 2) (G':=G3) rfl<| b8 (a:=.int w) (G':=G3) rfl<| (Q3 (Or.inl ⟨by decide,by decide⟩)).mpr<| OB.mpr<| (Q3 (Or.inr ⟨by lia,by lia⟩)).mpr<| o4 ⟨_,rfl,?_,(f1.trans f2).trans f3⟩;unfold S9;have c:w=6\/w=7:=by lia
     rcases c with rfl|rfl<;>constructor<;>lia
def DL'(G:DH)(q L:Nat):Prop:=∃ns:List Nat,G[q]? =some (.lst (ns.map λn:Nat=>D.int (n:Int)))/\ns.length<=L
theorem TC{G:DH}{q L:Nat}{x:Int}{Q:DPP}(h:DL' G q L)(hL:L<=100000)(hx:0<=x)(k:∀o,DL' (G.set q o) q (L+1)->Q .non (G.set q o)):Wp (K7 (.ref q) [.int x]) G Q:=by have bg:=big;obtain⟨ns,e,hl⟩:=h;rw[dC e (by rw[zn];lia)];refine k _ ⟨ns++[x.toNat],?_,by simp;lia⟩;rw[jg (lt_of_get e),jk];have ex:((x.toNat:Nat):Int)=x:=JA hx;simp only[zN,xp,ex]
theorem rE{G:DH}{q L:Nat}{R:Unit->DH->Prop}(h:DL' G q L):Wp (K1 (.ref q)) G R↔R () G:=by obtain⟨ns,e,hl⟩:=h;exact U4 e
theorem LM{i j:Int}{G:DH}{Q:DPP}:Wp (geD (.int i) (.int j)) G Q↔Q (.bl (decide (i>=j))) G:=d8
theorem iZ{G:DH}{p:Nat}{l:List D}{i:Int}{Q:DPP}(e:G[p]? =some (.rol l)):Wp (ixD (.ref p) (.int i)) G Q↔∃d,atI l i=some d/\Q d G:=by
 have h:ixD (.ref p) (.int i)= (do
  let l <-J5 p >>= DL.listOf
  N0 (atI l i)):=rfl
 rw[h];simp only[d9,K4,e,Q5,DL.listOf,d8,n9]
theorem DZ:MF=seqS (G9 (U9 o0) I0) (seqS (A3 (L7 (E1 (L0 B8 (z0 S8 c0) (cIn 80)))) S0 DB) (o8 (X3 d0 (X4) (O2 (cIn 240))))):=rfl
section
variable{s:Option D}{q L:Nat}{k rest:Int}{u v:Option D}
def Fq(q:Nat)(G G':DH):Prop:=G.length<=G'.length/\∀i,i≠q->i<G.length->G'[i]? =G[i]?
theorem Fq.refl{G:DH}:Fq q G G:=⟨zh _,λ_ _ _=>rfl⟩
theorem Fq.trans{G G1 G2:DH}(h:Fq q G G1)(k:Fq q G1 G2):Fq q G G2:=⟨zP h.1 k.1,λi hi hl=>by rw[k.2 i hi (by have:=h.1;lia),h.2 i hi hl]⟩
theorem Fq.set{G:DH}{o:DO}:Fq q G (G.set q o):=⟨by simp,λi hi hl=>by rw[zY (Ne.symm hi)]⟩
theorem GN{G:DH}(h:DL' G q L)(hL:L<=90000)(hk:0<=k/\k<100)(hr:0<=rest):
 Wp (D1 [s,sRf q,some (.int k),some (.int rest),u,v]) G λfl G'=>Fq q G G'/\DL' G' q (L+3)/\∃u',fl= .nx [s,sRf q,some (.int k),some (.int rest),u',v]:=by
 unfold D1;have m1:j5 7919 k:=Or.inl ⟨by lia,by lia⟩;have m3:j5 40692 (k+7):=Or.inl ⟨by lia,by lia⟩;simp only[f9,l7,O6,QA,B4,D6,F7,w5,C5,L5,jI,jU,zL,zV,ja,exists_eq_left',Q3 m1,Q3 m3,x9,R5 (show (0:Int)<2147483647 by decide)];have b1:0<=(rest+7919*k+3) % 2147483647:=jo _ (by lia);rw[Q3 (Or.inr ⟨by decide,by decide⟩),R5 (by decide)];have b2:0<=(rest+7919*k+3) % 2147483647*48271 % 2147483647:=jo _ (by lia);have b3:(rest+7919*k+3) % 2147483647*48271 % 2147483647<2147483647:=jY _ (by lia);generalize (rest+7919*k+3) % 2147483647*48271 % 2147483647=a at *;rw[Q3 (Or.inl ⟨by lia,by lia⟩),R5 (by decide)];have c1:0<=a*a % 2147483629:=jo _ (by lia);have c2:a*a % 2147483629<2147483629:=jY _ (by lia);generalize a*a % 2147483629=c at *;rw[rE h,fB ⟨by decide,by decide⟩,R5 (by decide)];refine TC h (by lia) (jo _ (by decide)) λo1 h1=>?_;rw[rE h1,fB ⟨by decide,by decide⟩,R5 (by decide)];refine TC h1 (by lia) (jo _ (by decide)) λo2 h2=>?_;rw[x9,R5 (by decide)];have d1:0<=(c+40692*(k+7)) % 2147483587:=jo _ (by lia);have d2:(c+40692*(k+7)) % 2147483587<2147483587:=jY _ (by lia);generalize (c+40692*(k+7)) % 2147483587=e at *;rw[rE h2,Q3 (Or.inl ⟨by lia,by lia⟩),R5 (by decide),fB ⟨by decide,by decide⟩,R5 (by decide)];refine TC h2 (by lia) (jo _ (by decide)) λo3 h3=>?_;exact⟨(Fq.set.trans Fq.set).trans Fq.set,h3,_,rfl⟩
theorem SH:∀(j m:Nat) (rest:Int) (L:Nat) (G:DH),m+j=60->0<=rest->DL' G q L->L+j<=90000->
 Wp (J7 (j+1) WT1 WB1 [s,sRf q,some (.int k),some (.int rest),u,some (.int m)]) G λfl G'=>Fq q G G'/\DL' G' q (L+j)/\∃r' m',fl= .nx [s,sRf q,some (.int k),some (.int r'),u,some (.int m')]
 |0,m,rest,L,G,hm,hr,h,hL=>by
   rw[R9];unfold WT1;have c:¬((m:Int)<60):=by lia
   simp only[qF,AB,D6,C5,L5,LM,lt_int,GG,zL,zV,ja,exists_eq_left',c,decide_false];split
   ·simp only[zS,if_false];exact⟨Fq.refl,h,rest,m,rfl⟩
   ·simp only[zS,if_false];exact⟨Fq.refl,h,rest,m,rfl⟩
 |j+1,m,rest,L,G,hm,hr,h,hL=>by
   rw[R9];have c:((m:Int)<60):=by lia
   have et:Wp (WT1 [s,sRf q,some (.int k),some (.int rest),u,some (.int m)]) G λb G'=>b=decide (rest>=1000)/\G'=G:=by
    unfold WT1;simp only[qF,AB,D6,C5,L5,LM,lt_int,GG,zL,zV,ja,exists_eq_left',c,decide_true];by_cases cr:rest>=1000
    ·simp[cr]
    ·simp[cr]
   refine Wp.mono et λb G1 ⟨eb,eg⟩=>?_;subst eb eg;by_cases cr:rest>=1000
   · rw[if_pos (decide_eq_true cr)];unfold WB1;simp only[f9,l7,O6,QA,B4,D6,F7,w5,C5,L5,jI,jU,zL,zV,ja,exists_eq_left',rE h,R5 (show (0:Int)<1000 by decide),x9,fB (show (0:Int)<1000/\(1000:Int)<2 ^ 100 by decide)];refine TC h (by lia) (jo _ (by decide)) λo h1=>?_;refine Wp.mono (SH j (m+1) (rest / 1000) (L+1) (G1.set q o) (by lia) (by lia) h1 (by lia)) λfl G2 ⟨f2,h2,q2⟩=>⟨Fq.set.trans f2,?_,q2⟩;have e:L+(j+1)=L+1+j:=by lia
     rw[e];exact h2
   ·rw[if_neg (by simpa using cr)];obtain⟨ns,e,hl⟩:=h;exact⟨Fq.refl,⟨ns,e,by lia⟩,rest,m,rfl⟩
theorem Ff{G:DH}(h:DL' G q L)(hL:L<=80000)(hr:0<=rest):
 Wp (D2 [s,sRf q,some (.int k),some (.int rest),u,v]) G λfl G'=>Fq q G G'/\DL' G' q (L+60)/\∃r' v',fl= .nx [s,sRf q,some (.int k),some (.int r'),u,v']:=by
 unfold D2;simp only[f9,l7,O6,C5,jI,jU];refine vB (Wp.mono (SH 60 0 rest L G rfl hr h (by lia)) λfl G1 ⟨f1,h1,r',m',e⟩=>?_);exact⟨f1,h1,r',_,e⟩
theorem mZ{p:Nat}{ns:List Int}{i:Nat}{G:DH}(e:G[p]? =some (.rol (ns.map D.int)))(hi:i<ns.length)(hi2:i<100)(h:DL' G q L)(hL:L<=80000){t:Option D}:
 Wp (DB [sRf p,sRf q,some (.int i),t,u,v]) G λfl G'=>Fq q G G'/\DL' G' q (L+60)/\∃t' u' v',fl= .nx [sRf p,sRf q,some (.int i),t',u',v']:=by
 have ei:atI (ns.map D.int) (i:Int)=some (.int ns[i]):=atI_nat (by rw[jr,zq hi];rfl);unfold DB;simp only[f9,l7,O6,gA,D6,F7,w5,C5,L5,jI,jU,zL,zV,ja,exists_eq_left',iZ e,ei,gJ,vH,AB,p18,lt_int,GG];have hr:0<=(if ns[i]<0 then -ns[i]else ns[i]):=by split<;>lia
 generalize (if ns[i]<0 then -ns[i]else ns[i])=rest at *;split
 ·refine Wp.mono (GN h (by lia) ⟨by lia,by lia⟩ hr) λfl G1 ⟨f1,h1,u',ef⟩=>⟨f1,?_,_,_,_,ef⟩;obtain⟨ns,e,hl⟩:=h1;exact⟨ns,e,by lia⟩
 ·exact Wp.mono (Ff h hL hr) λfl G1 ⟨f1,h1,r',v',ef⟩=>⟨f1,h1,_,_,_,ef⟩
theorem iK{p:Nat}{ns:List Int}(hpq:p≠q):∀(is:List Nat) (L:Nat) (a t u v:Option D) (G:DH),G[p]? =some (.rol (ns.map D.int))->DL' G q L->(∀i∈is,i<ns.length/\i<100)->L+60*is.length<=80000->
 Wp (M0 S0 DB (λ_=>true) (is.map λi:Nat=>D.int (i:Int)) [sRf p,sRf q,a,t,u,v]) G λfl G'=>Fq q G G'/\DL' G' q 80000/\∃a t u v,fl= .nx [sRf p,sRf q,a,t,u,v]
 |[],L,a,t,u,v,G,e,h,hi,hL=>by rw[xp,EA];obtain⟨ns,e,hl⟩:=h;exact⟨rfl,Fq.refl,⟨ns,e,by simp at hL;lia⟩,a,t,u,v,rfl⟩
 |i::r,L,a,t,u,v,G,e,h,hi,hL=>by
   simp only[zw]at hL;have hi0:=hi i (by simp);rw[zN,Z4,O6];refine⟨rfl,?_⟩;simp only[jI,jU];refine Wp.mono (mZ e hi0.1 hi0.2 h (by lia)) λfl G1 ⟨f1,h1,t',u',v',ef⟩=>?_;subst ef;have e1:G1[p]? =some (.rol (ns.map D.int)):=by rw[f1.2 p hpq (lt_of_get e)];exact e
   exact Wp.mono (iK hpq r (L+60) _ _ _ _ G1 e1 h1 (λj hj=>hi j (by simp[hj])) (by lia)) λfl G2 ⟨f2,q2⟩=>⟨f1.trans f2,q2⟩
end
theorem PP(n:Nat):V3 0 n= (zJ n).map λi:Nat=>D.int (i:Int):=by unfold V3;apply yh;intro i _;simp
theorem wj{G:DH}{p:Nat}{l:List D}{Q:DPP}(e:G[p]? =some (.rol l)):Wp (S8 [.ref p]) G Q↔Q (.int l.length) G:=by unfold S8;simp only[d9,K4,e,Q5,d8]
theorem cQ{p:Nat}{ns:List Int}{G:DH}(e:G[p]? =some (.rol (ns.map D.int)))(hn:ns.length<=63):Wp (O8 [.ref p]) G λx G'=>∃r,x= .ref r/\Dr G' r:=by
 unfold O8;rw[DZ];have hp:=lt_of_get e;have s0:([D.ref p].map some++jV (6 - [D.ref p].length) none:DSt)= [sRf p,none,none,none,none,none]:=rfl;simp only[VE,s0,f9,l7,O6,WG,C8,KJ,gA,F7,w5,C5,L5,jI,jU,zL,zV,ja,exists_eq_left'];refine⟨sz,?_⟩;have e1:=v9 (t:= [DO.lst []]) e;rw[wj e1,VI];have hm:(if (80:Int)<((ns.map D.int).length:Int)then (80:Int)else ((ns.map D.int).length:Int))= (ns.length:Int):=by rw[zn,if_neg (by lia)]
 rw[hm,AM ⟨by lia,by lia⟩,xb];show Wp (M0 S0 DB (λ_=>true) (V3 0 ns.length) [sRf p,some (.ref G.length),none,none,none,none]) (G++[DO.lst []]) _;rw[PP];refine Wp.mono (iK (ns:=ns) (show p≠G.length by lia) (zJ ns.length) 0 none none none none _ e1 ⟨[],j9,by simp⟩ (λi hi=>⟨jW.mp hi,by have:=jW.mp hi;lia⟩) (by rw[yW];lia)) λfl G1 ⟨f1,h1,a,t,u,v,ef⟩=>?_;subst ef;obtain⟨ms,em,hl⟩:=h1;simp only[MC,lB,BL,vI,NP,C5,L5,zL,zV,ja,exists_eq_left'];rw[iD em];refine⟨_,rfl,ms.take 240,?_⟩;rw[j9];have:=VL (ms.map λn:Nat=>D.int (n:Int)) 240;rw[show (some (240:Int))=some ((240:Nat):Int)from rfl,this,List.map_take]
theorem CD{p:Nat}{l:List D}{G:DH}{Q:DPP}(e:G[p]? =some (.lst l)):Wp (S8 [.ref p]) G Q↔Q (.int (l.length:Int)) G:=by unfold S8;simp only[d9,K4,e,Q5,d8]
abbrev e30:Int:=1000000000000000000000000000000
abbrev e20:Int:=100000000000000000000
def pD(p:Int×Int):D:=.tup [.int p.1,.int p.2]
structure S7(p:Int×Int):Prop where
 le:p.1<=p.2
 lo:S9 p.1\/p.1= -e30
 hi:S9 p.2\/p.2=e30
theorem p20{G:DH}{Q:DPP}:Wp (T2 (.int 10) (.int 20)) G Q↔Q (.int e20) G:=mD (show y4 10 20 by decide)
theorem p30{G:DH}{Q:DPP}:Wp (T2 (.int 10) (.int 30)) G Q↔Q (.int e30) G:=mD (show y4 10 30 by decide)
theorem Db:Z1=seqS (G9 (U9 o0) I0) (seqS (U5 PT PBd) (o8 d0)):=rfl
section
variable{r c:Nat}{L:List D}{w low high:Int}{G:DH}
abbrev pS(r c:Nat)(low w high:Int):DSt:= [sRf r,sRf c,some (.int low),some (.int w),some (.int high)]
def PQ(r c:Nat)(L:List D)(w low:Int)(fl:Fl)(G':DH):Prop:=∃high,fl= .nx (pS r c low w high)/\S9 high/\low<=high/\Dr G' r/\G'[c]? =some (.lst L)
theorem pW(hc:c≠r)(h:Dr G r)(e:G[c]? =some (.lst L))(hl:S9 low)(hh:S9 high/\low<=high):Wp (P1 (pS r c low w high)) G (PQ r c L w low):=by
 unfold S9 at hl;refine M3<| u6<| bin_w<| b8 (a:=.int w) (G':=G) rfl<| b8 (a:=.int 5) (G':=G) rfl<| A9.mpr ⟨_,rfl,λ_=>?_,λ_=>u5.mpr ⟨high,rfl,hh.1,hh.2,h,e⟩⟩;refine v6<| N5<| o6<| bin_w<| b8 (a:=.int low) (G':=G) rfl<| j4 (as:= [.ref r,.int 4]) rfl rfl<| P7 h (by decide) λk k0 k1 G1 f1=>x9.mpr<| o6<| bin_w<| b8 (a:=.int 10) (G':=G1) rfl<| b8 (a:=.int 20) (G':=G1) rfl<| p20.mpr<| w5.mpr<| VI.mpr ⟨_,rfl,?_,?_,f1.2.2,f1.at hc e⟩
 ·unfold S9;split<;>lia
 ·split<;>lia
theorem TY(hc:c≠r)(h:Dr G r)(e:G[c]? =some (.lst L))(hl:S9 low)(hh:S9 high/\low<=high):Wp (P2 (pS r c low w high)) G (PQ r c L w low):=by
 refine M3<| u6<| bin_w<| b8 (a:=.int w) (G':=G) rfl<| b8 (a:=.int 9) (G':=G) rfl<| A9.mpr ⟨_,rfl,λ_=>?_,λ_=>u5.mpr ⟨high,rfl,hh.1,hh.2,h,e⟩⟩;refine v6<| N5<| o6<| b8 (a:=.int low) (G':=G) rfl<| o6<| j4 (as:= [.ref r]) rfl rfl<| (FL h).mono λx G1 q=>?_;obtain⟨i,rfl,hi,f1⟩:=q;refine w5.mpr<| b8 (a:=.int (if i>low then i else low)) (G':=G1) rfl ⟨_,rfl,?_,?_,f1.2.2,f1.at hc e⟩
 · split
   ·exact hi
   ·exact hl
 ·split<;>lia
theorem QZ{prs:List (Int×Int)}(h:Dr G r)(hc:c≠r)(e:G[c]? =some (.lst (prs.map pD)))(hl:S9 low)(hh:S9 high)(hle:low<=high)(hn:prs.length<50):
 Wp (P3 (pS r c low w high)) G λfl G'=>∃p a b d,fl= .nx [sRf r,sRf c,a,b,d]/\S7 p/\Dr G' r/\G'[c]? =some (.lst ((prs++[p]).map pD)):=by
 have bg:=big;have fin:∀ {a b:Int},S7 (a,b)->Wp ((i3 (mtE K1 K7 d0 (E1 (F0 i0 C0)))) (pS r c a w b)) G λfl G'=>∃p a b d,fl= .nx [sRf r,sRf c,a,b,d]/\S7 p/\Dr G' r/\G'[c]? =some (.lst ((prs++[p]).map pD)):=λ{a b} ok=>by refine QA.mpr<| B4.mpr<| b8 (a:=.ref c) rfl<| (U4 e).mpr<| b8 (a:= [pD (a,b)]) (G':=G) rfl<| (dC e (by rw[zn];lia)).mpr ⟨(a,b),_,_,_,rfl,ok,h.set hc,?_⟩;rw[jg (lt_of_get e),jk];rfl
 have l1:=hl;have h1:=hh;unfold S9 at l1 h1;refine f9.mpr<| M3<| u6<| bin_w<| b8 (a:=.int w) (G':=G) rfl<| b8 (a:=.int 14) (G':=G) rfl<| P5.mpr ⟨_,rfl,λk=>?_,λk=>u5.mpr ?_⟩
 ·have k:=of_decide_eq_true k;refine v6<| mM.mpr<| bin_w<| b8 (a:=.int 10) (G':=G) rfl<| b8 (a:=.int 30) (G':=G) rfl<| p30.mpr<| aK.mpr ?_;refine f9.mpr<| M3<| u6<| bin_w<| b8 (a:=.int w) (G':=G) rfl<| b8 (a:=.int 15) (G':=G) rfl<| P5.mpr ⟨_,rfl,λk=>(by have:=of_decide_eq_true k;lia),λk=>u5.mpr<| fin ⟨by show -e30<=high;lia,.inr rfl,.inl hh⟩⟩
 ·refine f9.mpr<| M3<| u6<| bin_w<| b8 (a:=.int w) (G':=G) rfl<| b8 (a:=.int 15) (G':=G) rfl<| P5.mpr ⟨_,rfl,λk=>?_,λk=>u5.mpr<| fin ⟨hle,.inl hl,.inl hh⟩⟩;refine v6<| bin_w<| b8 (a:=.int 10) (G':=G) rfl<| b8 (a:=.int 30) (G':=G) rfl<| p30.mpr<| fin ⟨by show low<=e30;lia,.inl hl,.inr rfl⟩
theorem aT{prs:List (Int×Int)}{u v x:Option D}(h:Dr G r)(hc:c≠r)(e:G[c]? =some (.lst (prs.map pD)))(hn:prs.length<50):
 Wp (PBd [sRf r,sRf c,u,v,x]) G λfl G'=>∃p a b d,fl= .nx [sRf r,sRf c,a,b,d]/\S7 p/\Dr G' r/\G'[c]? =some (.lst ((prs++[p]).map pD)):=by
 refine f9.mpr<| v6<| j4 (as:= [.ref r]) rfl rfl<| (FL h).mono λ_ G1 q=>?_;obtain⟨low,rfl,hl,f1⟩:=q;have e1:=f1.at hc e;refine f9.mpr<| v6<| j4 (as:= [.ref r,.int 16]) rfl rfl<| P7 f1.2.2 (by decide) λw w0 w1 G2 f2=>?_;have e2:=f2.at hc e1;refine f9.mpr<| v6<| b8 (a:=.int low) (G':=G2) rfl<| f9.mpr<| (pW (w:=w) (high:=low) hc f2.2.2 e2 hl ⟨hl,xK _⟩).mono λ_ G3 q=>?_;obtain⟨h3,rfl,k1,k2,d3,e3⟩:=q;refine f9.mpr<| (TY (w:=w) hc d3 e3 hl ⟨k1,k2⟩).mono λ_ G4 q=>?_;obtain⟨h4,rfl,k3,k4,d4,e4⟩:=q;exact QZ d4 hc e4 hl k3 k4 hn
theorem sM:∀(n:Nat) (prs:List (Int×Int)) (u v x:Option D) (G:DH),c≠r->Dr G r->G[c]? =some (.lst (prs.map pD))->(∀p∈prs,S7 p)->prs.length+n=50->
 Wp (J7 (n+1) PT PBd [sRf r,sRf c,u,v,x]) G λfl G'=>∃(prs:List (Int×Int)) (a b d:Option D),fl= .nx [sRf r,sRf c,a,b,d]/\Dr G' r/\G'[c]? =some (.lst (prs.map pD))/\(∀p∈prs,S7 p)/\prs.length<=50
 |n,prs,u,v,x,G,hc,h,e,ok,hn=>by
   obtain⟨ns,er⟩:=h;refine R9.mpr<| A5<| u6<| bin_w<| b8 (a:=.ref r) (G':=G) rfl<| b8 (a:=.ref G.length) (G':=G++[.lst []]) rfl<| (SA (v9 er) j9).mpr ⟨_,rfl,λ_=>?_,λ_=>?_⟩
   · refine u6<| bin_w<| T8 (as:= [.ref c]) rfl<| (CD (v9 e)).mpr<| b8 (a:=.int 50) (G':=G++[.lst []]) rfl<| lt_int.mpr ⟨_,rfl,?_⟩;by_cases k:((prs.map pD).length:Int)<50
     · rw[decide_eq_true k,if_pos rfl];rw[zn]at k;refine(aT (Dr.app ⟨ns,er⟩) hc (v9 e) (by lia)).mono λ_ G2 q=>?_;obtain⟨p,a,b,d,rfl,okp,dr,e2⟩:=q;rcases n with _|n
       ·lia
       ·exact sM n (prs++[p]) a b d G2 hc dr e2 (λy hy=>(zU.mp hy).elim (ok y) λz=>by rw[zA.mp z];exact okp) (by rw[zf,yy];lia)
     ·rw[decide_eq_false k,if_neg zv];exact⟨prs,_,_,_,rfl,Dr.app ⟨ns,er⟩,v9 e,ok,by lia⟩
   ·rw[if_neg zv];exact⟨prs,_,_,_,rfl,Dr.app ⟨ns,er⟩,v9 e,ok,by lia⟩
theorem eQ(h:Dr G r):Wp (T9 [.ref r]) G λx G'=>∃(c:Nat) (prs:List (Int×Int)),x= .ref c/\G'[c]? =some (.lst (prs.map pD))/\(∀p∈prs,S7 p)/\prs.length<=50:=by
 refine m9 (show Wp (Z1 [sRf r,none,none,none,none]) G _ from ?_);rw[Db];have Gg:G.length≠r:=by have:=h.lt;lia
 refine o7 (X1:= [sRf r,some (.ref G.length),none,none,none]) (G':=G++[.lst []]) rfl<| f9.mpr<| vB (n:=51)<| (sM 50 [] none none none _ Gg h.app j9 (λ_ z=>nomatch z) rfl).mono λ_ G1 q=>?_;obtain⟨prs,a,b,d,rfl,_,e1,ok,hl⟩:=q;exact o9<| b8 (a:=.ref G.length) rfl<| o4 ⟨_,_,rfl,e1,ok,hl⟩
end
def l3(n:Int):Option Int:=if (if n<0 then -n else n)=e30 then none else some n
theorem U7{n:Int}(h:S9 n):l3 n=some n:=by unfold S9 at h;unfold l3;rw[if_neg (by split<;>lia)]
theorem uC:l3 (-e30)=none:=by decide
theorem mC:l3 e30=none:=by decide
def rg(p:Int×Int):Rg:=(l3 p.1,l3 p.2)
theorem oE{n:Int}{G:DH}{Q:DPP}(q:Q (J8 (l3 n)) G):Wp (R7 [.int n]) G Q:=by
 refine m9<| f9.mpr<| M3<| u6<| bin_w<| T8 (as:= [.int n]) rfl<| gJ.mpr<| bin_w<| b8 (a:=.int 10) (G':=G) rfl<| b8 (a:=.int 30) (G':=G) rfl<| p30.mpr<| P5.mpr ⟨_,rfl,λk=>?_,λk=>?_⟩
 ·have k:=of_decide_eq_true k;rw[show l3 n=none from if_pos k]at q;exact o9<| b8 (a:=.non) (G':=G) rfl<| o4 q
 ·have k:=of_decide_eq_false k;rw[show l3 n=some n from if_neg k]at q;exact u5.mpr<| o9<| b8 (a:=.int n) (G':=G) rfl<| o4 q
section
variable{a p:Int×Int}
theorem S7.ok(h:S7 p):okR (rg p):=by
 obtain⟨le,l,hh⟩:=h;intro x y ex ey;rcases l with l|l
 · rcases hh with hh|hh
   · rw[show (rg p).1=some p.1 from U7 l]at ex;rw[show (rg p).2=some p.2 from U7 hh]at ey
     cases ex;cases ey;exact le
   · rw[show (rg p).2=none by unfold rg;rw[hh];exact mC]at ey
     cases ey
 · rw[show (rg p).1=none by unfold rg;rw[l];exact uC]at ex
   cases ex
theorem S7.far(ha:S7 a)(hp:S7 p):rg (a.1,if p.2>a.2 then p.2 else a.2)= ((rg a).1,E5 (rg a).2 (rg p).2):=by
 have h1:=ha.hi;have h2:=hp.hi;unfold rg;refine XO rfl ?_;show l3 (if p.2>a.2 then p.2 else a.2)=E5 (l3 a.2) (l3 p.2);rcases h1 with h1|h1
 · rcases h2 with h2|h2
   ·rw[U7 h1,U7 h2,U7 (by split;exact h2;exact h1)];show _=some (max a.2 p.2);congr 1;split<;>lia
   · unfold S9 at h1;rw[h2,if_pos (by lia),mC]
     cases l3 a.2<;>rfl
 ·rw[h1,if_neg (by unfold S9 at h2;lia),mC];rfl
theorem S7.join(ha:S7 a)(hp:S7 p):S7 (a.1,if p.2>a.2 then p.2 else a.2):=by
 refine⟨?_,ha.lo,?_⟩
 ·have:=ha.le;show a.1<=if p.2>a.2 then p.2 else a.2;split<;>lia
 · show S9 (if p.2>a.2 then p.2 else a.2)\/(if p.2>a.2 then p.2 else a.2)=e30;split
   ·exact hp.hi
   ·exact ha.hi
theorem S7.clr(ha:S7 a)(hp:S7 p):C3 (rg a) (rg p)↔¬p.1<=a.2+1:=by
 have h1:=ha.hi;have h2:=hp.lo;constructor
 · rintro⟨x,y,ex,ey,k⟩;rcases h1 with h1|h1
   · rcases h2 with h2|h2
     · rw[show (rg a).2=some a.2 from U7 h1]at ex;rw[show (rg p).1=some p.1 from U7 h2]at ey
       cases ex;cases ey;lia
     · rw[show (rg p).1=none by unfold rg;rw[h2];exact uC]at ey
       cases ey
   · rw[show (rg a).2=none by unfold rg;rw[h1];exact mC]at ex
     cases ex
 · intro k;have s1:S9 a.2:=h1.resolve_right λz=>by unfold S9 at h2;lia
   have s2:S9 p.1:=h2.resolve_right λz=>by unfold S9 at s1;lia
   exact⟨a.2,p.1,U7 s1,U7 s2,by lia⟩
theorem S7.kle(ha:S7 a)(hp:S7 p)(h:a.1<=p.1):W.kle (rg a).1 (rg p).1:=by
 have h1:=ha.lo;have h2:=hp.lo;rcases h1 with h1|h1
 · have s2:S9 p.1:=h2.resolve_right λz=>by unfold S9 at h1;lia
   rw[show (rg a).1=some a.1 from U7 h1,show (rg p).1=some p.1 from U7 s2];exact h
 ·rw[show (rg a).1=none by unfold rg;rw[h1];exact uC];trivial
end
theorem VM:∀l:List (Int×Int),U8 (l.map pD)=some l
 |[]=>rfl
 |p::r=>by show (match GB (pD p),U8 (r.map pD) with|some a,some b=>some (a::b)|_,_=>none)=_;rw[VM r];rfl
theorem BX(l:List (Int×Int)):∃l':List (Int×Int),l6 l (l.map pD)=l'.map pD/\l'.Perm l/\l'.Pairwise λp q=>p.1<=q.1:=by
 obtain⟨pm,pw⟩:=lE l l.length;have lt:∀i∈M9 l l.length,i<l.length:=λi hi=>jW.mp (pm.mem_iff.mp hi);refine⟨(M9 l l.length).map λi=>l.getD i (0,0),?_,?_,?_⟩
 ·unfold l6;rw[zn,jM];refine yh λi hi=>?_;have:=lt i hi;simp[zj,this]
 · have e:(zJ l.length).map (λi=>l.getD i (0,0))=l:=by
    apply yj
    ·simp
    ·intro i hi hj;simp[hj]
   have:=pm.map λi=>l.getD i ((0,0):Int×Int);rw[e]at this;exact this
 ·refine xH.mpr (pw.imp_of_mem λ{i j} hi hj h=>?_);unfold ltP at h;have:=y9.mp h;lia
theorem dW{a:Nat}{l:List (Int×Int)}{G:DH}{Q:DPP}(e:G[a]? =some (.lst (l.map pD)))(hl:l.length<64)
 (q:∀l':List (Int×Int),l'.Perm l->(l'.Pairwise λp q=>p.1<=q.1)->Q (.ref G.length) (G++[.lst (l'.map pD)])):Wp (NA [.ref a]) G Q:=by
 obtain⟨l',e1,pm,pw⟩:=BX l;refine b8 (a:=.ref G.length) (G':=G++[.lst (l'.map pD)]) ?_ (q l' pm pw);show (do match <-J5 a with
  | .lst l=>mB l
  |_=>M.stuck:M D) G=_
 rw[M.bind_ok (show J5 a G=some (.ok (.lst (l.map pD)),G) by unfold J5;rw[e])];show mB (l.map pD) G=_;unfold mB;rw[if_pos (by rw[zn];exact hl),M.bind_ok (show N0 (U8 (l.map pD)) G=some (.ok l,G) by rw[VM];rfl),e1];rfl
theorem leI{i j:Int}{G:DH}{Q:DPP}:Wp (leD (.int i) (.int j)) G Q↔Q (.bl (decide (i<=j))) G:=d8
abbrev g23:Fg:=(A4 2 (Q4 S0 (Q4 C2 (u4))))
abbrev g01:Fg:=(A4 2 (Q4 m4 (Q4 I0 (u4))))
theorem pR:V7=seqS (G9 (U9 o0) I0) (seqS (A3 (itW (z0 NA c0)) g23 LB) (o8 (z0 S3 (N6 (itW d0) [none,none] g01 (K2) LE)))):=rfl
structure MI(ds Fw rest:List (Int×Int)):Prop where
 mg:Mg (ds.map rg) (Fw.map rg) (rest.map rg)
 ok:∀p∈Fw,S7 p
 ok2:∀p∈rest,S7 p
theorem fD(l:List (Int×Int))(p:Int×Int):(l++[p]).map rg=l.map rg++[rg p]:=jk ..
section
variable{ds:List (Int×Int)}{c:Nat}{a0:Option D}
abbrev lS(a0:Option D)(c:Nat)(p:Int×Int):DSt:= [a0,sRf c,some (.int p.1),some (.int p.2)]
theorem IY{Fw rest:List (Int×Int)}{p:Int×Int}{G:DH}(M:MI ds Fw (p::rest))(e:G[c]? =some (.lst (Fw.map pD)))(hl:ds.length<10000):
 Wp (LB (lS a0 c p)) G λfl G'=>fl= .nx (lS a0 c p)/\∃Gb,MI ds Gb rest/\G.length<=G'.length/\(∀i,i≠c->i<G.length->G'[i]? =G[i]?)/\G'[c]? =some (.lst (Gb.map pD)):=by
 have bg:=big;have okp:=M.ok2 p (zr ..);have ln:=M.mg.len;simp only[zN,zw,zn]at ln;have hG:(G++[DO.lst []])[c]? =some (.lst (Fw.map pD)):=v9 e;have hc:=lt_of_get e;have fr:∀ {o:DO} i,i≠c->i<G.length->((G++[DO.lst []]).set c o)[i]? =G[i]? :=λi hi h=>by rw[zY (Ne.symm hi),zt h]
 have new:(∀t e,Fw=t++[e]->C3 (rg e) (rg p))->Wp ((i3 (mtE K1 K7 d0 (E1 (F0 i0 y0)))) (lS a0 c p)) (G++[.lst []]) λfl G'=>fl= .nx (lS a0 c p)/\∃Gb,MI ds Gb rest/\G.length<=G'.length/\(∀i,i≠c->i<G.length->G'[i]? =G[i]?)/\G'[c]? =some (.lst (Gb.map pD)):=λhcl=>by
  refine QA.mpr<| B4.mpr<| b8 (a:=.ref c) rfl<| (U4 hG).mpr<| b8 (a:= [pD p]) (G':=G++[.lst []]) rfl<| (dC hG (by rw[zn];lia)).mpr ⟨rfl,Fw++[p],⟨?_,λq hq=>(zU.mp hq).elim (M.ok q) λz=>by rw[zA.mp z];exact okp,λq hq=>M.ok2 q (zk _ hq)⟩,by simp,fr,?_⟩
  · rw[fD];refine M.mg.new λt x z=>?_;have Gg:Fw≠ []:=by rintro rfl;cases t<;>cases z
    obtain⟨t',x',rfl⟩:∃(t:List (Int×Int)) (x:Int×Int),Fw=t++[x]:=⟨_,_,(yx Gg).symm⟩;rw[fD]at z;obtain⟨_,h2⟩:=Yo z rfl;rw[<-(jG h2).1];exact hcl t' x' rfl
  ·rw[jg (lt_of_get hG),jk];rfl
 refine M3<| A5<| u6<| bin_w<| b8 (a:=.ref c) (G':=G) rfl<| b8 (a:=.ref G.length) (G':=G++[.lst []]) rfl<| (SA hG j9).mpr ⟨_,rfl,λh=>?_,λh=>⟨λz=>(nomatch z),λ_=>new λt x z=>?_⟩⟩
 · have Gg:Fw≠ []:=by rintro rfl;cases h
   clear h;obtain⟨t,x,rfl⟩:∃(t:List (Int×Int)) (x:Int×Int),Fw=t++[x]:=⟨_,_,(yx Gg).symm⟩;have okx:=M.ok x (zC _ (zA.mpr rfl));have e':=hG;rw[jk]at e';have ix:∀ {Q:DPP},Q (pD x) (G++[.lst []])->Wp (j6 ixD d0 (unE A2 g0) (lS a0 c p)) (G++[.lst []]) Q:=λq=>bin_w<| b8 (a:=.ref c) rfl<| b8 (a:=.int (-1)) rfl<| (QD e').mpr ⟨_,aM _ _,q⟩;have ix1:∀ {Q:DPP},Q (.int x.2) (G++[.lst []])->Wp (j6 ixD (ixE d0 (unE A2 g0)) g0 (lS a0 c p)) (G++[.lst []]) Q:=λq=>bin_w<| ix<| b8 (a:=.int 1) (G':=G++[.lst []]) rfl<| (ix_tup (l:= [.int x.1,.int x.2]) (i:=1)).mpr ⟨_,rfl,q⟩;refine u6<| bin_w<| b8 (a:=.int p.1) (G':=G++[.lst []]) rfl<| bin_w<| ix1<| b8 (a:=.int 1) (G':=G++[.lst []]) rfl<| x9.mpr<| leI.mpr ⟨_,rfl,λh=>?_,λh=>new λt' x' z=>?_⟩
   · have nc:¬C3 (rg x) (rg p):=λk=>(okx.clr okp).mp k (of_decide_eq_true h);refine l7.mpr<| D4.mpr<| o6<| bin_w<| ix<| b8 (a:=D.int 0) (G':=G++[.lst []]) rfl<| (ix_tup (l:= [.int x.1,.int x.2]) (i:=0)).mpr ⟨.int x.1,rfl,o6<| N5<| o6<| ix1<| b8 (a:= [.int p.2]) (G':=G++[.lst []]) rfl<| b8 (a:=.int (if p.2>x.2 then p.2 else x.2)) (G':=G++[.lst []]) rfl<| w5.mpr ⟨sz,?_⟩⟩;refine eN (k:= -1) rfl rfl e' (j:=(t.map pD).length) ?_ ⟨rfl,t++[(x.1,if p.2>x.2 then p.2 else x.2)],⟨?_,λq hq=>(zU.mp hq).elim (λz=>M.ok q (yc _ z)) λz=>by rw[zA.mp z];exact okx.join okp,λq hq=>M.ok2 q (zk _ hq)⟩,by simp,fr,?_⟩
     ·unfold ixN;rw[if_neg (by lia),if_pos (by simp;lia)];congr 1;simp;lia
     ·rw[fD,okx.far okp];refine Mg.join ?_ nc;rw[<-fD];exact M.mg
     ·rw[jg (lt_of_get hG),jk,XD _ _ (zh _),XB];rfl
   · obtain⟨rfl,h2⟩:=Yo z rfl
     cases h2
     exact(okx.clr okp).mpr (of_decide_eq_false h)
 · rw[z]at h
   cases t<;>cases h
theorem uL{q:Nat}{L:List D}(hq:q≠c):∀(rest Fw:List (Int×Int)) (u v:Option D) (G:DH),MI ds Fw rest->G[c]? =some (.lst (Fw.map pD))->G[q]? =some (.lst L)->ds.length<10000->
 Wp (M0 g23 LB (ckO q (.lst L)) (rest.map pD) [a0,sRf c,u,v]) G λfl G'=>(∃u v,fl= .nx [a0,sRf c,u,v])/\∃Gb,MI ds Gb []/\G'[c]? =some (.lst (Gb.map pD))/\G.length<=G'.length/\∀i,i≠c->i<G.length->G'[i]? =G[i]?
 |[],Fw,u,v,G,M,e,eq,hl=>EA.mpr ⟨u7 eq,⟨u,v,rfl⟩,Fw,M,e,zh _,λ_ _ _=>rfl⟩
 |p::r,Fw,u,v,G,M,e,eq,hl=>by refine Z4.mpr ⟨u7 eq,b8 (a:=lS a0 c p) (G':=G) rfl<| (IY M e hl).mono ?_⟩;rintro _ G1 ⟨rfl,Gb,M',l1,f1,e1⟩;refine(uL hq r Gb _ _ _ M' e1 (by rw[f1 q hq (lt_of_get eq)];exact eq) hl).mono ?_;rintro _ G2 ⟨⟨u,v,rfl⟩,acc2,M2,e2,l2,f2⟩;exact⟨⟨u,v,rfl⟩,acc2,M2,e2,by lia,λi hi h=>by rw[f2 i hi (by lia),f1 i hi h]⟩
end
theorem TB{α:Type}{mk:α->D×D}{e:Fe}{f:α->D}{ck:DH->Bool}{G:DH}(Hf:ck G=true):∀(l:List α) (u v:Option D),(∀x∈l,e [some (mk x).1,some (mk x).2] G=some (.ok (f x),G))->M7 g01 K2 e ck (l.map λx=>.tup [(mk x).1,(mk x).2]) [u,v] G=some (.ok (l.map f),G)
 |[],u,v,h=>j3 (aD.mpr ⟨Hf,rfl,rfl⟩)
 | x :: r, u, v, h => j3 (EJ.mpr ⟨Hf, b8 (a := [some (mk x).1, some (mk x).2]) (G' := G) rfl <| b8 (a := true) (G' := G) rfl <| by
    rw[if_pos rfl];exact b8 (h x (zr ..))<| b8 (TB Hf r _ _ λy hy=>h y (zk _ hy)) ⟨rfl,rfl⟩⟩)
theorem TU{p:Int×Int}{G:DH}:LE [some (.int p.1),some (.int p.2)] G=some (.ok (rD (rg p)),G):=
 j3<| D4.mpr<| o6<| j4 (as:= [.int p.1]) rfl rfl<| oE<| o6<| j4 (as:= [.int p.2]) rfl rfl<| oE<| w5.mpr ⟨sz,rfl,rfl⟩
theorem CQ{l:List (Int×Int)}{a:Nat}{G:DH}(ok:∀p∈l,S7 p)(e:G[a]? =some (.lst (l.map pD)))(hl:l.length<64):
 Wp (V8 [.ref a]) G λx G'=>∃due,x= .tup (rsD due)/\nC (l.map rg) due/\due.length<=l.length/\(∀r∈due,∃p,S7 p/\r=rg p)/\Ap G G':=by
 refine m9 (show Wp (V7 [sRf a,none,none,none]) G _ from ?_);rw[pR];refine o7 (X1:= [sRf a,some (.ref G.length),none,none]) (G':=G++[.lst []]) rfl<| f9.mpr<| C8.mpr<| wp_itW.mpr<| T8 (as:= [.ref a]) rfl<| dW (v9 e) hl λl' pm pw=>?_;have Gg:(G++[DO.lst []]).length≠G.length:=by simp
 have st:MI l [] l':=by refine⟨Mg.start (λr hr=>?_) (pm.map rg) (xH.mpr (pw.imp_of_mem λhi hj h=>(ok _ (pm.mem_iff.mp hi)).kle (ok _ (pm.mem_iff.mp hj)) h)),λ_ z=>(nomatch z),λp hp=>ok p (pm.mem_iff.mp hp)⟩;obtain⟨p,hp,rfl⟩:=jJ.mp hr;exact(ok p hp).ok
 refine(UC j9).mpr<| (uL (ds:=l) Gg l' [] none none _ st (v9 j9) j9 (by lia)).mono ?_;rintro _ G1 ⟨⟨u,v,rfl⟩,Fw,M,e1,l1,f1⟩;have ml:=M.mg.len;simp only[xp,zn,jD]at ml;refine o9<| N5<| o6<| wp_comp.mpr<| wp_itW.mpr<| b8 (a:=.ref G.length) (G':=G1) rfl<| (UC e1).mpr ⟨?_,b8 (TB (mk:=λp:Int×Int=>(.int p.1,.int p.2)) (f:=λp=>rD (rg p)) (u7 e1) Fw none none λp _=>TU)<| w5.mpr<| (EC j9).mpr<| o4 ⟨Fw.map rg,?_,⟨M.mg.can,λx=>?_⟩,by rw[zn];exact ml,λr hr=>?_,Gr.ap ⟨?_,λi hi=>?_⟩⟩⟩
 · have:(64:Nat)<=zi:=by decide
   rw[zn];lia
 ·unfold rsD;rw[jM];rfl
 ·rw[M.mg.same x];exact⟨.inl,λz=>z.elim id λz=>absurd z P6⟩
 ·obtain⟨p,hp,rfl⟩:=jJ.mp hr;exact⟨p,M.ok p hp,rfl⟩
 ·simp only[zf]at l1 ⊢;lia
 ·rw[zt (by simp at l1;lia),f1 i (by lia) (by simp;lia),zD,zt hi]
abbrev wJ:List Nat:= [110,117,109,98,101,114]
abbrev cNo:List Nat:= [110,111,116,104,105,110,103]
abbrev cOr:List Nat:= [32,111,114,32]
def smR(r:Rg):Prop:=(∀a,r.1=some a->smI a)/\∀b,r.2=some b->smI b
def swL:Rg->List Nat
 |(none,none)=>wJ
 |(none,some h)=> [46,46]++nmL h
 |(some l,none)=>nmL l++[46,46]
 |(some l,some h)=>if l=h then nmL l else nmL l++[46,46]++nmL h
def oL:Option Int->List Nat
 |none=> []
 |some i=>nmL i
theorem tJ{i:Int}(h:S9 i):smI i:=by unfold S9 at h;unfold smI KA;lia
theorem S7.sm{p:Int×Int}(h:S7 p):smR (rg p):=by
 refine⟨λa e=>?_,λb e=>?_⟩
 · rcases h.lo with k|k
   · rw[show (rg p).1=some p.1 from U7 k]at e
     cases e;exact tJ k
   · rw[show (rg p).1=none by unfold rg;rw[k];exact uC]at e
     cases e
 · rcases h.hi with k|k
   · rw[show (rg p).2=some p.2 from U7 k]at e
     cases e;exact tJ k
   · rw[show (rg p).2=none by unfold rg;rw[k];exact mC]at e
     cases e
theorem LD{r:Rg}(h:smR r):(swL r).length<=90:=by
 obtain⟨a,b⟩:=r;rcases a with _|a<;>rcases b with _|b
 ·decide
 ·have:=V5 (h.2 b rfl);show ([46,46]++nmL b).length<=90;rw[zf];show 2+_<=_;lia
 ·have:=V5 (h.1 a rfl);show (nmL a++[46,46]).length<=90;rw[zf];show _+2<=_;lia
 · have h1:=V5 (h.1 a rfl);have h2:=V5 (h.2 b rfl);show (if a=b then nmL a else nmL a++[46,46]++nmL b).length<=90;split
   ·lia
   ·rw[zf,zf];show _+2+_<=_;lia
section
variable{G:DH}{Q:DPP}
theorem fA{a b:List Nat}(h:a.length+b.length<=1000)(q:Q (.str (ofL (a++b))) G):Wp (J6 (.str (ofL a)) (.str (ofL b))) G Q:=by have bg:=big;refine(IQ (zP (show (ofL a).length+(ofL b).length<=1000 from h) (by lia))).mpr ?_;rw[ER];exact q
theorem QL{r:Rg}(h:smR r)(q:Q (.str (ofL (swL r))) G):Wp (u9 [J8 r.1,J8 r.2]) G Q:=by
 obtain⟨a,b⟩:=r;rcases a with _|a<;>rcases b with _|b
 ·exact Z7 (d:=.str ("number" :Str)) rfl q
 ·have h2:=h.2 b rfl;have l2:=V5 h2;refine m9<| o7 (X1:= [some .non,some (.int b)]) (G':=G) rfl<| f9.mpr<| M3<| b8 (a:=true) (G':=G) rfl ⟨λ_=>?_,λz=>(nomatch z)⟩;exact o9<| bin_w<| b8 (a:=.str (ofL [46,46])) (G':=G) rfl<| T8 (as:= [.int b]) rfl<| pA h2<| fA (by show 2+_<=_;lia)<| o4 q
 ·have h1:=h.1 a rfl;have l1:=V5 h1;refine m9<| o7 (X1:= [some (.int a),some .non]) (G':=G) rfl<| o7 (X1:= [some (.int a),some .non]) (G':=G) rfl<| f9.mpr<| M3<| b8 (a:=true) (G':=G) rfl ⟨λ_=>?_,λz=>(nomatch z)⟩;exact o9<| bin_w<| T8 (as:= [.int a]) rfl<| pA h1<| b8 (a:=.str (ofL [46,46])) (G':=G) rfl<| fA (by show _+2<=_;lia)<| o4 q
 · have h1:=h.1 a rfl;have l1:=V5 h1;have h2:=h.2 b rfl;have l2:=V5 h2;refine m9<| o7 (X1:= [some (.int a),some (.int b)]) (G':=G) rfl<| o7 (X1:= [some (.int a),some (.int b)]) (G':=G) rfl<| o7 (X1:= [some (.int a),some (.int b)]) (G':=G) rfl<| f9.mpr<| M3<| u6<| bin_w<| b8 (a:=.int a) (G':=G) rfl<| b8 (a:=.int b) (G':=G) rfl<| P5.mpr ⟨_,rfl,λk=>?_,λk=>u5.mpr ?_⟩
   ·have k:=of_decide_eq_true k;rw[show swL (some a,some b)=nmL a from if_pos k]at q;exact o9<| T8 (as:= [.int a]) rfl<| pA h1<| o4 q
   ·have k:=of_decide_eq_false k;rw[show swL (some a,some b)=nmL a++[46,46]++nmL b from if_neg k]at q;exact o9<| bin_w<| bin_w<| T8 (as:= [.int a]) rfl<| pA h1<| b8 (a:=.str (ofL [46,46])) (G':=G) rfl<| fA (by show _+2<=_;lia)<| T8 (as:= [.int b]) rfl<| pA h2<| fA (by rw[zf];show _+2+_<=_;lia)<| o4 q
theorem vR{i:Int}(h:smI i)(q:Q (.str (ofL (nmL i))) G):Wp (Z8 [.int i]) G Q:=
 m9<| o7 (X1:= [some (.int i)]) (G':=G) rfl<| f9.mpr<| M3<| b8 (a:=true) (G':=G) rfl ⟨λ_=>o9<| T8 (as:= [.int i]) rfl<| pA h<| o4 q,λz=>nomatch z⟩
theorem gG{a:Option Int}(h:∀i,a=some i->smI i)(q:Q (.str (ofL (oL a))) G):Wp (O3 [J8 a]) G Q:=by
 rcases a with _|i
 ·exact Z7 (d:=.str (ofL [])) rfl q
 ·exact m9<| o9<| pL (G1:=G) rfl<| j4 (as:= [.int i]) rfl rfl<| vR (h i rfl)<| o4 q
theorem bY{r:Rg}(h:smR r)(hn:r≠(none,none))(q:Q (.str (ofL (swL r))) G):Wp (T3 [J8 r.1,J8 r.2]) G Q:=by
 obtain⟨a,b⟩:=r;have ends:∀ {a b:Option Int},smR (a,b)->∀ {Q:DPP},Q (.str (ofL (oL a++[46,46]++oL b))) G->Wp ((j6 J6 (j6 J6 (B0 O3 c0) (cSt "..")) (B0 O3 d0)) [some (J8 a),some (J8 b)]) G Q:=λ{a b} h {Q} q=>by
  have l1:(oL a).length<=41:=by
   rcases a with _|a
   ·decide
   ·exact V5 (h.1 a rfl)
  have l2:(oL b).length<=41:=by
   rcases b with _|b
   ·decide
   ·exact V5 (h.2 b rfl)
  exact bin_w<| bin_w<| j4 (as:= [J8 a]) rfl rfl<| gG h.1<| b8 (a:=.str (ofL [46,46])) (G':=G) rfl<| fA (by show _+2<=_;lia)<| j4 (as:= [J8 b]) rfl rfl<| gG h.2<| fA (by rw[zf];show _+2+_<=_;lia) q
 refine m9 (show Wp (o8 _ [some (J8 a),some (J8 b)]) G _ from o9<| vA.mpr<| u6<| bin_w<| b8 (a:=J8 a) (G':=G) rfl<| b8 (a:=J8 b) (G':=G) rfl ?_);rcases a with _|a<;>rcases b with _|b
 ·exact absurd rfl hn
 ·exact b8 (a:=.bl false) (G':=G) rfl ⟨_,rfl,by rw[if_neg zv];exact ends h (o4 q)⟩
 ·refine b8 (a:=.bl false) (G':=G) rfl ⟨_,rfl,?_⟩;rw[if_neg zv];exact ends h (o4 (by rw[show oL none= []from rfl,jt];exact q))
 · refine P5.mpr ⟨_,rfl,?_⟩;by_cases k:a=b
   ·rw[decide_eq_true k,if_pos rfl];rw[show swL (some a,some b)=nmL a from if_pos k]at q;exact j4 (as:= [.int a]) rfl rfl<| gG (a:=some a) h.1<| o4 q
   ·rw[decide_eq_false k,if_neg zv];rw[show swL (some a,some b)=nmL a++[46,46]++nmL b from if_neg k]at q;exact ends h (o4 q)
end
def sN(l:List Rg):D:=.tup [.tup (rsD l),.tup [.str ("of" :Str),.tup []],.tup [],.non,.non]
def O0(f:α->List Nat)(l:List α):List D:=l.map λx=>.str (ofL (f x))
theorem qM(f:α->List Nat):∀l:List α,i8 (O0 f l)=some (l.map λd=>ofL (f d))
 |[]=>rfl
 |x::r=>by have h:=qM f r;unfold O0 at h ⊢;rw[zN,zN,i8,h];rfl
theorem uW{L:List Nat}{k:Nat}(h:∀a∈L,a<=k):L.sum<=k*L.length:=by
 induction L with
 |nil=>exact zW _
 |cons a r ih=>
   have:=ih λx hx=>h x (zk _ hx);have:=h a (zr ..);rw[List.sum_cons,zw,Nat.mul_succ];lia
section
variable{G:DH}{Q:DPP}
theorem wD{f:α->List Nat}{l:List α}{r:Nat}(e:G[r]? =some (.lst (O0 f l)))(h:∀x∈l,(f x).length<=90)(hl:l.length<=200)(q:Q (.str (ofL (E3 cOr (l.map f)))) G):Wp (d6 (.str (" or " :Str)) [.ref r]) G Q:=by
 refine(GR e (qM f l) ?_).mpr ?_
 · have:=uW (L:=(l.map λd=>ofL (f d)).map (·.length)) (k:=90) λa ha=>by
    rw[jM]at ha;obtain⟨x,hx,rfl⟩:=jJ.mp ha;exact h x hx
   rw[zn,zn]at this;rw[zn];show _+_*4<=_;lia
 ·rw[show ZW (" or " :Str) (l.map λd=>ofL (f d))=ofL (E3 cOr (l.map f))from UD (by rw[qY,jM];rfl)];exact q
theorem rW{s:List Nat}:∀ {L:List (List Nat)},(∀a∈L,a.length<=90)->s.length<=10->(E3 s L).length<=100*L.length
 |[],_,_=>zh _
 |a::r,h,hs=>by
   have gl:∀r:List (List Nat),(∀a∈r,a.length<=90)->(glL s r).length<=100*r.length:=by
    intro r
    induction r with
    |nil=>exact λ_=>zh _
    |cons b t ih=>
      intro h;have h1:=ih λx hx=>h x (zk _ hx);have h2:=h b (zr ..);show (s++b++glL s t).length<=_;rw[zf,zf,zw];lia
   have h1:=gl r λx hx=>h x (zk _ hx);have h2:=h a (zr ..);show (a++glL s r).length<=_;rw[zf,zw];lia
theorem wW{l:List Rg}:eqN 40 G (.tup (rsD l)) (.tup [.tup [.non,.non]])=some (decide (l= [(none,none)])):=by
 rcases l with _|⟨⟨a,b⟩,_|⟨q,r⟩⟩
 ·rfl
 ·rcases a with _|a<;>rcases b with _|b<;>rfl
 ·rcases a with _|a<;>rcases b with _|b<;>rfl
theorem iP{l:List Rg}(h:∀r∈l,smR r)(hc:Can l)(hl:l.length<=64)(q:∀r G',Ap G G'->G'[r]? =some (.lst (O0 swL l))->Q (.ref r) G'):Wp (T7 [.tup (rsD l)]) G Q:=by
 refine m9<| o9<| vA.mpr<| u6<| bin_w<| b8 (a:=.tup (rsD l)) (G':=G) rfl<| b8 (a:=.tup [.tup [.non,.non]]) (G':=G) rfl<| CA.mpr ⟨_,wW,_,rfl,?_⟩;by_cases k:l= [(none,none)]
 ·rw[decide_eq_true k,if_pos rfl];refine b8 (a:=.ref G.length) (G':=G++[.lst [.str ("number" :Str)]]) rfl<| o4<| q _ _ Ap.one ?_;rw[j9,k];rfl
 · rw[decide_eq_false k,if_neg zv];refine AC (l:=rsD l) (G1:=G) rfl (by rw[D9];lia)<| b8 (TB (mk:=λp:Rg=>(J8 p.1,J8 p.2)) (f:=λr=>.str (ofL (swL r))) rfl l none none λr hr=>?_)<| o4<| q _ _ Ap.one j9;refine j3<| j4 (as:= [J8 r.1,J8 r.2]) rfl rfl<| bY (h r hr) (λz=>k ?_) ⟨rfl,rfl⟩;subst z;obtain⟨s,t,rfl⟩:=List.append_of_mem hr;have pw:=jv.mp hc.2;rcases s with _|⟨x,s⟩
   · rcases t with _|⟨y,t⟩
     ·rfl
     · obtain⟨a,b,e,_⟩:=(yP.mp pw.2.1).1 y (zr ..)
       cases e
   · obtain⟨a,b,_,e,_⟩:=pw.2.2 x (zr ..) _ (zr ..)
     cases e
theorem fE{b:Fe}{σ:DSt}{r:Nat}{L:List D}(e1:G[r]? =some (.lst L))(hl:L.length<=zi)(ev:b σ G=some (.ok (.ref G.length),G++[.lst []]))(q:∀r' G',Ap G G'->G'[r']? =some (.lst L)->Q (.ref r') G'):Wp (b σ) G λy G2=>Wp (J6 (.ref r) y) G2 Q:=by refine b8 ev<| (QE (b:= []) (v9 e1) j9 hl).mpr<| q _ _ (Ap.one.trans Ap.one) ?_;rw[j9,jt]
theorem sU{l:List Rg}:eqN 40 G (sN l) (sN [])=some (decide (l= [])):=by
 rcases l with _|⟨⟨a,b⟩,r⟩
 ·rfl
 ·rfl
def wds(l:List Rg):List (List Nat):=if l= []then [cNo]else l.map swL
theorem lK{l:List Rg}(h:∀r∈l,smR r)(hc:Can l)(hl:l.length<=64)(q:∀G',Ap G G'->Q (.str (ofL (E3 cOr (wds l)))) G'):Wp (rB [sN l]) G Q:=by
 have bg:=big;refine m9<| o9<| B4.mpr<| b8 (a:=.str (" or " :Str)) (G':=G) rfl<| gE.mpr<| o6<| j4 (as:= [sN l]) rfl rfl ?_;refine m9<| o7 (X1:= [some (sN l)]) (G':=G) rfl<| f9.mpr<| M3<| u6<| bin_w<| b8 (a:=sN l) (G':=G) rfl<| b8 (a:=sN []) (G':=G) rfl<| CA.mpr ⟨_,sU,_,rfl,λk=>?_,λk=>u5.mpr ?_⟩
 ·have k:=of_decide_eq_true k;refine o9<| b8 (a:=.ref G.length) (G':=G++[.lst (O0 id [cNo])]) rfl<| o4<| w5.mpr<| wD (f:=id) j9 (λx hx=>by rw[zA.mp hx];decide) (by decide)<| o4 ?_;have:=q _ (Ap.one (G:=G) (o:=.lst (O0 id [cNo])));rw[show wds l= [cNo]from if_pos k]at this;exact this
 · have k:=of_decide_eq_false k;refine o9<| bin_w<| bin_w<| bin_w<| bin_w<| j4 (as:= [.tup (rsD l)]) rfl rfl<| iP h hc hl λr G1 a1 e1=>?_;have ll:(O0 swL l).length=l.length:=zn ..;have hb:(O0 swL l).length<=zi:=by rw[ll];lia
   refine fE e1 hb rfl λr2 G2 a2 e2=>fE e2 hb rfl λr3 G3 a3 e3=>fE e3 hb rfl λr4 G4 a4 e4=>fE e4 hb rfl λr5 G5 a5 e5=>o4 ?_;refine w5.mpr<| wD (f:=swL) (l:=l) e5 (λx hx=>LD (h x hx)) (by lia)<| o4 ?_;rw[show l.map swL=wds l from(if_neg k).symm];exact q _ (((((a1.trans a2).trans a3).trans a4).trans a5))
end
section
variable{G:DH}{Q:DPP}
theorem Dp{l:List Rg}:eqN 40 G (sN l) (.tup [.tup [.tup [.non,.non]],.tup [.str ("but" :Str),.tup []],.tup [.bl false,.bl true],.tup [.tup [],.str ("any" :Str)],.tup [.tup [],.str ("any" :Str)]])=some false:=by
 rcases l with _|⟨⟨a,b⟩,_|⟨q,r⟩⟩
 ·rfl
 ·rcases a with _|a<;>rcases b with _|b<;>rfl
 ·rcases a with _|a<;>rcases b with _|b<;>rfl
theorem TK{l:List Rg}(q:Q (sN l) G):Wp (VA [.tup (rsD l),.tup [.str ("of" :Str),.tup []],.tup [],.non,.non]) G Q:=by refine m9<| o7 (X1:= [some (.tup (rsD l)),some (.tup [.str ("of" :Str),.tup []]),some (.tup []),some .non,some .non,some (sN l)]) (G':=G) rfl<| o9<| vA.mpr<| u6<| bin_w<| b8 (a:=sN l) (G':=G) rfl<| b8 (G':=G) rfl<| CA.mpr ⟨_,Dp,_,rfl,?_⟩;rw[if_neg zv];exact b8 (a:=sN l) (G':=G) rfl<| o4 q
theorem UW{r:Rg}(h:okR r):DC [J8 r.1,J8 r.2] G=some (.ok (.bl false),G):=by
 obtain⟨a,b⟩:=r;rcases a with _|a
 ·rfl
 · rcases b with _|b
   ·rfl
   ·have:=h a b rfl rfl;show some (Except.ok (D.bl (decide (a>b))),G)=_;rw[decide_eq_false (by lia)]
theorem HE{r:Rg}(h:okR r)(q:Q (sN [r]) G):Wp (S5 [J8 r.1,J8 r.2]) G Q:=by refine m9<| o9<| pL (G1:=G) ?_<| j4 (as:= [.tup (rsD [r]),.tup [.str ("of" :Str),.tup []],.tup [],.non,.non]) rfl rfl<| TK<| o4 q;exact j3<| a9.mpr<| j4 (as:= [J8 r.1,J8 r.2]) rfl rfl<| b8 (UW h)<| O5.mpr ⟨rfl,rfl⟩
theorem Cz{i:Int}(q:Q (sN [(some i,some i)]) G):Wp (dD [.int i]) G Q:=
 m9<| o7 (X1:= [some (.int i)]) (G':=G) rfl<| f9.mpr<| M3<| b8 (a:=true) (G':=G) rfl ⟨λ_=>o9<| j4 (as:= [.int i,.int i]) rfl rfl<| HE (r:=(some i,some i)) (λa b e1 e2=>by cases e1;cases e2;exact xK _)<| o4 q,λz=>nomatch z⟩
end
section
variable{T:Str}{G:DH}{Q:DPP}{P:Fl->DH->Prop}{i:Int}{ρ:DSt}
theorem T1{p:Str}{X Y:Fs}(k:W9 T p i=false)(w:Wp (Y (some (.str T)::some (.int i)::ρ)) G P):
 Wp (seqS (ifS (truthE (mtE isStrM startsD c0 (H0 (cE (.str p)) d0))) X nextS) Y (some (.str T)::some (.int i)::ρ)) G P:=by
 refine f9.mpr<| M3<| MB<| M5 (G:=G) (T:=T) (p:=p) (i:=i) rfl rfl rfl ?_;rw[k];exact⟨rfl,λz=>(nomatch z),λ_=>u5.mpr w⟩
theorem ML{p:Str}{e:Fe}{Y:Fs}(k:W9 T p i=true)(w:Wp (e (some (.str T)::some (.int i)::ρ)) G λd G1=>P (.rt d) G1):
 Wp (seqS (ifS (truthE (mtE isStrM startsD c0 (H0 (cE (.str p)) d0))) (o8 e) nextS) Y (some (.str T)::some (.int i)::ρ)) G P:=by
 refine f9.mpr<| M3<| nA<| M5 (G:=G) (T:=T) (p:=p) (i:=i) rfl rfl rfl ?_;rw[k];exact⟨rfl,λ_=>o9 w,λz=>nomatch z⟩
theorem noF{p:Str}{pre rest ps:List Nat}{c d:Nat}{r:List Nat}(h:tl T=pre++rest)(e:rest=d::r)(hp:tl p=c::ps)(k:d≠c):W9 T p (pre.length:Int)=false:=
 W6 h hp λx y z=>by rw[e]at z;rw[<-(jG z).1];exact k
theorem mH(i:Int):∃c r,nmL i=c::r/\(c=45\/48<=c/\c<=57):=by
 rcases kC i with⟨m,rfl⟩|⟨m,hm,rfl⟩
 · rw[nB];rcases k:dg m with _|⟨x,y⟩
   ·exact absurd k (g7 m)
   ·exact⟨x,y,rfl,.inr (w8 m x (by rw[k];exact zr ..))⟩
 ·exact⟨45,_,eC m hm,.inl rfl⟩
theorem rS{pre post:List Nat}{j:Int}(hz:T.length<=zi)(hj:smI j)(h:tl T=pre++nmL j++post)(ho:HA 48 57 post)(q:Q (.tup [.int j,.int ((pre.length:Int)+(nmL j).length)]) G):Wp (KD [.str T,.int pre.length,.int 1]) G Q:=by
 obtain⟨c,r,e,hc⟩:=mH j;have h':tl T=pre++(c::(r++post)):=by rw[h,e,zD];rfl
 refine m9 (show Wp (pH [some (.str T),some (.int pre.length),some (.int 1)]) G _ from o7 (G':=G) rfl ?_);refine T1 (noF h' rfl (c:=91) rfl (by lia))<| T1 (noF h' rfl (c:=123) rfl (by lia))<| T1 (noF h' rfl (c:=34) rfl (by lia))<| T1 (noF h' rfl (c:=116) rfl (by lia))<| T1 (noF h' rfl (c:=102) rfl (by lia)) ?_;exact o9<| j4 (as:= [.str T,.int pre.length]) rfl rfl<| sK hz hj h ho<| o4 q
theorem wU{pre post:List Nat}{st:Int}(hz:T.length<=zi)(hs:st=pre.length)(h:tl T=pre++post)(hp:∀c r,post=c::r->c=32)(q:Q (.bl false) G):Wp (M6 [.str T,.int st]) G Q:=by subst hs;refine m9<| o9<| QJ.mpr<| M5 (G:=G) rfl rfl rfl ?_;rw[W6 h (c:=45) (ps:= []) rfl λc r e=>by rw[hp c r e];decide];refine O5.mpr ?_;rw[if_neg zv];refine bin_w<| j4 (as:= [.str T,.int pre.length,.str ⟨#[48]⟩,.str ⟨#[57]⟩]) rfl rfl<| NC (run:= []) (rest:=post) hz rfl (by rw[h,jt]) (λ_ z=>nomatch z) (λc r e=>by rw[hp c r e];decide)<| b8 (a:=.int pre.length) (G':=G) rfl<| A9.mpr<| o4 ?_;rw[decide_eq_false (by simp)];exact q
theorem aZ{pre post:List Nat}{j:Int}{st:Int}(hz:T.length<=zi)(hs:st=pre.length)(h:tl T=pre++nmL j++post)(ho:HA 48 57 post)(q:Q (.bl true) G):Wp (M6 [.str T,.int st]) G Q:=by
 subst hs;have hs:tl T=pre++(nmL j++post):=by rw[h,zD]
 refine m9<| o9<| QJ.mpr<| M5 (G:=G) rfl rfl rfl ?_;rcases kC j with⟨m,rfl⟩|⟨m,hm,rfl⟩
 · have en:=nB m;rw[W6 hs (c:=45) (ps:= []) rfl λc r e=>by
    rw[en]at e;rcases k:dg m with _|⟨x,y⟩
    ·exact absurd k (g7 m)
    ·rw[k]at e;have e:=(jG e).1;have:=w8 m x (by rw[k];exact zr ..);lia]
   refine O5.mpr ?_;rw[if_neg zv];refine bin_w<| j4 (as:= [.str T,.int pre.length,.str ⟨#[48]⟩,.str ⟨#[57]⟩]) rfl rfl<| NC (run:=dg m) hz rfl (by rw[h,en]) (w8 m) ho<| b8 (a:=.int pre.length) (G':=G) rfl<| A9.mpr<| o4 ?_;have:=Zu.mpr (g7 m);rw[decide_eq_true (by lia)];exact q
 ·rw[V0 hs (r:=dg m++post) (by rw[eC m hm];rfl)];refine O5.mpr ?_;rw[if_pos rfl];exact o4 q
end
def stW(post:List Nat):Prop:=∀c r,post=c::r->c=32
theorem stW.off{post:List Nat}(h:stW post):HA 48 57 post:=λc r e=>by rw[h c r e];decide
section
variable{T:Str}{G:DH}{Q:DPP}
theorem NK{pre post:List Nat}{a:Option Int}{j at':Int}(hz:T.length<=zi)(ha:at'=pre.length)(hj:smI j)(ok:okR (a,some j))(h:tl T=pre++[46,46]++nmL j++post)(hp:stW post)(q:Q (.tup [sN [(a,some j)],.int ((pre.length:Int)+2+(nmL j).length)]) G):
 Wp (P0 [.str T,.int at',J8 a]) G Q:=by
 subst ha;have e2:((pre++[46,46]).length:Int)= (pre.length:Int)+2:=by rw[zf];rfl
 refine m9 (show Wp (Z3 [some (.str T),some (.int pre.length),some (J8 a),none,none]) G _ from ?_);refine o7 (X1:= [some (.str T),some (.int pre.length),some (J8 a),some (.int ((pre.length:Int)+2)),none]) (G':=G) rfl ?_;have rest:Wp (seqS (G9 (D0 S6 c0 y0) Q2) (seqS (ifS (Q1 (tBn i6 i0 A0) (tBn gtD i0 (ixE C0 l0))) stuckS nextS) (o8 (F0 (D0 S5 i0 (ixE C0 l0)) (ixE C0 g0)))) [some (.str T),some (.int pre.length),some (J8 a),some (.int ((pre.length:Int)+2)),none]) G (PB Q):=by
  refine f9.mpr<| v6<| j4 (as:= [.str T,.int ((pre.length:Int)+2)]) rfl rfl ?_;rw[<-e2];refine sK hz hj h hp.off ?_;rw[e2];have fin:Wp ((o8 (F0 (D0 S5 i0 (ixE C0 l0)) (ixE C0 g0))) [some (.str T),some (.int pre.length),some (J8 a),some (.int ((pre.length:Int)+2)),some (.tup [.int j,.int ((pre.length:Int)+2+(nmL j).length)])]) G (PB Q):=
   o9<| D4.mpr<| o6<| j4 (as:= [J8 a,.int j]) rfl rfl<| HE (r:=(a,some j)) ok<| b8 (a:= [.int ((pre.length:Int)+2+(nmL j).length)]) (G':=G) rfl ⟨sz,o4 q⟩
  rcases a with _|a
  ·exact o7 (G':=G) rfl fin
  ·have:=ok a j rfl rfl;refine f9.mpr<| M3<| A5<| b8 (a:=true) (G':=G) rfl ⟨λ_=>u6<| bin_w<| b8 (a:=.int a) (G':=G) rfl<| b8 (a:=.int j) (G':=G) rfl<| A9.mpr ⟨_,rfl,λk=>?_,λ_=>u5.mpr fin⟩,λz=>(nomatch z)⟩;have:=of_decide_eq_true k;lia
 rcases a with _|a
 ·exact o7 (G':=G) rfl rest
 ·refine f9.mpr<| M3<| A5<| b8 (a:=true) (G':=G) rfl ⟨λ_=>L6.mpr<| nA<| j4 (as:= [.str T,.int ((pre.length:Int)+2)]) rfl rfl<| aZ hz e2.symm h hp.off ⟨rfl,λz=>(nomatch z),λ_=>u5.mpr rest⟩,λz=>(nomatch z)⟩
theorem tW{pre post:List Nat}{a at':Int}(hz:T.length<=zi)(ha:at'=pre.length)(h:tl T=pre++[46,46]++post)(hp:stW post)(q:Q (.tup [sN [(some a,none)],.int ((pre.length:Int)+2)]) G):
 Wp (P0 [.str T,.int at',.int a]) G Q:=by
 subst ha;have e2:((pre++[46,46]).length:Int)= (pre.length:Int)+2:=by rw[zf];rfl
 refine m9 (show Wp (Z3 [some (.str T),some (.int pre.length),some (.int a),none,none]) G _ from ?_);refine o7 (X1:= [some (.str T),some (.int pre.length),some (.int a),some (.int ((pre.length:Int)+2)),none]) (G':=G) rfl<| f9.mpr<| M3<| A5<| b8 (a:=true) (G':=G) rfl ⟨λ_=>L6.mpr<| MB<| j4 (as:= [.str T,.int ((pre.length:Int)+2)]) rfl rfl<| wU hz e2.symm h hp ⟨rfl,λ_=>?_,λz=>(nomatch z)⟩,λz=>(nomatch z)⟩;exact o9<| D4.mpr<| o6<| j4 (as:= [.int a,.non]) rfl rfl<| HE (r:=(some a,none)) (λ_ _ _ e=>nomatch e)<| b8 (a:= [.int ((pre.length:Int)+2)]) (G':=G) rfl ⟨sz,o4 q⟩
abbrev wS(T:Str)(p:Nat)(u:Option D):DSt:= [some (.str T),sIi p,some (.int 1),u,none]
theorem rQ:wC=seqS (ifS (truthE (mtE isStrM startsD c0 (H0 (cSt "[") d0))) stuckS nextS) (seqS (ifS (truthE (mtE isStrM startsD c0 (H0 (cSt "{") d0))) stuckS nextS) (seqS (ifS (truthE (mtE isStrM startsD c0 (H0 (cSt "text but") d0))) stuckS nextS) (seqS WL WZ))):=rfl
theorem mG{p:Nat}{k:Str}(h:W9 T k (p:Int)=false):WK (wS T p (some (.str k))) G=some (.ok (.nx (wS T p (some (.str k)))),G):=by refine j3<| M3<| MB<| M5 (G:=G) (T:=T) (p:=k) (i:=p) rfl rfl rfl ?_;rw[h];exact⟨rfl,λz=>(nomatch z),λ_=>u5.mpr ⟨rfl,rfl⟩⟩
theorem QM{p:Nat}(h1:W9 T ("number" :Str) (p:Int)=false)(h2:W9 T ("text" :Str) (p:Int)=false)(h3:W9 T ("truth" :Str) (p:Int)=false):∃u,WL (wS T p none) G=some (.ok (.nx (wS T p u)),G):=by refine⟨some (.str ("truth" :Str)),j3<| C8.mpr<| wp_itW.mpr<| b8 (a:=.tup [.str ("number" :Str),.str ("text" :Str),.str ("truth" :Str)]) (G':=G) rfl<| srcW_tup.mpr ?_⟩;refine Z4.mpr ⟨rfl,O6.mpr<| b8 (mG h1)<| Z4.mpr ⟨rfl,O6.mpr<| b8 (mG h2)<| Z4.mpr ⟨rfl,O6.mpr<| b8 (mG h3)<| EA.mpr ⟨rfl,rfl,rfl⟩⟩⟩⟩
theorem oO{pre post:List Nat}{r:Rg}{at':Int}(hz:T.length<=zi)(ha:at'=pre.length)(hr:smR r)(ok:okR r)(h:tl T=pre++swL r++post)(hp:stW post)(q:Q (.tup [sN [r],.int ((pre.length:Int)+(swL r).length)]) G):
 Wp (FD [.str T,.int at',.int 1]) G Q:=by
 subst ha;refine m9 (show Wp (wC (wS T pre.length none)) G _ from ?_);rw[rQ];have hs:tl T=pre++(swL r++post):=by rw[h,zD]
 obtain⟨a,b⟩:=r;rcases a with _|a
 · rcases b with _|b
   ·have h':tl T=pre++(110::(117::109::98::101::114::post)):=hs;refine T1 (noF h' rfl (c:=91) rfl (by decide))<| T1 (noF h' rfl (c:=123) rfl (by decide))<| T1 (noF h' rfl (c:=116) rfl (by decide)) ?_;refine f9.mpr<| C8.mpr<| wp_itW.mpr<| b8 (a:=.tup [.str ("number" :Str),.str ("text" :Str),.str ("truth" :Str)]) (G':=G) rfl<| srcW_tup.mpr ?_;refine Z4.mpr ⟨rfl,O6.mpr<| M3<| nA<| M5 (G:=G) (T:=T) (p:=("number" :Str)) (i:=pre.length) rfl rfl rfl ?_⟩;rw[V0 h' (r:=post) rfl];refine⟨rfl,λ_=>o9<| b8 (a:=.tup [sN [(none,none)],.int ((pre.length:Int)+6)]) (G':=G) rfl<| o4 q,λz=>(nomatch z)⟩
   ·have h':tl T=pre++(46::(46::nmL b++post)):=hs;refine T1 (noF h' rfl (c:=91) rfl (by decide))<| T1 (noF h' rfl (c:=123) rfl (by decide))<| T1 (noF h' rfl (c:=116) rfl (by decide)) ?_;obtain⟨u,eu⟩:=QM (T:=T) (G:=G) (p:=pre.length) (noF h' rfl (c:=110) rfl (by decide)) (noF h' rfl (c:=116) rfl (by decide)) (noF h' rfl (c:=116) rfl (by decide));refine o7 eu<| ML (V0 h' (r:=nmL b++post) rfl)<| j4 (as:= [.str T,.int pre.length,.non]) rfl rfl<| NK (a:=none) hz rfl (hr.2 b rfl) ok (by rw[h];simp[swL]) hp<| o4 ?_;rw[show (pre.length:Int)+2+(nmL b).length= (pre.length:Int)+(swL (none,some b)).length by show _= (pre.length:Int)+(([46,46]++nmL b).length:Int);rw[zf];show _=_+((2+_:Nat):Int);lia];exact q
 · obtain⟨c,r,e,hc⟩:=mH a;obtain⟨t,et⟩:∃t,swL (some a,b)=nmL a++t:=by
    rcases b with _|b
    ·exact⟨_,rfl⟩
    · by_cases k:a=b
      ·exact⟨[],by rw[jt];exact if_pos k⟩
      ·exact⟨[46,46]++nmL b,by rw[<-zD];exact if_neg k⟩
   have h':tl T=pre++(c::(r++t++post)):=by rw[hs,et,e];simp
   refine T1 (noF h' rfl (c:=91) rfl (by lia))<| T1 (noF h' rfl (c:=123) rfl (by lia))<| T1 (noF h' rfl (c:=116) rfl (by lia)) ?_;obtain⟨u,eu⟩:=QM (T:=T) (G:=G) (p:=pre.length) (noF h' rfl (c:=110) rfl (by lia)) (noF h' rfl (c:=116) rfl (by lia)) (noF h' rfl (c:=116) rfl (by lia));have h2:tl T=pre++nmL a++(t++post):=by rw[hs,et];simp
   refine o7 eu<| T1 (noF h' rfl (c:=46) rfl (by lia))<| f9.mpr<| v6<| j4 (as:= [.str T,.int pre.length,.int 1]) rfl rfl<| rS hz (hr.1 a rfl) h2 ?_ ?_
   · intro x y z;rcases b with _|b
     · rcases t with _|⟨d,t⟩
       ·exact hp.off x y z
       ·have:nmL a++[46,46]=nmL a++(d::t):=et;have:=jn this;rw[<-(jG z).1,<-(jG this).1];decide
     · rcases t with _|⟨d,t⟩
       ·exact hp.off x y z
       · by_cases k:a=b
         ·rw[show swL (some a,some b)=nmL a from if_pos k]at et;have:=congrArg xI et;simp at this
         ·rw[show swL (some a,some b)=nmL a++[46,46]++nmL b from if_neg k,zD]at et;have:=jn et;rw[<-(jG z).1,<-(jG this).1];decide
   · have el:((pre++nmL a).length:Int)= (pre.length:Int)+(nmL a).length:=by rw[zf];lia
     have ask:∀ {X Y:Fs} {P:Fl->DH->Prop} {bb:Bool},W9 T (".." :Str) ((pre.length:Int)+(nmL a).length)=bb->Wp ((if bb=true then X else Y) [some (.str T),some (.int pre.length),some (.int 1),u,some (.tup [.int a,.int ((pre.length:Int)+(nmL a).length)])]) G P->Wp (ifS (Q1 (truthE (B0 aE (ixE C0 l0))) (truthE (mtE isStrM startsD c0 (H0 (cSt "..") (ixE C0 g0))))) X Y [some (.str T),some (.int pre.length),some (.int 1),u,some (.tup [.int a,.int ((pre.length:Int)+(nmL a).length)])]) G P:=λ{X Y P bb} eb w=>by
      refine M3<| A5<| b8 (a:=true) (G':=G) rfl ⟨λ_=>a9.mpr<| M5 (G:=G) (T:=T) (p:=(".." :Str)) (i:=(pre.length:Int)+(nmL a).length) rfl rfl rfl<| O5.mpr ?_,λz=>(nomatch z)⟩;rw[eb]
      cases bb
      ·exact⟨λz=>(nomatch z),λ_=>w⟩
      ·exact⟨λ_=>w,λz=>(nomatch z)⟩
     by_cases hab:b=some a
     · subst hab;have sw:swL (some a,some a)=nmL a:=if_pos rfl;rw[sw]at h q;have hb:W9 T (".." :Str) ((pre.length:Int)+(nmL a).length)=false:=by
        rw[<-el];exact W6 h (c:=46) (ps:= [46]) rfl λx y z=>by rw[hp x y z];decide
       refine f9.mpr<| ask hb<| u5.mpr<| o9<| D4.mpr<| o6<| j4 (as:= [.int a]) rfl rfl<| Cz<| b8 (a:= [.int ((pre.length:Int)+(nmL a).length)]) (G':=G) rfl ⟨sz,o4 q⟩
     · obtain⟨t',rfl⟩:∃t',t= [46,46]++t':=by
        rcases b with _|b
        ·exact⟨[],jn (show nmL a++t=nmL a++[46,46]from et.symm)⟩
        ·rw[show swL (some a,some b)=nmL a++[46,46]++nmL b from if_neg λz=>hab (by rw[z]),zD]at et;exact⟨_,(jn et).symm⟩
       have hb:W9 T (".." :Str) ((pre.length:Int)+(nmL a).length)=true:=by rw[<-el];exact V0 h2 (r:=t'++post) (by rw[zD];rfl)
       refine f9.mpr<| ask hb<| o9<| j4 (as:= [.str T,.int ((pre.length:Int)+(nmL a).length),.int a]) rfl rfl ?_;rcases b with _|b
       · have:t'= []:=by
          have:=jn (show nmL a++([46,46]++[])=nmL a++([46,46]++t')from et);exact(jn this).symm
         subst this;refine tW hz el.symm (by rw[h2];simp) hp<| o4 ?_;rw[show (((pre++nmL a).length:Nat):Int)+2= (pre.length:Int)+(swL (some a,none)).length by rw[et,zf,zf];show _=_+((_+2:Nat):Int);lia];exact q
       · have sw:swL (some a,some b)=nmL a++[46,46]++nmL b:=if_neg λz=>hab (by rw[z]);have:t'=nmL b:=by
          rw[sw,zD]at et;exact(jn (jn et)).symm
         subst this;refine NK (a:=some a) hz el.symm (hr.2 b rfl) ok (by rw[h2];simp) hp<| o4 ?_;rw[show (((pre++nmL a).length:Nat):Int)+2+(nmL b).length= (pre.length:Int)+(swL (some a,some b)).length by rw[sw,zf,zf,zf];show _=_+((_+2+_:Nat):Int);lia];exact q
end
def evL:List D->List D
 |a::_::r=>a::evL r
 |l=>l
def odL:List D->List D
 |_::b::r=>b::odL r
 |_=> []
theorem VH(n:Nat):x5 n (some 0) none (some 2)= (zJ ((n+1) / 2)).map λk=>2*k:=by
 unfold x5 jZ Xq;have hc:(if (2:Int)>0 then (if max 0 (min (0:Int) n)<(n:Int)then ((n:Int)-max 0 (min (0:Int) n)+2-1) / 2 else 0)else (if max 0 (min (0:Int) n)>(n:Int)then (max 0 (min (0:Int) n)-(n:Int)-2-1) / (-2)else 0)).toNat= (n+1) / 2:=by rw[if_pos (by decide)];split<;>lia
 show (zJ (if (2:Int)>0 then (if max 0 (min (0:Int) n)<(n:Int)then ((n:Int)-max 0 (min (0:Int) n)+2-1) / 2 else 0)else (if max 0 (min (0:Int) n)>(n:Int)then (max 0 (min (0:Int) n)-(n:Int)-2-1) / (-2)else 0)).toNat).map (λk:Nat=>(max 0 (min (0:Int) n)+2*(k:Int)).toNat)=_;rw[hc];refine yh λk _=>?_;lia
theorem vY(n:Nat):x5 n (some 1) none (some 2)= (zJ (n / 2)).map λk=>2*k+1:=by
 unfold x5 jZ Xq;have hc:(if (2:Int)>0 then (if max 0 (min (1:Int) n)<(n:Int)then ((n:Int)-max 0 (min (1:Int) n)+2-1) / 2 else 0)else (if max 0 (min (1:Int) n)>(n:Int)then (max 0 (min (1:Int) n)-(n:Int)-2-1) / (-2)else 0)).toNat=n / 2:=by rw[if_pos (by decide)];split<;>lia
 show (zJ (if (2:Int)>0 then (if max 0 (min (1:Int) n)<(n:Int)then ((n:Int)-max 0 (min (1:Int) n)+2-1) / 2 else 0)else (if max 0 (min (1:Int) n)>(n:Int)then (max 0 (min (1:Int) n)-(n:Int)-2-1) / (-2)else 0)).toNat).map (λk:Nat=>(max 0 (min (1:Int) n)+2*(k:Int)).toNat)=_;rw[hc];refine yh λk hk=>?_;have:=jW.mp hk;lia
theorem BH:∀l:List D,((zJ ((l.length+1) / 2)).map λk=>2*k).filterMap (l[·]?)=evL l
 |[]=>rfl
 |[a]=>by rw[show ([a].length+1) / 2=1 by simp];rfl
 |a::b::r=>by
   have e:((a::b::r).length+1) / 2= (r.length+1) / 2+1:=by simp only[zw];lia
   rw[e,yn,zN,ji];show a::_=a::evL r;congr 1;rw[<-BH r,jM,yo,yo];rfl
theorem fL:∀l:List D,((zJ (l.length / 2)).map λk=>2*k+1).filterMap (l[·]?)=odL l
 |[]=>rfl
 |[a]=>by rw[show [a].length / 2=0 by simp];rfl
 |a::b::r=>by
   have e:(a::b::r).length / 2=r.length / 2+1:=by simp only[zw];lia
   rw[e,yn,zN,ji];show b::_=b::odL r;congr 1;rw[<-fL r,jM,yo,yo];rfl
theorem TM(l:List D):E7 l (some 0) none (some 2)=evL l:=by unfold E7;rw[VH,BH]
theorem FP(l:List D):E7 l (some 1) none (some 2)=odL l:=by unfold E7;rw[vY,fL]
abbrev ofD:D:=.tup [.str ("of" :Str),.tup []]
section
variable{G:DH}{Q:DPP}
theorem uU{r:Nat}{l:List D}{ps:List (Key×D)}(e:G[r]? =some (.lst l))(h:lA l=some ps):Wp (GA [.ref r]) G Q↔Q (.ref G.length) (G++[.dct (CB [] ps)]):=by unfold GA;simp only[d9,K4,e,Q5,DL.listOf,d8,n9,h,R0]
theorem Dd(q:∀G',Ap G G'->Q (.tup []) G'):Wp (T4 [.tup []]) G Q:=by
 refine m9<| o9<| N5<| o6 ?_;refine d9.mpr<| j4 (as:= [.tup []]) rfl rfl<| m9<| o9<| N5<| o6<| AC (l:= []) (G1:=G) rfl (by decide)<| aD.mpr ⟨rfl,w5.mpr<| (uU j9 (ps:= []) rfl).mpr<| o4 ?_⟩;refine d9.mpr<| K4.mpr ⟨_,j9,?_⟩;refine d9.mpr<| n9.mpr ⟨[],rfl,?_⟩;have e:∀H:DH,(if ([]:List Str).length<64 then r8 T5 (([]:List Str).map D.str)else M.stuck) H=some (.ok (.ref H.length),H++[.lst []]):=λH=>by rw[if_pos (by decide)];unfold r8;rw[M.bind_ok (show M8 T5 (([]:List Str).map D.str) H=some (.ok [],H)from rfl),M.bind_ok (show N0 (HB []) H=some (.ok [],H)from rfl),if_pos List.nodup_nil,show L8 [] (([]:List Str).map D.str)= [] by unfold L8;simp];rfl
 exact b8 (e _)<| w5.mpr<| (EC j9).mpr<| o4<| q _ ((Ap.one.trans Ap.one).trans Ap.one)
theorem Ch(q:∀G',Ap G G'->Q ofD G'):Wp (Z5 [ofD,ofD]) G Q:=by refine m9<| o9<| N5<| o6<| j4 (as:= [.tup [.str ("but" :Str),.tup []],.tup [.str ("but" :Str),.tup []]]) (G1:=G) rfl rfl ?_;refine m9<| o7 (G':=G) rfl<| o7 (G':=G) rfl<| o7 (G':=G) rfl<| o9<| D4.mpr<| o6<| b8 (a:=.str ("but" :Str)) (G':=G) rfl<| o6<| j4 (as:= [.tup [],.tup []]) rfl rfl ?_;refine m9<| o9<| j4 (as:= [.tup []]) (G1:=G) rfl rfl<| Dd λG' a=>o4<| w5.mpr ⟨sz,o4<| w5.mpr<| N4.mpr ⟨rfl,?_⟩⟩;exact Z7 (d:=ofD) (G':=G') rfl<| o4<| q _ a
end
section
variable{G:DH}{Q:DPP}
theorem tX{a b:List Rg}(ha:∀p∈a,okR p)(hb:∀p∈b,okR p)(hl:a.length+b.length<64)(q:∀m G',nC (a++b) m->m.length<=a.length+b.length->Ap G G'->Q (sN m) G'):Wp (WC [sN a,sN b]) G Q:=by
 have bg:=big;have e0:rsD a++rsD b=rsD (a++b):=(jk ..).symm;have hz:(rsD a).length+(rsD b).length<=zi:=by rw[D9,D9];lia
 refine m9 (show Wp (lF [some (sN a),some (sN b)]) G _ from o7 (G':=G) rfl ?_);refine o9<| N5<| o6<| N5<| o6<| N5<| o6<| bin_w<| b8 (a:=.tup (rsD a)) (G':=G) rfl<| b8 (a:=.tup (rsD b)) (G':=G) rfl<| (UY hz).mpr<| w5.mpr<| ww.mpr<| w5.mpr<| N4.mpr ⟨rfl,?_⟩;rw[e0];refine cY (l:=a++b) (λp hp=>(zU.mp hp).elim (ha p) (hb p)) j9 (by rw[zf];exact hl) λm G1 s hm a1=>?_;rw[zf]at hm;refine o6<| j4 (as:= [ofD,ofD]) rfl rfl<| Ch λG2 a2=>o6<| N5<| o6<| AC (l:= [.bl false,.bl true]) (G1:=G2) rfl (by decide)<| b8 (a:= []) (G':=G2) rfl<| w5.mpr<| (EC j9).mpr ?_;refine b8 (a:= [.non,.non]) (G':=_) rfl<| N4.mpr ⟨rfl,TK<| o4<| q m _ s hm (((Ap.one.trans a1).trans a2).trans Ap.one)⟩
end
inductive Rnd:List (List Rg)->List (List Rg)->Prop
 |nil:Rnd [] []
 |one {a:List Rg}:Rnd [a] [a]
 |two {a b m:List Rg} {r s:List (List Rg)} (h:nC (a++b) m) (hl:m.length<=a.length+b.length) (k:Rnd r s):Rnd (a::b::r) (m::s)
def tot(L:List (List Rg)):Nat:=(L.map xI).sum
def inU(L:List (List Rg))(x:Int):Prop:=∃l∈L,inS l x
theorem iE{a:List Rg}{L:List (List Rg)}{x:Int}:inU (a::L) x↔inS a x\/inU L x:=by
 unfold inU;constructor
 · rintro⟨l,hl,h⟩;rcases zz.mp hl with rfl|hl
   ·exact .inl h
   ·exact .inr ⟨l,hl,h⟩
 · rintro(h|⟨l,hl,h⟩)
   ·exact⟨a,zr ..,h⟩
   ·exact⟨l,zk _ hl,h⟩
theorem oA{a:List Rg}{L:List (List Rg)}:tot (a::L)=a.length+tot L:=rfl
theorem Rnd.facts{L M:List (List Rg)}(h:Rnd L M):(∀x,inU L x↔inU M x)/\tot M<=tot L/\M.length= (L.length+1) / 2/\((∀l∈L,Can l)->∀l∈M,Can l):=by
 induction h with
 |nil=>exact⟨λ_=>.rfl,zh _,rfl,λh=>h⟩
 |one=>exact⟨λ_=>.rfl,zh _,by simp,λh=>h⟩
 |@two a b m r s h hl k ih=>
   obtain⟨h1,h2,h3,h4⟩:=ih;refine⟨λx=>?_,?_,?_,λhc l hm=>?_⟩
   ·rw[iE,iE,iE,h.2 x,lD,h1 x,or_assoc]
   ·rw[oA,oA,oA];lia
   ·simp only[zw,h3];lia
   · rcases zz.mp hm with rfl|hm
     ·exact h.1
     ·exact h4 (λy hy=>hc y (zk _ (zk _ hy))) l hm
def JAA:DSt->M (List D):=(H0 (E9 d0 (O2 l0) (X4) (O2 U2)) (E9 d0 (O2 g0) (X4) (O2 U2)))
def JAB:Fs:=(asQ (N6 (F5 JAA) [none,none] g01 (K2) JAE) S0 (G9 (j6 J6 i0 (X3 d0 (O2 (j6 L1 U2 (z0 S8 i0))) (X4))) I0))
theorem DU:GD=seqS (G9 (z0 c8 c0) I0) (seqS (U5 JAT JAB) (o8 (ixE d0 l0))):=rfl
theorem pO{G:DH}{a:Nat}{l:List D}{Q:DPP}(e:G[a]? =some (.lst l))(q:Q (.ref G.length) (G++[.lst l])):Wp (c8 [.ref a]) G Q:=by show Wp (do let l <-J5 a >>= DL.listOf;J4 (.lst l)) G Q;exact d9.mpr<| d9.mpr<| K4.mpr ⟨_,e,d8.mpr<| R0.mpr q⟩
theorem fQ{fs:DSt->M (List D)}{σ:DSt}{G G1:DH}{a b:Nat}{k l:List D}{R:Src->DH->Prop}(e:fs σ G=some (.ok [.ref a,.ref b],G1))(ea:G1[a]? =some (.lst k))(eb:G1[b]? =some (.lst l))(q:R ⟨(k.zip l).map λp=>.tup [p.1,p.2],λG=>ckO a (.lst k) G&&ckO b (.lst l) G⟩ G1):Wp (F5 fs σ) G R:=by unfold F5;refine d9.mpr (b8 e ?_);show Wp (do let s1 <-(do let o <-J5 a;let l <-DL.listOf o;pure ⟨l,ckO a o⟩:M Src);let s2 <-(do let o <-J5 b;let l <-DL.listOf o;pure ⟨l,ckO b o⟩:M Src);pure ⟨(s1.items.zip s2.items).map λp=>.tup [p.1,p.2],λG=>s1.ck G&&s2.ck G⟩:M Src) G1 R;exact d9.mpr<| d9.mpr<| K4.mpr ⟨_,ea,d9.mpr<| d8.mpr<| d8.mpr<| d9.mpr<| d9.mpr<| K4.mpr ⟨_,eb,d9.mpr<| d8.mpr<| d8.mpr<| d8.mpr q⟩⟩
section
variable{G:DH}{x:Option D}{q:Nat}
theorem GV{l:List D}{u:Option D}(e:G[q]? =some (.lst l)):JAT [x,sRf q,u] G=some (.ok (decide ((l.length:Int)>1)),G):=j3<| u6<| bin_w<| T8 (as:= [.ref q]) rfl<| (CD e).mpr<| b8 (a:=.int 1) (G':=G) rfl<| IP.mpr ⟨_,rfl,rfl,rfl⟩
theorem PR{l:List D}{u:Option D}(e:G[q]? =some (.lst l)):JAA [x,sRf q,u] G=some (.ok [.ref G.length,.ref (G++[DO.lst (evL l)]).length],G++[.lst (evL l)]++[.lst (odL l)]):=by
 have:=(show Wp (JAA [x,sRf q,u]) G λds G'=>ds= [.ref G.length,.ref (G++[DO.lst (evL l)]).length]/\G'=G++[.lst (evL l)]++[.lst (odL l)] from
  o6<| QK.mpr<| b8 (a:=.ref q) (G':=G) rfl<| b8 (a:=some 0) (G':=G) rfl<| b8 (a:=none) (G':=G) rfl<| b8 (a:=some 2) (G':=G) rfl<| (NH e (by decide)).mpr<| by
   rw[TM];exact o6<| QK.mpr<| b8 (a:=.ref q) (G':=G++[.lst (evL l)]) rfl<| b8 (a:=some 1) (G':=G++[.lst (evL l)]) rfl<| b8 (a:=none) (G':=G++[.lst (evL l)]) rfl<| b8 (a:=some 2) (G':=G++[.lst (evL l)]) rfl<| (NH (v9 e) (by decide)).mpr<| by
    rw[FP];exact w5.mpr ⟨rfl,rfl⟩)
 obtain⟨a,G',e1,rfl,rfl⟩:=this;exact e1
theorem cM{ck:DH->Bool}{G0:DH}(Hf:∀G',Ap G0 G'->ck G'=true):∀(L:List (List Rg)) (u v:Option D) (G:DH),Ap G0 G->(∀l∈L,Can l)->tot L<64->
 Wp (M7 g01 K2 JAE ck (((evL (L.map sN)).zip (odL (L.map sN))).map λp=>.tup [p.1,p.2]) [u,v]) G λys G'=>∃J,ys=J.map sN/\Rnd L (J++L.drop (2*J.length))/\J.length<=L.length/\Ap G0 G'
 |[],u,v,G,a0,hc,hl=>aD.mpr ⟨Hf G a0, [],rfl,.nil,zh _,a0⟩
 |[a],u,v,G,a0,hc,hl=>aD.mpr ⟨Hf G a0, [],rfl,.one,zW _,a0⟩
 |a::b::r,u,v,G,a0,hc,hl=>by
   rw[oA,oA]at hl;have ca:=hc a (zr ..);have cb:=hc b (zk _ (zr ..));refine EJ.mpr ⟨Hf G a0,b8 (a:= [some (sN a),some (sN b)]) (G':=G) rfl<| b8 (a:=true) (G':=G) rfl ?_⟩;rw[if_pos rfl];refine j4 (as:= [sN a,sN b]) rfl rfl<| tX ca.1 cb.1 (by lia) λm G1 s hm a1=>?_;refine(cM Hf r _ _ G1 (a0.trans a1) (λl hl=>hc l (zk _ (zk _ hl))) (by lia)).mono ?_;rintro _ G2 ⟨J,rfl,rn,lj,a2⟩;refine⟨m::J,rfl,?_,by simp only[zw];lia,a2⟩;have e:2*(m::J).length=2*J.length+1+1:=by rw[zw];lia
   rw[e];exact .two s hm rn
theorem qU{L:List (List Rg)}{u:Option D}(e:G[q]? =some (.lst (L.map sN)))(hc:∀l∈L,Can l)(hl:tot L<64)(hn:L.length<=200):
 Wp (JAB [x,sRf q,u]) G λfl G'=>∃q' u' M,fl= .nx [x,sRf q',u']/\G'[q']? =some (.lst (M.map sN))/\Rnd L M:=by
 have bg:=big;have ea:(G++[DO.lst (evL (L.map sN))]++[DO.lst (odL (L.map sN))])[G.length]? =some (.lst (evL (L.map sN))):=v9 j9;have eb:(G++[DO.lst (evL (L.map sN))]++[DO.lst (odL (L.map sN))])[(G++[DO.lst (evL (L.map sN))]).length]? =some (.lst (odL (L.map sN))):=j9;have le:∀l:List D,(evL l).length<=l.length:=λl=>by
  rw[<-TM];unfold E7;refine zP (List.length_filterMap_le ..) ?_;rw[VH,zn,yW];rcases l with _|⟨_,_⟩
  ·decide
  ·simp only[zw];lia
 have lz:(((evL (L.map sN)).zip (odL (L.map sN))).map λp=>D.tup [p.1,p.2]).length<=zi:=by have:=le (L.map sN);rw[zn]at this;rw[zn,List.length_zip];lia
 refine f9.mpr<| v6<| wp_comp.mpr<| fQ (PR e) ea eb ⟨lz,(cM (G0:=G++[DO.lst (evL (L.map sN))]++[DO.lst (odL (L.map sN))]) (λG' a=>by show (ckO _ _ G'&&ckO _ _ G')=true;rw[u7 (a.at ea),u7 (a.at eb)];rfl) L none none _ Ap.refl hc hl).mono ?_⟩;rintro _ G2 ⟨J,rfl,rn,lj,a2⟩;have e2:(G2++[DO.lst (J.map sN)])[q]? =some (.lst (L.map sN)):=v9 (a2.at (v9 (v9 e)));refine v6<| bin_w<| b8 (a:=.ref G2.length) (G':=_) rfl<| lB.mpr<| b8 (a:=.ref q) (G':=_) rfl<| vI.mpr<| bin_w<| b8 (a:=.int 2) (G':=_) rfl<| T8 (as:= [.ref G2.length]) rfl<| (CD j9).mpr<| (Q3 (Or.inl ⟨by decide,by decide⟩)).mpr ⟨_,rfl,BL.mpr<| (iD e2).mpr ?_⟩;have ec:DL.cutD (L.map sN) (some (2*((J.map sN).length:Int))) none= (L.drop (2*J.length)).map sN:=by rw[zn,show (2*(J.length:Int))= ((2*J.length:Nat):Int) by lia,UJ,List.map_drop]
 rw[ec];refine(QE (v9 j9) j9 (by rw[zn,zn,yJ];lia)).mpr ⟨_,_,J++L.drop (2*J.length),rfl,?_,rn⟩;rw[j9,jk]
abbrev JAS(x:Option D)(n:Nat):Prop:=∀(L:List (List Rg)) (q:Nat) (u:Option D) (G:DH),L.length<=n+1->L≠ []->G[q]? =some (.lst (L.map sN))->(∀l∈L,Can l)->tot L<64->L.length<=200->
 Wp (J7 (n+1) JAT JAB [x,sRf q,u]) G λfl G'=>∃q' u' m,fl= .nx [x,sRf q',u']/\G'[q']? =some (.lst [sN m])/\Can m/\∀y,inS m y↔inU L y
theorem wI{n:Nat}(ih:∀m,n=m+1->JAS x m):JAS x n:=by
 intro L q u G hn Gg e hc hl h2;refine R9.mpr<| b8 (GV e) ?_;rw[zn];by_cases k:(L.length:Int)>1
 ·rw[decide_eq_true k,if_pos rfl];refine(qU e hc hl h2).mono ?_;rintro _ G1 ⟨q',u',M,rfl,e1,rn⟩;obtain⟨f1,f2,f3,f4⟩:=rn.facts;obtain⟨m,rfl⟩:∃m,n=m+1:=⟨n-1,by lia⟩;refine(ih m rfl M q' u' G1 (by lia) (λz=>by rw[z]at f3;simp at f3;lia) e1 (f4 hc) (by lia) (by lia)).mono ?_;rintro _ G2 ⟨q2,u2,m,rfl,e2,cm,im⟩;exact⟨q2,u2,m,rfl,e2,cm,λy=>by rw[im y,f1 y]⟩
 · rw[decide_eq_false k,if_neg zv];rcases L with _|⟨l,_|⟨_,_⟩⟩
   ·exact absurd rfl Gg
   ·refine⟨q,u,l,rfl,e,hc l (zr ..),λy=>?_⟩;rw[iE];exact⟨.inl,λz=>z.elim id fun⟨_,h,_⟩=>nomatch h⟩
   ·simp only[zw]at k;lia
theorem kM:∀n:Nat,JAS x n
 |0=>wI λm z=>nomatch z
 |n+1=>wI λm z=>by cases z;exact kM n
theorem DX{L:List (List Rg)}{c:Nat}{Q:DPP}(Gg:L≠ [])(e:G[c]? =some (.lst (L.map sN)))(hc:∀l∈L,Can l)(hl:tot L<64)(h2:L.length<=200)(h:∀m G',Can m->(∀y,inS m y↔inU L y)->Q (sN m) G'):Wp (LC [.ref c]) G Q:=by refine m9 (show Wp (GD [sRf c,none,none]) G _ from ?_);rw[DU];refine f9.mpr<| v6<| T8 (as:= [.ref c]) rfl<| pO e<| f9.mpr<| vB (n:=L.length+1)<| (kM L.length L _ none _ (Nat.le_succ _) Gg j9 hc hl h2).mono ?_;rintro _ G1 ⟨q',u',m,rfl,e1,cm,im⟩;exact o9<| Dk (x:=.ref _) (y:=.int 0) rfl rfl<| (QD e1).mpr ⟨sN m,rfl,o4<| h m G1 cm im⟩
end
def f7(l:List Rg):List D:=l.map λs=>sN [s]
def VT:DSt->M Bool:=(truthE cBt)
theorem qm:vE=seqS (G9 (U9 o0) C2) (U5 VT VBd):=rfl
theorem tN(L:List (List Nat)):stW (glL cOr L):=λc r e=>by
 rcases L with _|⟨a,t⟩
 ·cases e
 ·exact(jG e).1.symm
section
variable{T:Str}{c:Nat}
abbrev vS(T:Str)(i:Int)(c:Nat)(u:Option D):DSt:= [some (.str T),some (.int i),some (.int 1),sRf c,u]
theorem dI{dn:List Rg}{r:Rg}{pre post:List Nat}{u:Option D}{G:DH}{P:Fl->DH->Prop}(hz:T.length<=zi)(hr:smR r/\okR r)(h:tl T=pre++swL r++post)(hp:stW post)(e:G[c]? =some (.lst (f7 dn)))(hl:dn.length<=200)
 (k:∀G',G'[c]? =some (.lst (f7 (dn++[r])))->Wp ((gdQ (B5 (truthE (mtE isStrM startsD c0 (H0 (cSt " or ") (ixE C0 g0))))) (F0 y0 (ixE C0 g0)) (G9 (j6 J6 (ixE C0 g0) (z0 S8 (cSt " or "))) I0)) (vS T pre.length c (some (.tup [sN [r],.int ((pre++swL r).length:Int)])))) G' P):
 Wp (VBd (vS T pre.length c u)) G P:=by
 have bg:=big;have el:(pre.length:Int)+(swL r).length= ((pre++swL r).length:Int):=by rw[zf];lia
 refine f9.mpr<| v6<| j4 (as:= [.str T,.int pre.length,.int 1]) rfl rfl<| oO hz rfl hr.1 hr.2 h hp ?_;rw[el];refine f9.mpr<| QA.mpr<| B4.mpr<| b8 (a:=.ref c) (G':=G) rfl<| (U4 e).mpr<| b8 (a:= [sN [r]]) (G':=G) rfl<| (dC e (by unfold f7;rw[zn];lia)).mpr<| k _ ?_;rw[jg (lt_of_get e)];unfold f7;rw[jk];rfl
theorem tK(hz:T.length<=zi):∀(rest:List Rg) (r:Rg) (dn:List Rg) (pre:List Nat) (u:Option D) (n:Nat) (G:DH),rest.length<=n->(∀s∈r::rest,smR s/\okR s)->tl T=pre++swL r++glL cOr (rest.map swL)->G[c]? =some (.lst (f7 dn))->dn.length+rest.length<=200->
 Wp (J7 (n+1) VT VBd (vS T pre.length c u)) G λfl G'=>fl= .rt (.tup [.ref c,.int (T.length:Int)])/\G'[c]? =some (.lst (f7 (dn++r::rest)))
 |[],r,dn,pre,u,n,G,hn,ok,h,e,hl=>by
   refine R9.mpr<| b8 (a:=true) (G':=G) rfl ?_;rw[if_pos rfl];refine dI hz (ok r (zr ..)) h (tN []) e (by simp at hl;lia) λG1 e1=>?_;have h':tl T= (pre++swL r)++[]:=h;refine f9.mpr<| M3<| L6.mpr<| MB<| M5 (G:=G1) (T:=T) (p:=(" or " :Str)) (i:=((pre++swL r).length:Int)) rfl rfl rfl ?_;rw[W6 h' (c:=32) (ps:= [111,114,32]) rfl λ_ _ z=>nomatch z];refine⟨rfl,λ_=>o9<| b8 (a:=.tup [.ref c,.int ((pre++swL r).length:Int)]) (G':=G1) rfl ⟨?_,e1⟩,λz=>nomatch z⟩;have:T.length= (pre++swL r).length:=by rw[<-dA,h',jt]
   rw[this]
 |s::rest,r,dn,pre,u,n,G,hn,ok,h,e,hl=>by
   obtain⟨m,rfl⟩:∃m,n=m+1:=⟨n-1,by simp at hn;lia⟩;refine R9.mpr<| b8 (a:=true) (G':=G) rfl ?_;rw[if_pos rfl];simp only[zw]at hn hl;refine dI hz (ok r (zr ..)) h (tN _) e (by lia) λG1 e1=>?_;refine f9.mpr<| M3<| L6.mpr<| nA<| M5 (G:=G1) (T:=T) (p:=(" or " :Str)) (i:=((pre++swL r).length:Int)) rfl rfl rfl ?_;rw[V0 h (r:=swL s++glL cOr (rest.map swL)) (by show cOr++swL s++glL cOr (rest.map swL)=cOr++_;rw[zD])];refine⟨rfl,λz=>(nomatch z),λ_=>u5.mpr<| v6<| b8 (a:=.int (((pre++swL r).length:Int)+4)) (G':=G1) rfl ?_⟩;have el:(((pre++swL r).length:Int)+4)= ((pre++swL r++cOr).length:Int):=by rw[zf (as:=pre++swL r)];rfl
   rw[el];have ih:=tK hz rest s (dn++[r]) (pre++swL r++cOr) (some (.tup [sN [r],.int ((pre++swL r).length:Int)])) m G1 (by lia) (λy hy=>ok y (zk _ hy)) (by rw[h];show _++(cOr++swL s++glL cOr (rest.map swL))=_;simp) e1 (by rw[zf];simp;lia);rw[zD dn]at ih;exact ih
theorem vh{ws:List Rg}{r:Rg}{G:DH}{Q:DPP}(hz:T.length<=zi)(ok:∀s∈r::ws,smR s/\okR s)(h:tl T=E3 cOr ((r::ws).map swL))(hl:ws.length<=200)(q:∀c G',G'[c]? =some (.lst (f7 (r::ws)))->Q (.tup [.ref c,.int (T.length:Int)]) G'):Wp (QC [.str T,.int 0,.int 1]) G Q:=by refine m9 (show Wp (vE [some (.str T),some (.int 0),some (.int 1),none,none]) G _ from ?_);rw[qm];refine o7 (X1:=vS T 0 G.length none) (G':=G++[.lst []]) rfl<| vB (n:=ws.length+1)<| (tK (c:=G.length) hz ws r [] [] none ws.length (G++[.lst []]) (zh _) ok h j9 (by simpa using hl)).mono ?_;rintro _ G1 ⟨rfl,e1⟩;exact o4<| q _ _ e1
theorem oJ(r:Rg):(∃c t,swL r=c::t/\c≠97/\c≠110)\/swL r=wJ:=by
 obtain⟨a,b⟩:=r;rcases a with _|a
 · rcases b with _|b
   ·exact .inr rfl
   ·exact .inl ⟨46,_,rfl,by decide,by decide⟩
 · left;obtain⟨c,t,e,hc⟩:=mH a;rcases b with _|b
   ·exact⟨c,t++[46,46],by show nmL a++[46,46]=_;rw[e];rfl,by lia,by lia⟩
   · by_cases k:a=b
     ·exact⟨c,t,by rw[show swL (some a,some b)=nmL a from if_pos k,e],by lia,by lia⟩
     ·exact⟨c,t++[46,46]++nmL b,by rw[show swL (some a,some b)=nmL a++[46,46]++nmL b from if_neg k,e];rfl,by lia,by lia⟩
theorem iT{r:Rg}{post:List Nat}{G:DH}{Q:DPP}(h:tl T=swL r++post)(q:Q .non G):Wp (WD [.str T,.int 0]) G Q:=by
 have h0:tl T= []++(swL r++post):=h;have n1:W9 T ("any" :Str) 0=false:=by
  rcases oJ r with⟨c,t,e,k1,k2⟩|e
  ·exact noF (pre:= []) (rest:=swL r++post) h0 (by rw[e];rfl) (c:=97) rfl k1
  ·exact noF (pre:= []) (rest:=swL r++post) h0 (by rw[e];rfl) (c:=97) rfl (by decide)
 have n2:W9 T ("nothing" :Str) 0=false:=by
  rcases oJ r with⟨c,t,e,k1,k2⟩|e
  ·exact noF (pre:= []) (rest:=swL r++post) h0 (by rw[e];rfl) (c:=110) rfl k2
  ·refine(tG (p:=("nothing" :Str)) h0).trans (decide_eq_false fun⟨t,z⟩=>?_);rw[e]at z;have z1:=(jG z).2;exact absurd (jG z1).1 (by decide)
 exact m9 (show Wp (MD [some (.str T),some (.int 0)]) G _ from T1 n1<| T1 n2<| o9<| b8 (a:=.non) (G':=G) rfl<| o4 q)
theorem KK:∀l:List Rg,tot (l.map λs=> [s])=l.length
 |[]=>rfl
 |_::r=>by have:=KK r;rw[zN,oA,this];simp only[zw,jD];lia
theorem sS{r:Rg}(h:okR r):Can [r]:=⟨λp hp=>by rw[zA.mp hp];exact h,Xj ..⟩
theorem TH{ws:List Rg}{G:DH}{Q:DPP}(hz:T.length<=zi)(Gg:ws≠ [])(ok:∀s∈ws,smR s/\okR s)(h:tl T=E3 cOr (ws.map swL))(hl:ws.length<64)(q:∀m G',nC ws m->Q (sN m) G'):Wp (N8 [.str T]) G Q:=by
 rcases ws with _|⟨r,ws⟩
 ·exact absurd rfl Gg
 simp only[zw]at hl;refine m9 (show Wp (SD [some (.str T),none,none]) G _ from f9.mpr<| v6<| j4 (as:= [.str T,.int 0]) rfl rfl ?_);refine m9 (show Wp (wE [some (.str T),some (.int 0),none,none]) G _ from f9.mpr<| v6<| j4 (as:= [.str T,.int 0]) rfl rfl<| iT h ?_);refine o7 (G':=G) rfl<| f9.mpr<| v6<| j4 (as:= [.str T,.int 0,.int 1]) rfl rfl<| vh hz ok h (by lia) λc G1 e1=>?_;refine o9<| D4.mpr<| o6<| j4 (as:= [.ref c]) rfl rfl ?_;have e1':G1[c]? =some (.lst (((r::ws).map λs=> [s]).map sN)):=by rw[e1];unfold f7;rw[jM];rfl
 refine DX (L:=(r::ws).map λs=> [s]) (by simp) e1' (λl hm=>?_) (by rw[KK];simp only[zw];lia) (by simp;lia) λm G2 cm im=>?_
 ·obtain⟨s,hs,rfl⟩:=jJ.mp hm;exact sS (ok s hs).2
 · refine b8 (a:= [.int (T.length:Int)]) (G':=G2) rfl ⟨sz,o4 ?_⟩;refine f9.mpr<| M3<| u6<| bin_w<| b8 (a:=.int (T.length:Int)) (G':=G2) rfl<| T8 (as:= [.str T]) rfl<| (SE hz).mpr<| pG.mpr ⟨true,show some (decide ((T.length:Int)=T.length))=_ by rw[decide_eq_true rfl],_,rfl,λz=>(nomatch z),λ_=>u5.mpr<| o9<| b8 (a:=sN m) (G':=G2) rfl<| o4<| q m G2 ⟨cm,λy=>?_⟩⟩;rw[im y];constructor
   · rintro⟨l,hm,k⟩;obtain⟨s,hs,rfl⟩:=jJ.mp hm;rcases v4.mp k with k|k
     ·exact⟨s,hs,k⟩
     ·exact absurd k P6
   ·rintro⟨s,hs,k⟩;exact⟨[s],jJ.mpr ⟨s,hs,rfl⟩,v4.mpr (.inl k)⟩
theorem FK{G:DH}{Q:DPP}(q:Q (sN []) G):Wp (N8 [.str ("nothing" :Str)]) G Q:=by have h0:tl ("nothing" :Str)= []++cNo:=rfl;have n1:W9 ("nothing" :Str) ("any" :Str) 0=false:=noF (pre:= []) (rest:=cNo) h0 rfl (c:=97) rfl (by decide);have n2:W9 ("nothing" :Str) ("nothing" :Str) 0=true:=V0 (pre:= []) (rest:=cNo) h0 (r:= []) rfl;refine m9 (show Wp (SD [some (.str ("nothing" :Str)),none,none]) G _ from f9.mpr<| v6<| j4 (as:= [.str ("nothing" :Str),.int 0]) rfl rfl ?_);refine m9 (show Wp (wE [some (.str ("nothing" :Str)),some (.int 0),none,none]) G _ from f9.mpr<| v6<| j4 (as:= [.str ("nothing" :Str),.int 0]) rfl rfl ?_);refine m9 (show Wp (MD [some (.str ("nothing" :Str)),some (.int 0)]) G _ from T1 n1<| ML n2<| b8 (a:=.tup [sN [],.int 7]) (G':=G) rfl<| o4 ?_);refine f9.mpr<| M3<| b8 (a:=true) (G':=G) rfl ⟨λ_=>o9<| b8 (a:=.tup [sN [],.int 7]) (G':=G) rfl<| o4 ?_,λz=>(nomatch z)⟩;exact o7 (G':=G) rfl<| o9<| b8 (a:=sN []) (G':=G) rfl<| o4 q
end
def PDx:Nat->D->Prop
 |0,_=>False
 |n+1,d=>d= .non\/(∃i,d= .int i)\/(∃z,d= .str z)\/∃l,d= .tup l/\l.length<=1000/\∀x∈l,PDx n x
theorem CN{k l:List D}{σ:DSt}{fs:DSt->M (List D)}{G:DH}{R:Src->DH->Prop}(e:fs σ G=some (.ok [.tup k,.tup l],G))(q:R ⟨(k.zip l).map λp=>.tup [p.1,p.2],λ_=>true&&true⟩ G):Wp (F5 fs σ) G R:=by unfold F5;exact d9.mpr<| b8 e<| ⟨_,_,rfl,q⟩
section
variable{G:DH}
theorem bI{R:List D->M D}{a b:Option D}:∀(l:List D) (u v:Option D),(∀x∈l,R [x,x] G=some (.ok (.bl true),G))->
 Wp (M0 g23 (SF R) (λ_=>true&&true) ((l.zip l).map λp=>.tup [p.1,p.2]) [a,b,u,v]) G λfl G'=>G'=G/\∃u v,fl= .nx [a,b,u,v]
 |[],u,v,_=>EA.mpr ⟨rfl,rfl,u,v,rfl⟩
 |x::r,u,v,h=>by refine Z4.mpr ⟨rfl,b8 (a:= [a,b,some x,some x]) (G':=G) rfl<| M3<| L6.mpr<| nA<| j4 (as:= [x,x]) rfl rfl<| b8 (h x (zr ..)) ⟨rfl,λz=>(nomatch z),λ_=>u5.mpr<| bI r _ _ λy hy=>h y (zk _ hy)⟩⟩
theorem gM:∀ {n N:Nat} {d:D},PDx n d->n<=N->O4 N [d,d] G=some (.ok (.bl true),G)
 |0,_,_,h,_=>h.elim
 |n+1,0,_,_,hn=>by lia
 |n+1,N+1,d,h,hn=>by
   refine j3 (show Wp (m8 4 (W5 (O4 N)) [d,d]) G _ from ?_);rcases h with rfl|⟨i,rfl⟩|⟨z,rfl⟩|⟨l,rfl,hl,hx⟩
   ·exact Z7 (d:=.bl true) (G':=G) rfl ⟨rfl,rfl⟩
   ·refine m9<| o7 (X1:= [some (.int i),some (.int i),none,none]) (G':=G) rfl<| o7 (X1:= [some (.int i),some (.int i),none,none]) (G':=G) rfl<| f9.mpr<| M3<| b8 (a:=true) (G':=G) rfl ⟨λ_=>o9<| lH (G1:=G) rfl<| lH (G1:=G) rfl<| bin_w<| b8 (a:=.int i) (G':=G) rfl<| b8 (a:=.int i) (G':=G) rfl<| P5.mpr<| o4 ⟨?_,rfl⟩,λz=>(nomatch z)⟩;rw[decide_eq_true rfl]
   ·refine m9<| o7 (X1:= [some (.str z),some (.str z),none,none]) (G':=G) rfl<| o7 (X1:= [some (.str z),some (.str z),none,none]) (G':=G) rfl<| o7 (X1:= [some (.str z),some (.str z),none,none]) (G':=G) rfl<| f9.mpr<| M3<| b8 (a:=true) (G':=G) rfl ⟨λ_=>o9<| lH (G1:=G) rfl<| bin_w<| b8 (a:=.str z) (G':=G) rfl<| b8 (a:=.str z) (G':=G) rfl<| HQ.mpr<| o4 ⟨?_,rfl⟩,λz=>(nomatch z)⟩;rw[beq_self_eq_true]
   ·have bg:=big;refine m9 (show Wp (W5 (O4 N) [some (.tup l),some (.tup l),none,none]) G _ from o7 (G':=G) rfl<| o7 (G':=G) rfl<| o7 (G':=G) rfl<| o7 (G':=G) rfl<| f9.mpr<| M3<| sF<| L6.mpr<| b8 (a:=true) (G':=G) rfl ⟨λz=>(nomatch z),λ_=>u6<| bin_w<| T8 (as:= [.tup l]) rfl<| mI.mpr<| T8 (as:= [.tup l]) rfl<| mI.mpr<| pG.mpr ⟨true,show some (decide ((l.length:Int)=l.length))=_ by rw[decide_eq_true rfl],_,rfl,λz=>(nomatch z),λ_=>u5.mpr ?_⟩⟩);refine f9.mpr<| C8.mpr<| CN (k:=l) (l:=l) rfl<| (bI (R:=O4 N) l none none λx hm=>gM (hx x hm) (by lia)).mono ?_;rintro _ _ ⟨rfl,u,v,rfl⟩;exact o9<| b8 (a:=.bl true) rfl<| o4 ⟨rfl,rfl⟩
theorem OJ{n:Nat}(a:Option Int):PDx (n+1) (J8 a):=by
 rcases a with _|a
 ·exact .inl rfl
 ·exact .inr (.inl ⟨a,rfl⟩)
theorem lQ{l:List Rg}(h:l.length<=1000):PDx 4 (sN l):=by
 refine .inr (.inr (.inr ⟨_,rfl,show 5<=1000 by decide,λx hx=>?_⟩));simp only[zz,zT,or_false]at hx;rcases hx with rfl|rfl|rfl|rfl|rfl
 · refine .inr (.inr (.inr ⟨_,rfl,by rw[D9];exact h,λx hx=>?_⟩));obtain⟨r,_,rfl⟩:=jJ.mp hx;refine .inr (.inr (.inr ⟨_,rfl,show 2<=1000 by decide,λx hx=>?_⟩));simp only[zz,zT,or_false]at hx;rcases hx with rfl|rfl
   ·exact OJ _
   ·exact OJ _
 · refine .inr (.inr (.inr ⟨_,rfl,show 2<=1000 by decide,λx hx=>?_⟩));simp only[zz,zT,or_false]at hx;rcases hx with rfl|rfl
   ·exact .inr (.inr (.inl ⟨_,rfl⟩))
   ·exact .inr (.inr (.inr ⟨_,rfl,show 0<=1000 by decide,λx hx=>nomatch hx⟩))
 ·exact .inr (.inr (.inr ⟨_,rfl,show 0<=1000 by decide,λx hx=>nomatch hx⟩))
 ·exact .inl rfl
 ·exact .inl rfl
theorem UL{l:List Rg}(h:l.length<=1000):W4 [sN l,sN l] G=some (.ok (.bl true),G):=gM (N:=6) (lQ h) (by decide)
end
def LV:Fe:=(N6 (itW (ixE C0 l0)) [none,none] g01 (K2) (D0 u9 c0 d0))
def bN:Fs:=(ifS (tBn neD y0 (U9 o0)) (G9 (mtE isStrM d6 (cSt " or ") (E1 LV)) QB) nextS)
theorem MS:oD=seqS (G9 (B0 O8 c0) I0) (asQ (D0 u0 d0 (cIn 50)) S0 (asQ (B0 T9 d0) C2 (seqS uF (asQ (cSt "nothing") QB (seqS bN (asQ (B0 rB C0) nL (seqS rC (asQ (cSt "nothing") aF (seqS VD VC))))))))):=rfl
section
variable{G:DH}{due:List Rg}{a0 a1 a2 a3 a5 a6 a7 a8:Option D}
theorem aL{l:List Rg}(h:∀r∈l,smR r)(hl:l.length<=200):(ofL (E3 cOr (l.map swL))).length<=zi:=by
 have:=rW (s:=cOr) (L:=l.map swL) (λa ha=>by obtain⟨r,hr,rfl⟩:=jJ.mp ha;exact LD (h r hr)) (by decide)
 rw[zn]at this;have bg:=big;show (E3 cOr (l.map swL)).length<=_;lia
theorem wM{z:Str}{x:DSt}(h:x= [a0,a1,a2,a3,some (sN due),some (.str z),some (.str z),a7,a8]):rC x G=some (.ok (.nx x),G):=by subst h;refine j3<| M3<| sF<| L6.mpr<| b8 (a:=true) (G':=G) rfl ⟨λz=>(nomatch z),λ_=>u6<| bin_w<| b8 (a:=.str z) (G':=G) rfl<| b8 (a:=.str z) (G':=G) rfl<| kb.mpr ⟨_,rfl,?_⟩⟩;rw[beq_self_eq_true];exact⟨λz=>(nomatch z),λ_=>u5.mpr ⟨rfl,rfl⟩⟩
theorem TL{t s:Str}(hl:due.length<=1000)(ht:∀ {G:DH} {Q:DPP},(∀G',Q (sN due) G')->Wp (N8 [.str t]) G Q)(hs:∀ {G:DH} {Q:DPP},(∀G',Q (sN due) G')->Wp (N8 [.str s]) G Q):
 Wp (VC [a0,a1,a2,a3,some (sN due),a5,some (.str s),some (.str t),a8]) G (PB λd _=>d= .bl true):=by
 refine o9<| dR<| N5<| o6<| j4 (as:= [.str t]) rfl rfl<| ht λG1=>b8 (a:= [sN due]) (G':=G1) rfl<| N4.mpr ⟨rfl,b8 (UL hl) ⟨rfl,?_⟩⟩;exact N5<| o6<| j4 (as:= [.str s]) rfl rfl<| hs λG2=>b8 (a:= [sN due]) (G':=G2) rfl<| N4.mpr ⟨rfl,b8 (UL hl)<| o4 rfl⟩
theorem kZ{prs:List (Int×Int)}{c:Nat}{Q:DPP}(e:G[c]? =some (.lst (prs.map pD)))(ok:∀p∈prs,S7 p)(hl:prs.length<=50)(q:Q (.ref G.length) (G++[.lst (O0 swL (prs.map rg))])):Wp (R6 [.ref c]) G Q:=by
 have bg:=big;refine m9<| o9<| wp_comp.mpr<| wp_itW.mpr<| b8 (a:=.ref c) (G':=G) rfl<| (UC e).mpr ⟨by rw[zn];lia,b8 (TB (mk:=λp:Int×Int=>(.int p.1,.int p.2)) (f:=λp=>.str (ofL (swL (rg p)))) (u7 e) prs none none λp hp=>?_) ?_⟩
 ·refine j3<| N5<| o6<| j4 (as:= [.int p.1]) rfl rfl<| oE<| o6<| j4 (as:= [.int p.2]) rfl rfl<| oE<| w5.mpr<| N4.mpr ⟨rfl,QL (r:=rg p) (ok p hp).sm ⟨rfl,rfl⟩⟩
 ·refine o4 ?_;unfold O0 at q;rw[jM]at q;exact q
theorem mX{prs:List (Int×Int)}{c:Nat}{P:Fl->DH->Prop}(e:G[c]? =some (.lst (prs.map pD)))(Gg:prs≠ [])(h:∀r∈due,smR r)(hl:due.length<=64)
 (q:∀G',Ap G G'->P (.nx [a0,a1,a2,sRf c,some (sN due),some (.str (ofL (E3 cOr (due.map swL)))),a6,a7,a8]) G'):Wp (bN [a0,a1,a2,sRf c,some (sN due),a5,a6,a7,a8]) G P:=by
 refine M3<| u6<| bin_w<| b8 (a:=.ref c) (G':=G) rfl<| b8 (a:=.ref G.length) (G':=G++[.lst []]) rfl<| (SA (v9 e) j9).mpr ⟨_,rfl,λ_=>?_,λk=>?_⟩
 ·refine v6<| B4.mpr<| b8 (a:=.str (" or " :Str)) (G':=G++[.lst []]) rfl<| gE.mpr<| o6<| AC (l:=rsD due) (G1:=G++[.lst []]) rfl (by rw[D9];lia)<| b8 (TB (mk:=λp:Rg=>(J8 p.1,J8 p.2)) (f:=λr=>.str (ofL (swL r))) rfl due none none λr hr=>j3<| j4 (as:= [J8 r.1,J8 r.2]) rfl rfl<| QL (h r hr) ⟨rfl,rfl⟩)<| w5.mpr<| wD (f:=swL) (l:=due) j9 (λr hr=>LD (h r hr)) (by lia)<| q _ (Ap.one.trans Ap.one)
 · rcases prs with _|⟨_,_⟩
   ·exact absurd rfl Gg
   ·cases k
theorem dS{prs:List (Int×Int)}{c:Nat}{j:Int}{P:Fl->DH->Prop}(e:G[c]? =some (.lst (prs.map pD)))(Gg:prs≠ [])(ok:∀p∈prs,S7 p)(hl:prs.length<=50)(hj:0<=j)
 (q:∀ws a2 a8 G',(∀r,r∈ws↔r∈prs.map rg)->ws≠ []->ws.length<64->P (.nx [a0,a1,a2,sRf c,some (sN due),a5,a6,some (.str (ofL (E3 cOr (ws.map swL)))),a8]) G'):Wp (VD [a0,a1,some (.int j),sRf c,some (sN due),a5,a6,a7,a8]) G P:=by
 have bg:=big;have hp:0<prs.length:=Zu.mpr Gg;refine M3<| u6<| bin_w<| b8 (a:=.ref c) (G':=G) rfl<| b8 (a:=.ref G.length) (G':=G++[.lst []]) rfl<| (SA (v9 e) j9).mpr ⟨_,rfl,λ_=>?_,λk=>?_⟩
 · refine f9.mpr<| v6<| j4 (as:= [.ref c]) rfl rfl<| kZ (v9 e) ok hl ?_;generalize hH:G++[DO.lst []]=H;have ll:(O0 swL (prs.map rg)).length=prs.length:=by unfold O0;rw[zn,zn]
   refine f9.mpr<| v6<| bin_w<| b8 (a:=.int j) (G':=_) rfl<| T8 (as:= [.ref H.length]) rfl<| (CD j9).mpr<| (R5 (by rw[ll];lia)).mpr ?_;rw[ll];obtain⟨k,hk⟩:∃k:Nat,j % (prs.length:Int)=k:=⟨(j % (prs.length:Int)).toNat,(JA (jo _ (by lia))).symm⟩;have hk2:k<prs.length:=by have:=jY j (show (0:Int)<prs.length by lia);lia
   rw[hk];have cd:DL.cutD (O0 swL (prs.map rg)) (some (k:Int)) none=O0 swL ((prs.map rg).drop k):=by rw[UJ];unfold O0;rw[List.map_drop]
   have ct:DL.cutD (O0 swL (prs.map rg)) none (some ((k:Int)+1))=O0 swL ((prs.map rg).take (k+1)):=by rw[show (k:Int)+1= ((k+1:Nat):Int) by lia,VL];unfold O0;rw[List.map_take]
   refine v6<| B4.mpr<| b8 (a:=.str (" or " :Str)) (G':=_) rfl<| gE.mpr<| o6<| bin_w<| lB.mpr<| b8 (a:=.ref H.length) (G':=_) rfl<| b8 (a:=some (k:Int)) (G':=_) rfl<| b8 (a:=none) (G':=_) rfl<| (iD j9).mpr ?_;rw[cd];refine lB.mpr<| b8 (a:=.ref H.length) (G':=_) rfl<| b8 (a:=none) (G':=_) rfl<| b8 (a:=some ((k:Int)+1)) (G':=_) rfl<| (iD (v9 j9)).mpr ?_;rw[ct];have lw:((prs.map rg).drop k++(prs.map rg).take (k+1)).length<=60:=by rw[zf,yJ,yI,zn];lia
   refine(QE (v9 j9) j9 (by unfold O0;rw[zf]at lw;rw[zn,zn];lia)).mpr<| w5.mpr ?_;have es:O0 swL ((prs.map rg).drop k)++O0 swL ((prs.map rg).take (k+1))=O0 swL ((prs.map rg).drop k++(prs.map rg).take (k+1)):=(jk ..).symm;rw[es];have mem:∀r,r∈(prs.map rg).drop k++(prs.map rg).take (k+1)↔r∈prs.map rg:=λr=>by
    rw[zU];refine⟨λz=>z.elim List.mem_of_mem_drop XS,λz=>?_⟩;rw[<-List.take_append_drop k (prs.map rg)]at z;rcases zU.mp z with z|z
    ·exact .inr (XS (i:=k) (by rw[List.take_take,YE (by lia)];exact z))
    ·exact .inl z
   refine wD (f:=swL) j9 (λr hr=>?_) (by lia)<| q _ _ _ _ mem (λz=>?_) (by lia)
   ·obtain⟨p,hp,rfl⟩:=jJ.mp ((mem r).mp hr);exact LD (ok p hp).sm
   ·have:=congrArg xI z;rw[zf,yJ,zn]at this;simp at this;lia
 · rcases prs with _|⟨_,_⟩
   ·exact absurd rfl Gg
   ·cases k
theorem VV(ns:List Int)(hn:ns.length<=63):Wp (bH [.ref 0]) [.rol (ns.map D.int)] λd _=>d= .bl true:=by
 have e0:([DO.rol (ns.map D.int)]:DH)[0]? =some (.rol (ns.map D.int)):=rfl;generalize hG:([DO.rol (ns.map D.int)]:DH)=G at *;refine m9 (show Wp (oD [sRf 0,none,none,none,none,none,none,none,none]) G _ from ?_);rw[MS];refine f9.mpr<| v6<| j4 (as:= [.ref 0]) rfl rfl<| (cQ e0 hn).mono ?_;rintro _ G1 ⟨r,rfl,dr⟩;refine f9.mpr<| v6<| j4 (as:= [.ref r,.int 50]) rfl rfl<| P7 dr (by decide) λj j0 j1 G2 f2=>?_;refine f9.mpr<| v6<| j4 (as:= [.ref r]) rfl rfl<| (eQ f2.2.2).mono ?_;rintro _ G3 ⟨c,prs,rfl,e3,ok,hl⟩;refine f9.mpr<| v6<| D4.mpr<| o6<| j4 (as:= [.ref c]) rfl rfl<| (CQ ok e3 (by lia)).mono ?_;rintro _ G4 ⟨due,rfl,sm,ld,hd,a4⟩;refine b8 (a:= [ofD,.tup [],.non,.non]) (G':=G4) rfl ⟨sz,?_⟩;have e4:=a4.at e3;have smr:∀r∈due,smR r:=λr hr=>by obtain⟨p,hp,rfl⟩:=hd r hr;exact hp.sm
 have okr:∀r∈due,smR r/\okR r:=λr hr=>by obtain⟨p,hp,rfl⟩:=hd r hr;exact⟨hp.sm,hp.ok⟩
 refine f9.mpr<| v6<| b8 (a:=.str ("nothing" :Str)) (G':=G4) rfl ?_;by_cases Gg:prs= []
 ·subst Gg;obtain rfl:due= []:=List.length_eq_zero_iff.mp (by simpa using ld);have ne:∀ {H:DH} {B:Bool->DH->Prop} {σ:DSt},H[c]? =some (.lst (([]:List (Int×Int)).map pD))->M4 3 σ H=some (.ok (.ref c),H)->B false (H++[.lst []])->Wp (n4 (j6 neD y0 (U9 o0)) σ) H B:=λ{H B σ} eh ev q=>u6<| bin_w<| b8 (a:=.ref c) (G':=H) ev<| b8 (a:=.ref H.length) (G':=H++[.lst []]) rfl<| (SA (v9 eh) j9).mpr ⟨_,rfl,q⟩;refine f9.mpr<| M3<| ne e4 rfl ⟨λz=>(nomatch z),λ_=>u5.mpr ?_⟩;refine f9.mpr<| v6<| j4 (as:= [sN []]) rfl rfl<| lK (l:= []) (λ_ z=>nomatch z) ⟨λ_ z=>(nomatch z),.nil⟩ (by decide) λG5 a5=>?_;refine o7 (wM (z:=("nothing" :Str)) rfl)<| f9.mpr<| v6<| b8 (a:=.str ("nothing" :Str)) (G':=G5) rfl<| f9.mpr<| M3<| ne (a5.at (v9 e4)) rfl ⟨λz=>(nomatch z),λ_=>u5.mpr<| TL (by decide) (λq=>FK (q _)) λq=>FK (q _)⟩
 · have hd0:due≠ []:=by
    obtain⟨p,hp⟩:∃p,p∈prs:=List.exists_mem_of_ne_nil _ Gg;obtain⟨x,hx⟩:=(ok p hp).ok.some;obtain⟨r,hr,_⟩:=(sm.2 x).mpr ⟨rg p,jJ.mpr ⟨p,hp,rfl⟩,hx⟩;exact Jx hr
   refine f9.mpr<| mX e4 Gg smr (by lia) λG5 a5=>?_;refine f9.mpr<| v6<| j4 (as:= [sN due]) rfl rfl<| lK smr sm.1 (by lia) λG6 a6=>?_;rw[show wds due=due.map swL from if_neg hd0];refine o7 (wM (z:=ofL (E3 cOr (due.map swL))) rfl)<| f9.mpr<| v6<| b8 (a:=.str ("nothing" :Str)) (G':=G6) rfl<| f9.mpr<| dS (a6.at (a5.at e4)) Gg ok hl j0 λws a2 a8 G7 mw wn wl=>?_;have okw:∀r∈ws,smR r/\okR r:=λr hr=>by obtain⟨p,hp,rfl⟩:=jJ.mp ((mw r).mp hr);exact⟨(ok p hp).sm,(ok p hp).ok⟩
   refine TL (by lia) (λq=>TH (aL (λr hr=>(okw r hr).1) (by lia)) wn okw rfl wl λm G' s=>?_) λq=>TH (aL smr (by lia)) hd0 okr rfl (by lia) λm G' s=>?_
   ·rw[KF s.1 sm.1 λx=>by rw[s.2 x,sm.2 x];exact⟨fun⟨r,hr,k⟩=>⟨r,(mw r).mp hr,k⟩,fun⟨r,hr,k⟩=>⟨r,(mw r).mpr hr,k⟩⟩];exact q _
   ·rw[KF s.1 sm.1 λx=>s.2 x];exact q _
end
theorem pure_law:∀ns:List Int,ns.length<=63->∃G',bH [.ref 0] [.rol (ns.map D.int)]=some (.ok (.bl true),G'):=λns hn=>by obtain⟨d,G',e,rfl⟩:=VV ns hn;exact⟨G',e⟩
end W
namespace PySem.W.Fast
def tw14081165450437657222:=()
def tw14733721194035961899:=()
def tw15705314035308602008:=()
def tw12055034514665739314:=()
def tw13779439278355204518:=()
def tw11359032342348530806:=()
def tw15802689503667348774:=()
def tw15362070318533397548:=()
def tw9882005064222269187:=()
def tw5561713520079268015:=()
def tw14776106312308001547:=()
def tw14017745904278875253:=()
def tw10174982754499096216:=()
def tw4143595028212210192:=()
def tw11770508446591792561:=()
def tw1780984989273361291:=()
def tw7409704473220065745:=()
def tw10539883617639017904:=()
def tw488705984867380671:=()
def tw5359162257081643493:=()
def tw14170937513371452625:=()
def tw12947019749547974891:=()
def tw8949254012671012700:=()
def tw7585370757916795092:=()
def tw7752900961783599257:=()
def tw2711061636732090510:=()
def tw13759093520757876921:=()
def tw9144203321296967767:=()
def tw4255832687251395091:=()
def tw2041918487173348107:=()
def tw7316519046128302243:=()
def tw6708228014409221023:=()
def tw1523747575221312477:=()
def tw6234281781911470205:=()
def tw15703467320390677600:=()
def tw2221004382775971860:=()
def tw9390773081067261959:=()
def tw16599195540432085275:=()
def tw11007590353820347116:=()
def tw11287278774550974938:=()
def tw4023322133889690602:=()
def tw10771084979129500638:=()
def tw2405615558778962100:=()
def tw1472782453452503038:=()
end PySem.W.Fast
local macro_rules | `(tactic| walk_at "fh") => `(tactic| first | exact trivial | (refine DL.FHs.c ?q ?b; (case q => refine' DL.FH.of ?a ?l ?e ?k; (case a => k_is); (case l => k_is); (case e => k_is); (case k => k_is)); (case b => walk_at "fh")))
local macro_rules | `(tactic| walk_at "cr") => `(tactic| first | exact DL.cr_str | exact DL.cr_int | exact DL.cr_bl | exact DL.cr_non | (refine' DL.cr_tup ?l ?z ?h; (case l => k_is); (case z => rfl); (case h => walk_at "cs")))
local macro_rules | `(tactic| walk_at "cs") => `(tactic| first | exact DL.crl_nil | (refine' DL.crl_cons ?a ?b; (case a => walk_at "cr"); (case b => walk_at "cs")))
set_option maxRecDepth 100000 in
set_option maxHeartbeats 0 in
theorem PySem.Challenge.cw_allmeet_k40_numbers_in_words_holds : PySem.Challenge.rw_allmeet_k40_numbers_in_words.Holds := by
 w_on;o_law;k_head;(case hw=>w_witness2)
 k_fill
 refine DL.walk63 (l := PySem.Challenge.rw_allmeet_k40_numbers_in_words) 12 rfl rfl ⟨rfl, by decide, by decide, rfl⟩ (fun w h Y => PySem.W.kIn_of Y) ?F
 case F=>
  intro w mg fa h KX G hmg;refine' W.all_mk KX G hmg ?Y0 ?Y25 ?Y50 ?_ ?_ ?_ ?_ ?_ ?g_KIND_SETS ?l_KIND_SETS ?l_KIND_SETS_0 ?l_KIND_SETS_0_0 ?l_KIND_SETS_0_0_0 ?l_KIND_SETS_0_1 ?l_KIND_SETS_0_1_1 ?l_KIND_SETS_0_2 ?l_KIND_SETS_1 ?l_KIND_SETS_1_0 ?l_KIND_SETS_1_1 ?l_KIND_SETS_1_1_1 ?l_KIND_SETS_1_2 ?l_KIND_SETS_2 ?l_KIND_SETS_2_0 ?l_KIND_SETS_2_1 ?l_KIND_SETS_2_1_1 ?l_KIND_SETS_2_2 ?l_KIND_SETS_3 ?l_KIND_SETS_3_0 ?l_KIND_SETS_3_1 ?l_KIND_SETS_3_1_1 ?l_KIND_SETS_3_2 ?l_KIND_SETS_3_3 ?l_KIND_SETS_3_3_0 ?l_KIND_SETS_4 ?l_KIND_SETS_4_0 ?l_KIND_SETS_4_1 ?l_KIND_SETS_4_1_1 ?l_KIND_SETS_4_2 ?l_KIND_SETS_4_4 ?l_KIND_SETS_4_4_0 ?z W.pure_law
  (case g_KIND_SETS=>k_is)
  (case l_KIND_SETS=>k_is)
  (case l_KIND_SETS_0=>k_is)
  (case l_KIND_SETS_0_0=>k_is)
  (case l_KIND_SETS_0_0_0=>k_is)
  (case l_KIND_SETS_0_1=>k_is)
  (case l_KIND_SETS_0_1_1=>k_is)
  (case l_KIND_SETS_0_2=>k_is)
  (case l_KIND_SETS_1=>k_is)
  (case l_KIND_SETS_1_0=>k_is)
  (case l_KIND_SETS_1_1=>k_is)
  (case l_KIND_SETS_1_1_1=>k_is)
  (case l_KIND_SETS_1_2=>k_is)
  (case l_KIND_SETS_2=>k_is)
  (case l_KIND_SETS_2_0=>k_is)
  (case l_KIND_SETS_2_1=>k_is)
  (case l_KIND_SETS_2_1_1=>k_is)
  (case l_KIND_SETS_2_2=>k_is)
  (case l_KIND_SETS_3=>k_is)
  (case l_KIND_SETS_3_0=>k_is)
  (case l_KIND_SETS_3_1=>k_is)
  (case l_KIND_SETS_3_1_1=>k_is)
  (case l_KIND_SETS_3_2=>k_is)
  (case l_KIND_SETS_3_3=>k_is)
  (case l_KIND_SETS_3_3_0=>k_is)
  (case l_KIND_SETS_4=>k_is)
  (case l_KIND_SETS_4_0=>k_is)
  (case l_KIND_SETS_4_1=>k_is)
  (case l_KIND_SETS_4_1_1=>k_is)
  (case l_KIND_SETS_4_2=>k_is)
  (case l_KIND_SETS_4_4=>k_is)
  (case l_KIND_SETS_4_4_0=>k_is)
  (case z=>intro b hb;simp only[DL.bltL,zz,zT,or_false]at hb;rcases hb with rfl|rfl|rfl|rfl|rfl|rfl|rfl|rfl|rfl|rfl|rfl|rfl|rfl|rfl|rfl|rfl|rfl|rfl|rfl|rfl<;>k_is)
  (case Y0=>walk_at "fh")
  (case Y25=>walk_at "fh")
  (case Y50=>walk_at "fh")
  all_goals (refine' DL.CC.of ?g ?r;(case g=>k_is);(case r=>walk_at "cr"))
