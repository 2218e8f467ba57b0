import PyProof.Rows.All
import Wide.All
import OpenK.AllK
import Wide.FinOn
import Lean
import PyProof.EqAt
import PyProof.EqKinds
import PyProof.TupleCall
import PyProof.NeKinds
import PyProof.ZipIter
import PyProof.EnumFor
import PyProof.EnumMake
import PyProof.EnumStmt
import PyProof.Draws
import KE.KDictSum
import PyProof.Rows.SortStr
import PyProof.StrWalks
import KE.KRevIter
import KE.KDictList
import PyProof.CollectIter
import PyProof.SliceStr2
import PyProof.StrBlockI
import KE.KListMore
import PyProof.DictWalks
import PyProof.TupleOfSeq
import PyProof.AttrMissHeap
import PyProof.AttrMissSeq
import KE.KDictOf
import PyProof.WalksMore
import KE.KSortTup
import KE.KSortKey
import PyProof.Rows.StrJoin2
import PyProof.ListMulRoad
import PyProof.FactsAll.tuple_2
import PyProof.Rows.SortShell
import PyProof.WalkInts
import KE.KMinBuiltin
import KE.KIntText
import PyProof.CallStr
import PyProof.PureStr
import PyProof.Rows.SetFrom
import KE.KMinKey
import PyProof.DictItems
import PyProof.DictItemsLoops
import PyProof.ReprRoads
import PyProof.WalksS
import PyProof.MeetsSeq2
import KE.KItemsList
import PyProof.Rows.StrJoinRep
import PySem.Challenge.RW_allmeet_k32_whole_first_values
set_option Elab.async false
set_option linter.all false
set_option maxRecDepth 100000
open PySem renaming wpAny_bind→za,sizeLine→zg,Value→zj,wpAny_pure→zq,Shared→zv,wpAny→zC,model→zH,starEach→zP,compareOp→zT,bootBuiltins→zV,Program→zW,World→jk,wpAny_holding→ju,mainGlobals→jv,wpAny_loadPart'→jx,Around→jA,wpAny_mono→jE,sizeLine_eq→jH,binaryOp→jL,wpAny_seqItems→jP,wpAny_field→jT,wpAny_truthy_bool→jY,wpAny_call_entry→ye,wpAny_callSpecial?_slot→yk,IsPair→yt,wpAny_Call_Name_kw→yx,mem_of_lookup→yE,wpAny_newObj_type→yF,foldedSetIterable→yG,plainId_quiet→yI,Builtin→yM,sliceBounds→yP,wpAny_setField_rec→yQ,sysModules→yR,backTo→yS,assignEach→yT,attributeBase→yY,wpAny_letGo→xh,FuncData→xi,wpAny_newList→xm,cLine→xn,letOwnedTupleGo→xp,codeAny_builtin→xq,call_meets→xD,wpAny_tryCatch→xL,wpAny_pyIter_list→xM,strIterType→xY,MulOk→Zf,IsZip→Zg,wpAny_typeOf→Zj,wpAny_rule→Zn,codeAny→Zw,wpAny_standAt→ZC,pyNext→ZV,assign→ZW,BindsTo→ZY,wpAny_updateSeq→Ye,wpAny_ite_false→Yf,wpAny_execs_nil→Yg,builtinLookup_eq_fast→Yn,wpAny_updateSeq_pair→Yx,keywordEach→Yy,holding→YC,callerA→YD,wpAny_onRaise→YQ,behindInMarks→YR,typeIs_str→YZ,typeIs_int→Xa,tupleKind_room_in1→Xb,rawInt→Xc,slot_list_getitem→Xl,getItem→Xm,tupleKind→XF,slicePick→XG,noFill_tuple_add→XH,typeLookup_type→Jd,valueAt→Jg,standAt→Jh,wpAny_newTuple→Jl,typeLookup→Jm,merged→Jn,backToKw→Jo,wpAny_binaryOp_repeat_ref→Jz,evalArgs_none→JA,wpAny_getItem_list_slice→JJ,wpAny_attempt→JK,seq_tuple_add→JL,call→JM,swapsWith→JY,lastMarks→JZ
open List renaming length_map→zc,getElem?_eq_getElem→ze,size_toArray→zi,mem_singleton→zk,replicate→zm,mem_cons_of_mem→zn,mem_cons→zp,mem_cons_self→zt,getElem?_eq_some_iff→zy,length_append→zA,getElem?_map→zB,getD_eq_getElem?_getD→zD,mem_append_right→zE,mem_map→zG,mem_append→zJ,getElem?_append_left→zK,map_cons→zL,length_cons→zM,mem_iff_getElem?→zN,getElem?_eq_none→zO,getElem?_cons_zero→zQ,toArray→zR,not_mem_nil→zS,getElem?_set_self→zX,getElem?_set_ne→jb,length_singleton→jc,getElem_mem→jd,pairwise_cons→jf,cons_lt_cons_iff→jm,getElem?_cons_succ→jq,range→jr,mem_of_getElem?→js,length_replicate→jy,replicate_succ→jB,mergeSort_perm→jC,length_take→jD,map_append→jG,getElem?_zip_eq_some→jJ,filterMap_cons→jK,mem_filter→jN,mem_append_left→jQ,length_drop→jR,all_eq_true→jS,all_cons→jU,length_range→jV,any_cons→yb,pairwise_map→yf,flatten_cons→yg,mem_map_of_mem→yj,lookup_cons→yn,set_cons_zero→yp,set_cons_succ→yq,length_nil→yy,append_nil→yz,pairwise_append→yB,pairwise_mergeSort→yH,getElem?_append_right→yZ,map_map→xa,drop_eq_getElem_cons→xg,nodup_cons→xj,find?_cons→xk,length→xl,take_of_length_le→xv,mem_range→xw,getElem?_inj→xy,drop_eq_nil_of_le→xz,append_assoc→xA,length_filter_le→xI,ext_getElem→xK,nil_append→xR,length_set→xS,filter_sublist→xW,map_nil→xX,zip_cons_cons→Zc,pairwise_iff_getElem→Zi,ext_getElem?→Zm,pairwise_singleton→Zq,getElem?_replicate→Zr,range_succ_eq_map→Zy,foldl→Zz,all_map→ZB,length_zip→ZG,forIn_cons→ZH,concat_eq_append→ZL,mem_of_mem_take→ZQ,mem_of_mem_drop→ZR,mem_iff_getElem→ZS,lt_irrefl→ZT,map_eq_nil_iff→Yl,lt_trans→Yt,reverse_cons→YG,nodup_append→YH,getElem?_set→YI,any_map→YJ,prefix_refl→YV,getElem_inj→YW,any_eq_true→YX,of_mem_zip→Xi,foldl_cons→Xj,dropLast_concat_getLast→Xk,nodup_iff_pairwise_ne→XA,forIn_nil→XB,drop_zero→XD,getElem?_eq_none_iff→XX,map_drop→Jc,take_append_drop→Jv,set_append_right→Jw,eq_nil_or_concat→Jx,dropLast_eq_take→Jy,getElem?_of_mem→JI,length_reverse→JV,instMembership→JW
open PySem.Heap renaming get?_push_of_some→zd,lt_size→zu,get?_push_size→zw,get?_update_ne→jz,size_push→yo,get?_update_other→xr,get?_push_ne→xt,SameBut→xu,get?_update_self→ZK
open PySem.W renaming Frag→zh,keepIn→ya,fnOf→yh,kas_ask→xN,nsIn→xQ,findIn→xT,codeIn→xU,kat_cons→Zk,kat_yes→Zp,mg_of→ZN,methodObj→Yo,KatTups→YL,kat_no→Xd,kat_go→Xe,cellsFrom_some→XI,kdu_collect→Ji,specialIn→JB,kitx_list→JC,kitx_dict→JD,kdl_dict→JO,kat_snds→JP,kat_kind→JQ,kas_item→JR
open Nat renaming le_refl→zo,ne_of_lt→zF,le_trans→zI,le_add_right→zU,zero_le→zY,lt_of_lt_of_le→ji,lt_irrefl→yc,le_of_lt→ym,lt_succ_of_lt→yD,ne_of_gt→xf,lt_trans→xF,le_of_eq→xG,lt_succ_self→xP,lt_or_ge→ZE,sub_succ_lt_self→Yb,not_lt→XW,sub_self→Jt,mul_comm→Ju,le_of_ble_eq_true→JG,le_succ→JU
open Option.some renaming injEq→zZ,inj→jl
open Bool renaming false_ne_true→ja,and_eq_true→jt,false_eq_true→jw,not_eq_true'→xB,eq_false_iff→xC,and_eq_true_iff→ZU
open Classical renaming byContradiction→je,choose→Yu
open PySem.Obj renaming mapSeq→jg
open PyProof.Rows renaming seqObj→jh,slot_tuple_getitem→jF,callWith_type1→yd,get?_update_seq→yX,listUpdate_at→xo,kindOf→xE,Keyed→Zx,envOfC→ZD,subscriptTail_builtinR→ZZ,mul_one_list→Ya,entry_list_sort→Yi,arrOf→Yj,IsTup→Yk,slot_list_sort→Yz,seqEpoch_at→YA,keyLt'_oneType→YB,AllBare→YF,size_push'→Xf,plain_sorted→Xp,failedOf→Xq,entry_sorted→Xr,kind_sorted→Jb,oneType'→Jr,args_list_sort→Js
open Int renaming emod_lt_of_pos→jn,emod_nonneg→jp,toNat_natCast→jX,eq_ofNat_of_zero_le→yK,le_refl→Yc,zero_add→YO
open PySem.Builtin.SmallTypes renaming nextOf→jo,ownedTupleIsFree→jZ,ownedTupleHandOut→Zb
open List.cons renaming inj→jI
open PySem.Builtin.Str renaming occurrences→jM,strSliceIndices→xH
open PySem.Str renaming ofString→jO
open Array renaming length_toList→jW,getElem?_toList→yr,getElem?_eq_getElem→xb,toList_inj→xJ,getD→Zv,toArray_toList→ZM,toList_append→Yd,perm_iff_toList_perm→Xs,forIn_toList→JX
open PySem.F renaming plain_min_loop→yi,slot_tuple_iterator_next→xc,slot_tuple_mul→xV,args_tuple_add_2→Zd,entry_tuple_add→Zl,slot_tuple_add→Zo,slot_list_getattribute→Zt,slot_zip_next→ZO,slot_int_rmul→ZP,slot_tuple_rmul→Xw,plainAttrs_list→Xx,entry_min_loop→XU,args_tuple_iterator_next_1→XV,entry_tuple_iterator_next→Ja,slot_list_extend→Jp,slot_list_append→Jq,slot_str_rstrip→JF,slot_str_index→JT
open PySem.Around renaming under_plainId→yw
open PySem.Txt renaming slice→yA,join→ZX,mul→Yh
open PySem.SeqAt renaming EqAt→yC,RcNeAt→Zs,RcAt→Yp,ne_of_list_tuple→Je
open PySem.Builtin.List renaming listExtendWith→yJ,listTooLong→yW,listLengthHint→Ys,listSameRef→YE,listItems→YT
open False renaming elim→yL
open PySem.Paired renaming length→yN
open PySem.Builtin.Slice renaming slicePlaces→yO,sliceAdjust→xO,sliceApplied→Yr
open PySem.Builtin.Tuple renaming tupleExact→yU,tupleItemsOf→Yq
open Prod.mk renaming inj→yV
open PySem.Calls renaming spliced_cons→xZ,call_function_entry→Ze,spliced_nil→Zh,Name_function_global→Xo,callWith_builtin→Jf
open List.Perm renaming eq_of_pairwise→Za,refl→YN
open Option renaming map_some→Zu,isSome_map→Yw,ne_none_iff_exists'→Xh,isSome_iff_exists→Xz
open PySem.SeqAt.EqAt renaming str_int→ZI,int_str→ZJ,same→Yv,none_bool→Xt,bool_none→Xu,bool_bool→Xv,str_none→XJ,str_bool→XL,none_str→XM,none_int→XO,int_none→XQ,int_bool→XR,bool_str→XS,bool_int→XT,str_str→XY,int_int→XZ
open Function renaming comp_def→Ym
open PySem.W.KatTups renaming cons→YK
open PySem.Builtin.Dict renaming updateFrom→YM,pairItems→YU
open PySem.W.Looks renaming of_pure→YS
open List.Pairwise renaming sublist→YY,imp→XE
open PySem.Heap.IsSliceOf renaming new→Xg
open PySem.Heap.SameBut renaming update→Xn
open Prod renaming ext→Xy,ext_iff→Jk
open PySem.Heap.DictOf renaming new→Jj
open PySem.PassesOwn renaming never→JE
open Membership renaming mem→JH
open PySem.Walks renaming list→JN
open PySem.PyData renaming hasDictAll→JS
noncomputable section
abbrev VSP:=zj->zv->Prop
abbrev PNS:=List (PySem.Addr×PySem.Obj)
namespace L2
open PySem PySem.Spec PyProof.Rows
theorem J7{a:α}{P:Prop}(h:none=some a):P:=nomatch h
theorem kF{a:α}{P:Prop}(h:some a=none):P:=nomatch h
theorem kE{P:Prop}(h:false=true):P:=nomatch h
theorem SF{a:α}{l:List α}{P:Prop}(h: []=a::l):P:=nomatch h
theorem WH{a:α}{l:List α}{P:Prop}(h:a::l= []):P:=nomatch h
abbrev Key:=Sum Int Str
def n9:Key->zj->Bool
 | .inl k,v=>Value.isInt k v
 | .inr x,v=>Value.isStrOf x v
def Td(w:jk):Key->Int
 | .inl k=>hashInt k
 | .inr x=>hashStr w x
theorem O3:∀ {k} {v},n9 k v=true->(∃i t,k=Sum.inl i/\v=Value.int i t)\/(∃x t,k=Sum.inr x/\v=Value.str x t)
 | .inl i,v,h=>by
   obtain⟨t,e⟩:=Value.isInt_shape (k:=i) (v:=v) h
   exact .inl ⟨i,t,rfl,e⟩
 | .inr x,v,h=>by
   obtain⟨t,e⟩:=Value.isStrOf_shape (x:=x) (v:=v) h
   exact .inr ⟨x,t,rfl,e⟩
theorem vf(i:Int)(t:Tok):n9 (.inl i) (.int i t)=true:=by simp[n9,Value.isInt]
theorem UU(x:Str)(t:Tok):n9 (.inr x) (.str x t)=true:=by simp[n9,Value.isStrOf]
theorem Cd(a b:Int):decide ((Sum.inl a:Key)=Sum.inl b)= (a==b):=by
 by_cases e:a=b
 ·subst e;simp
 · have h:¬(Sum.inl a:Key)=Sum.inl b:=λq=>e (Sum.inl.inj q)
   rw[decide_eq_false h]
   exact(beq_eq_false_iff_ne.mpr e).symm
theorem uT(a b:Str):decide ((Sum.inr a:Key)=Sum.inr b)=decide (a=b):=by
 by_cases e:a=b
 ·subst e;simp
 · have h:¬(Sum.inr a:Key)=Sum.inr b:=λq=>e (Sum.inr.inj q)
   rw[decide_eq_false h,decide_eq_false e]
theorem PY(a:Int)(b:Str):decide ((Sum.inl a:Key)=Sum.inr b)=false:=decide_eq_false (λq=>nomatch q)
theorem Gg(a:Str)(b:Int):decide ((Sum.inr a:Key)=Sum.inl b)=false:=decide_eq_false (λq=>nomatch q)
def Q9(prog:zW)(w:jk):PySem.KeyKind prog w Key where
 is:=n9
 hash:=Td w
 inj:=λv a b ha hb=>by
  rcases O3 ha with⟨i,t,rfl,rfl⟩|⟨x,t,rfl,rfl⟩
  · rcases O3 hb with⟨j,u,rfl,e⟩|⟨y,u,rfl,e⟩
    ·injection e with e1 _;rw[e1]
    ·exact nomatch e
  · rcases O3 hb with⟨j,u,rfl,e⟩|⟨y,u,rfl,e⟩
    ·exact nomatch e
    ·injection e with e1 _;rw[e1]
 byValue:=λk v h=>by
  rcases O3 h with⟨i,t,rfl,rfl⟩|⟨x,t,rfl,rfl⟩<;>rfl
 pyHash:=λhv h=>by
  rcases O3 hv with⟨i,t,rfl,rfl⟩|⟨x,t,rfl,rfl⟩
  ·exact wpAny_pyHash_int h
  ·exact wpAny_pyHash_str h
 eqBool:=λhu hv h=>by
  rcases O3 hu with⟨i,t,rfl,rfl⟩|⟨x,t,rfl,rfl⟩
  · rcases O3 hv with⟨j,u,rfl,rfl⟩|⟨y,u,rfl,rfl⟩
    ·rw[Cd]at h;exact wpAny_eqBool_int h
    ·rw[PY]at h;exact ZJ i t y u _ _ _ _ h
  · rcases O3 hv with⟨j,u,rfl,rfl⟩|⟨y,u,rfl,rfl⟩
    ·rw[Gg]at h;exact ZI x t j u _ _ _ _ h
    ·rw[uT]at h;exact wpAny_eqBool_str h
 «strs»:=λk x t v h=>by
  rcases O3 h with⟨i,u,rfl,e⟩|⟨y,u,rfl,e⟩
  ·exact nomatch e
  · injection e with e1 _
    subst e1
    cases v<;>rfl
theorem vm(prog:zW)(w:jk)(i:Int)(t:Tok):(Q9 prog w).is (.inl i) (.int i t)=true:=vf i t
theorem Fq(prog:zW)(w:jk)(x:Str)(t:Tok):(Q9 prog w).is (.inr x) (.str x t)=true:=UU x t
inductive V where
 |non|bl (b:Bool)|int (i:Int)|str (x:Str)|byt (b:Array UInt8)|flt (b:UInt64)|ref (a:Addr)|ty (n:String)
 deriving DecidableEq
def K4:V->zj->Prop
 | .non,u=>u=Value.none
 | .bl b,u=>u=Value.bool b
 | .int i,u=>∃t,u=Value.int i t
 | .str x,u=>∃t,u=Value.str x t
 | .byt b,u=>∃t,u=Value.bytes b t
 | .flt b,u=>∃t,u=Value.float b t
 | .ref a,u=>u=Value.ref a
 | .ty n,u=>u=Value.type n
abbrev J1:List V->List zj->Prop:=Paired K4
theorem J1.length(r:J1 xs us):xs.length=us.length:=yN r
theorem J1.get:∀ {xs} {us} {i:Nat} {x:V},J1 xs us->xs[i]? =some x->∃u,us[i]? =some u/\K4 x u
 |_,_,_,_,.nil,e=>by simp at e
 |_,_,0,_,.cons r _,e=>by simp at e;subst e;exact⟨_,rfl,r⟩
 |_,_,i+1,x,.cons _ t,e=>by
   obtain⟨u,h1,h2⟩:=J1.get (i:=i) (x:=x) t (by simpa using e)
   exact⟨u,by simpa using h1,h2⟩
theorem J1.set(r:K4 x u):∀ {xs} {us} i,J1 xs us->J1 (xs.set i x) (us.set i u)
 |_,_,_,.nil=>.nil
 |_,_,0,.cons _ t=>.cons r t
 |_,_,i+1,.cons q t=>.cons q (J1.set r i t)
theorem J1.append(h:J1 xs us)(k:J1 ys ws):J1 (xs++ys) (us++ws):=by
 induction h with
 |nil=>exact k
 |cons r t ih=>exact .cons r ih
theorem J1.take:∀ {xs} {us} n,J1 xs us->J1 (xs.take n) (us.take n)
 |_,_,0,_=>.nil
 |_,_,_+1,.nil=>.nil
 |_,_,n+1,.cons r t=>.cons r (J1.take n t)
theorem J1.drop:∀ {xs} {us} n,J1 xs us->J1 (xs.drop n) (us.drop n)
 |_,_,0,r=>r
 |_,_,_+1,.nil=>.nil
 |_,_,n+1,.cons _ t=>J1.drop n t
def B8:Option V->Option zj->Prop
 |some v,some u=>K4 v u
 |none,none=>True
 |_,_=>False
def KV{κ:Type}:List (κ×V)->List (κ×zj)->Prop:=Paired fun(p:κ×V) (q:κ×zj)=>p.1=q.1/\K4 p.2 q.2
def kV:Key->V
 | .inl i=>.int i
 | .inr x=>.str x
inductive HO where
 /-- a list -/
 |lst (xs:List V)
 /-- a tuple (never changes) -/
 |tup (xs:List V)
 /-- a dict whose keys are ints and texts;one whose keys are tuples of ints and texts (the empty one is both) -/
 |dK (kvs:List (Key×V))|dT (kvs:List (List Key×V))
 /-- a set of ints:its members,its size -/
 |set (S:Int->Bool) (n:Nat)
 /-- an instance of the class at C,its dict at dx,its attributes -/
 |ins (C dx:Addr) (fs:List (Str×V))
 /-- the dict of the instance at x -/
 |own (x:Addr)
 /-- the dict of an exception -/
 |xd (fs:List (Str×V))
 /-- a bound method,f of x -/
 |met (f x:Addr)
 /-- a range object lo,lo+1,.. below hi -/
 |rng (lo hi:Int)
 /-- a thing that is known to the object (the script;a dict while a loop walks it):read,never written while it is so -/
 |frz (o:Obj) (u:HO)
 /-- a code object's table -/
 |tbl (ps:Array zj)
 /-- any other thing,by what is true of its one object (a def of one's own:SetO a S n:=HO.ext λh=>..) -/
 |ext (φ:Heap->Prop)
abbrev Hp:=Addr->Option HO
def upd(H:Hp)(a:Addr)(o:HO):Hp:=λb=>if b=a then some o else H b
theorem N8:upd H a o a=some o:=by unfold upd;rw[if_pos rfl]
theorem v7(h:b≠a):upd H a o b=H b:=by unfold upd;rw[if_neg h]
theorem oW{H:Hp}(h:H a=some o)(h':H b=some u)(d:o≠u):a≠b:=by
 intro e;subst e;rw[h]at h';exact d (jl h')
theorem v6{H:Hp}{o:HO}(h:H a=some o)(h':H b=none):a≠b:=by
 intro e;subst e;rw[h]at h';cases h'
section
variable(P:zW)(w:jk)
def E3(h:Heap)(a:Addr)(items:Array zj):Prop:=∃o,h.get? a=some o/\o.cls= .type "tuple"/\∃n,(o.data,o.dict)= (Data.seq items n,none)
theorem E3.tup(x:E3 h a items):Yk h a items:=by
 obtain⟨o,e,c,n,d⟩:=x
 exact⟨o,e,c,n,(yV d).1⟩
theorem E3.new(h:Heap)(items:Array zj):E3 (h.push {cls:=.type "tuple",data:=.seq items}) h.objs.size items:=⟨_,zw _ rfl,rfl,_,rfl⟩
def R0(H:Hp)(h:Heap)(a:Addr):HO->Prop
 | .lst xs=>xs.length<=zg/\∃(its:List zj) (n:Nat),J1 xs its/\h.get? a=some {cls:=.type "list",data:=.seq its.toArray n}
 | .tup xs=>xs.length<=zg/\∃its:List zj,J1 xs its/\E3 h a its.toArray
 | .dK kvs=>kvs.length<=zg/\(a==yR)=false/\∃vs,KV kvs vs/\h.DictOf (Q9 P w) a vs
 | .dT kvs=>kvs.length<=zg/\(a==yR)=false/\∃xs:List (List Key×Addr×zj),
    Paired (fun(p:List Key×V) (q:List Key×Addr×zj)=>p.1=q.1/\H q.2.1=some (.tup (p.1.map kV))/\K4 p.2 q.2.2) kvs xs/\
    ∃o es ep,h.get? a=some o/\o.ExactDict/\o.data= .dict es ep/\es.toList=xs.map (entryOfKey (XF (Q9 P w)))/\(xs.map (·.1)).Nodup
 | .set S n=>h.SetOf (intKind P w) a S n
 | .ins C dx fs=>H dx=some (.own a)/\fs.length<=1000/\dx≠a/\h.get? a=some (PySem.W.instObj C dx)/\
    ∃mA,h.Ns1 dx mA/\(∀f,B8 (fs.lookup f) (mA f))/\PySem.Within mA (fs.map (·.1))
 | .own _=>∃o,h.get? a=some o
 | .xd fs=>∃mA,h.Ns1 a mA/\∀f,B8 (fs.lookup f) (mA f)
 | .rng lo hi=>∃t u v,h.get? a=some {cls:=.type "range",data:=.fields #[.int lo t,.int hi u,.int 1 v]}
 | .frz o u=>h.get? a=some o/\R0 H h a u
 | .tbl ps=>h.get? a=some {cls:=.none,data:=.fields ps}
 | .met f x=>h.get? a=some (Yo (.ref f) (.ref x))
 | .ext φ=>φ h/\(∃o,h.get? a=some o)/\∀h1 h2:Heap,φ h1->(∀o,h1.get? a=some o->h2.get? a=some o)->φ h2
def HOk(H:Hp)(h:Heap):Prop:=∀a o,H a=some o->R0 P w H h a o
end
section
theorem R0.lt(x:R0 P w H h a o):a<h.objs.size:=by
 cases o with
 |lst xs=>obtain⟨_,_,_,_,e⟩:=x;exact zu e
 |tup xs=>obtain⟨_,_,_,p⟩:=x;exact(E3.tup p).lt
 |dK kvs=>obtain⟨_,_,_,_,o,_,_,e,_⟩:=x;exact zu e
 |dT kvs=>obtain⟨_,_,_,_,o,_,_,e,_⟩:=x;exact zu e
 |set S n=>obtain⟨o,_,_,_,e,_⟩:=x;exact zu e
 |ins C dx fs=>obtain⟨_,_,_,e,_⟩:=x;exact zu e
 |own y=>obtain⟨_,e⟩:=x;exact zu e
 |xd fs=>obtain⟨_,⟨_,_,_,e,_⟩,_⟩:=x;exact zu e
 |rng lo hi=>obtain⟨_,_,_,e⟩:=x;exact zu e
 |frz ob u=>obtain⟨e,_⟩:=x;exact zu e
 |tbl ps=>exact zu (show h.get? a=some _ from x)
 |met f y=>exact zu (show h.get? a=some _ from x)
 |ext φ=>obtain⟨_,⟨_,e⟩,_⟩:=x;exact zu e
theorem Paired.mapP(h:Paired F l₁ l₂)(f:∀a b,F a b->G a b):Paired G l₁ l₂:=by
 induction h with
 |nil=>exact .nil
 |cons r t ih=>exact .cons (f _ _ r) ih
theorem R0.stay(x:R0 P w H h a o)(k:∀b u,(b=a\/H b=some (.own a))->h.get? b=some u->h'.get? b=some u)
 (ho:∀b,H b=some (.own a)->H' b=some (.own a)) (ht:∀b xs,H b=some (.tup xs)->H' b=some (.tup xs)):R0 P w H' h' a o:=by
 induction o with
 |lst xs=>obtain⟨z,its,n,r,e⟩:=x;exact⟨z,its,n,r,k _ _ (.inl rfl) e⟩
 |tup xs=>obtain⟨z,its,r,ob,e,c⟩:=x;exact⟨z,its,r,ob,k _ _ (.inl rfl) e,c⟩
 |dK kvs=>obtain⟨z,y,vs,r,ob,es,ep,e,c⟩:=x;exact⟨z,y,vs,r,ob,es,ep,k _ _ (.inl rfl) e,c⟩
 |dT kvs=>
   obtain⟨z,y,xs,r,ob,es,ep,e,c⟩:=x
   exact⟨z,y,xs,Paired.mapP r λp q z=>⟨z.1,ht _ _ z.2.1,z.2.2⟩,ob,es,ep,k _ _ (.inl rfl) e,c⟩
 |set S n=>obtain⟨ob,es,ep,t,e,c⟩:=x;exact⟨ob,es,ep,t,k _ _ (.inl rfl) e,c⟩
 |ins C dx fs=>
   obtain⟨d,z,ne,e,mA,⟨od,es,ep,e2,c⟩,r⟩:=x
   exact⟨ho _ d,z,ne,k _ _ (.inl rfl) e,mA,⟨od,es,ep,k _ _ (.inr d) e2,c⟩,r⟩
 |own y=>obtain⟨ob,e⟩:=x;exact⟨ob,k _ _ (.inl rfl) e⟩
 |xd fs=>obtain⟨mA,⟨od,es,ep,e,c⟩,r⟩:=x;exact⟨mA,⟨od,es,ep,k _ _ (.inl rfl) e,c⟩,r⟩
 |rng lo hi=>obtain⟨t,u,v,e⟩:=x;exact⟨t,u,v,k _ _ (.inl rfl) e⟩
 |frz ob u ih=>obtain⟨e,q⟩:=x;exact⟨k _ _ (.inl rfl) e,ih q⟩
 |tbl ps=>
   have e:h.get? a=some {cls:=.none,data:=.fields ps}:=x
   show h'.get? a=some {cls:=.none,data:=.fields ps}
   exact k a _ (.inl rfl) e
 |met f y=>
   have e:h.get? a=some (Yo (.ref f) (.ref y)):=x
   show h'.get? a=some (Yo (.ref f) (.ref y))
   exact k a _ (.inl rfl) e
 |ext φ=>obtain⟨p,⟨o,e⟩,st⟩:=x;exact⟨st _ _ p λo q=>k _ _ (.inl rfl) q,⟨o,k _ _ (.inl rfl) e⟩,st⟩
theorem HOk.lt(x:HOk P w H h)(e:H a=some o):a<h.objs.size:=(x a o e).lt
theorem HOk.fresh(x:HOk P w H h)(e:h.objs.size<=a):H a=none:=by
 cases q:H a with
 |none=>rfl
 |some u=>exact absurd (ji (x.lt q) e) (yc _)
theorem HOk.kept(x:HOk P w H h)(k:∀b u,h.get? b=some u->h'.get? b=some u):HOk P w H h':=λa o e=>
 (x a o e).stay (λb u _ q=>k b u q) (λ_ q=>q) λ_ _ q=>q
theorem HOk.laid(x:HOk P w H h)(k:∀b u,h.get? b=some u->h'.get? b=some u)(hp:h.objs.size<=a)(new:R0 P w (upd H a o) h' a o):HOk P w (upd H a o) h':=λb u e=>by
 have hn:=x.fresh hp
 by_cases hb:b=a
 ·subst hb;rw[N8]at e;cases e;exact new
 · rw[v7 hb]at e
   exact(x b u e).stay (λc v _ q=>k c v q) (λc q=>by rw[v7 (v6 q hn)];exact q) λc xs q=>by rw[v7 (v6 q hn)];exact q
end
def Rd(H:Hp)(a:Addr)(u:HO):Prop:=H a=some u\/∃o,H a=some (.frz o u)
theorem Rd.ok(r:Rd H a u)(x:HOk P w H h):R0 P w H h a u:=by
 rcases r with r|⟨o,r⟩
 ·exact x a u r
 · obtain⟨_,q⟩:=x a _ r
   exact q
def Mut:Option HO->Prop
 |some (.lst _)=>True
 |some (.dK _)=>True
 |some (.dT _)=>True
 |some (.set _ _)=>True
 |some (.ins _ _ _)=>True
 |some (.ext _)=>True
 |_=>False
section
theorem HOk.write(ok:HOk P w H h)(mu:Mut (H x))(he:e=x\/H e=some (.own x))(k:∀b u,b≠e->h.get? b=some u->h'.get? b=some u)(heo:∃u,h'.get? e=some u)
 (new:R0 P w (upd H x o') h' x o'):HOk P w (upd H x o') h':=λb u q=>by
 have nown:∀c y,H c=some (.own y)->c≠x:=λc y r z=>by subst z;rw[r]at mu;exact mu
 have ntup:∀c xs,H c=some (.tup xs)->c≠x:=λc xs r z=>by subst z;rw[r]at mu;exact mu
 by_cases hb:b=x
 ·subst hb;rw[N8]at q;cases q;exact new
 · rw[v7 hb]at q
   by_cases hbe:b=e
   · have q':H b=some (.own x):=by
      rcases he with z|z
      ·exact absurd (hbe.trans z) hb
      ·rw[hbe];exact z
     rw[q]at q';cases q'
     obtain⟨v,hv⟩:=heo
     exact⟨v,by rw[hbe];exact hv⟩
   · refine(ok b u q).stay (λc v hc r=>k c v ?_ r) (λc r=>by rw[v7 (nown c b r)];exact r) λc xs r=>by rw[v7 (ntup c xs r)];exact r
     rcases hc with rfl|hc
     ·exact hbe
     · rintro rfl
       rcases he with z|z
       ·exact nown c b hc z
       ·rw[hc]at z;cases z;exact hb rfl
end
structure Un(fs ex:List Addr)(H H':Hp)(h h':Heap):Prop where
 keep:∀b o,h.get? b=some o->H b=none->b∉fs->b∉ex->h'.get? b=some o
 slot:∀b o,h.get? b=some o->H b=none->b∈fs->b∉ex->∃sl,h'.get? b=some {o with slots:=sl}
 free:∀b o,h.get? b=some o->H b=none->b∉ex->H' b=none
 there:∀b o,h.get? b=some o->b∉ex->∃o',h'.get? b=some o'
 tups:∀b xs,H b=some (.tup xs)->H' b=some (.tup xs)
 frzs:∀b o u,H b=some (.frz o u)->H' b=some (.frz o u)
 tbls:∀b ps,H b=some (.tbl ps)->∃more,H' b=some (.tbl (ps++more))
section
theorem Un.any(u:Un fs ex H H1 h h1)(q:h.get? b=some ob)(n:H b=none)(hx:b∉ex):∃sl,h1.get? b=some {ob with slots:=sl}:=by
 by_cases hb:b∈fs
 ·exact u.slot b ob q n hb hx
 ·exact⟨ob.slots,u.keep b ob q n hb hx⟩
theorem Un.kept(k:∀b u,h.get? b=some u->h'.get? b=some u):Un fs ex H H h h':=
 ⟨λb ob q _ _ _=>k b ob q,λb ob q _ _ _=>⟨ob.slots,k b ob q⟩,λ_ _ _ n _=>n,λb ob q _=>⟨ob,k b ob q⟩,λ_ _ q=>q,λ_ _ _ q=>q,λ_ ps q=>⟨#[],by rw[q];simp⟩⟩
theorem Un.refl:Un fs ex H H h h:=Un.kept λ_ _ q=>q
theorem Un.laid(k:∀b u,h.get? b=some u->h'.get? b=some u)(hp:h.objs.size<=a)(hn:H a=none):Un fs ex H (upd H a o) h h' where
 keep:=λb u q _ _ _=>k b u q
 slot:=λb u q _ _ _=>⟨u.slots,k b u q⟩
 free:=λb u q n _=>by rw[v7 (zF (ji (zu q) hp))];exact n
 there:=λb u q _=>⟨u,k b u q⟩
 tups:=λb xs q=>by rw[v7 (v6 q hn)];exact q
 frzs:=λb u xs q=>by rw[v7 (v6 q hn)];exact q
 tbls:=λb ps q=>⟨#[],by rw[v7 (v6 q hn),q];simp⟩
theorem Un.write(mu:Mut (H x))(he:e=x\/H e=some (.own x))(k:∀b u,b≠e->h.get? b=some u->h'.get? b=some u)(heo:∃u,h'.get? e=some u):Un fs ex H (upd H x o) h h':=by
 have hx:∀b,H b=none->b≠x:=λb n z=>by subst z;rw[n]at mu;exact mu
 have hb:∀b,H b=none->b≠e:=λb n z=>by
  subst z
  rcases he with r|r
  ·exact hx b n r
  ·rw[n]at r;cases r
 have hm:∀b u,H b=some u->¬Mut (some u)->b≠x:=λb u q nm z=>by subst z;rw[q]at mu;exact nm mu
 refine⟨λb u q n _ _=>k b u (hb b n) q,λb u q n _ _=>⟨u.slots,k b u (hb b n) q⟩,λb u q n _=>by rw[v7 (hx b n)];exact n,λb u q _=>?_,
  λb xs q=>by rw[v7 (hm b _ q λz=>z)];exact q,λb u xs q=>by rw[v7 (hm b _ q λz=>z)];exact q,λb ps q=>⟨#[],by rw[v7 (hm b _ q λz=>z),q];simp⟩⟩
 by_cases hbe:b=e
 ·subst hbe;exact heo
 ·exact⟨u,k b u hbe q⟩
end
def trk(h:Heap)(H:Hp):List Addr:=(jr h.objs.size).filter λa=>(H a).isSome
def L8(h:Heap)(H:Hp):Heap:=PySem.W.hideAll h (trk h H)
theorem Kh(h:Heap)(H:Hp):(L8 h H).objs.size=h.objs.size:=PySem.W.hideAll_size _ _
theorem eX(e:h.get? b=some o)(n:H b=none):(L8 h H).get? b=some o:=
 PySem.W.hideAll_get _ e λhm=>by
  have q:(H b).isSome=true:=(jN.mp hm).2
  rw[n]at q;simp at q
theorem tS(e:(L8 h H).get? b=some o):h.get? b=some o/\H b=none:=by
 have e':h.get? b=some o:=PySem.W.of_hideAll (trk h H) e
 refine⟨e',?_⟩
 cases q:H b with
 |none=>rfl
 |some x=>
   have hm:b∈trk h H:=jN.mpr ⟨xw.mpr (zu e'),by simp[q]⟩
   have z:(L8 h H).get? b=none:=PySem.W.hideAll_none (trk h H) hm
   rw[z]at e;cases e
def HU(g h:Heap)(L:Addr):PNS:=(jr h.objs.size).filterMap λa=>if a=L\/(g.get? a).isSome=true then none else (h.get? a).map λo=>(a,o)
def T6(g h:Heap)(L d:Addr):PNS:=(HU g h L).filter λp=>decide (p.1≠d)
structure Mod(K:zh)(mg:Str->Option zj)(base:Heap):Prop where
 kin:K.In base
 glob:base.Ns jv mg
 blt:∃mb,base.Ns builtinsNs mb/\∀x:Str,x≠ "__name__"->mb x=zV x
 nolimit:base.NoLimit
structure Cx where
 prog:zW
 w:jk
 K:zh
 mg:Str->Option zj
 base:Heap
 A:jA
 N:List Str
 WX:zv
 H₀:Hp
 env:Env
 outer:List Env
 stack:List Env
 ex:List Addr
 fn:Str->Bool
 calm:Bool
 pn:PNS
 xe:VSP
def frs(l:List Env):List Addr:=l.filterMap (·.frame)
abbrev Cx.fs(X:Cx):List Addr:=frs X.outer
def Vis(sc:Scope)(x:Str):Prop:=sc.names.lookup x=some .local\/sc.names.lookup x=some .cell\/sc.names.lookup x=some .free
def Loc(sc:Scope)(x:Str):Prop:=sc.names.lookup x=some .local\/sc.names.lookup x=some .cell
def pU(env:Env)(h:Heap)(m:Str->Option zj)(x:Str)(u:zj):Prop:=
 (env.kindOf x=some .local/\m x=some u)\/((env.kindOf x=some .cell\/env.kindOf x=some .free)/\∃c,env.cells.lookup x=some c/\h.IsCell c (some u))
structure Cx.Ok(X:Cx):Prop where
 mod:Mod X.K X.mg X.base
 kind:X.env.scope.kind= .function
 glob:X.env.globals=jv
 blt:X.env.builtins=builtinsNs
 above:X.WX.heap.objs.size<=X.env.locals
 inj:∀x y c,X.env.cells.lookup x=some c->X.env.cells.lookup y=some c->x=y
 has:∀x,(X.env.kindOf x=some .cell\/X.env.kindOf x=some .free)->∃c,X.env.cells.lookup x=some c
 cab:∀x c,X.fn x=true->X.env.cells.lookup x=some c->X.WX.heap.objs.size<=c
 hd:X.calm=true->X.A.handled=none
 frames:X.A.frames=some X.stack
 stk:X.stack=X.outer\/(X.stack=X.env::X.outer/\X.env.frame=some X.env.locals)
 exf:∀b∈X.ex,b≠X.env.locals/\∀x c,X.env.cells.lookup x=some c->c≠b
 bs:∀b o,X.base.get? b=some o->X.WX.heap.get? b=some o/\X.H₀ b=none
 bsz:X.base.objs.size<=X.WX.heap.objs.size
 noex:∀b o,X.base.get? b=some o->b∉X.ex
 exfs:∀b∈X.ex,b∉X.fs
 funs:X.WX.heap.FunFrames X.base X.outer
 frf:∀b∈X.fs,X.H₀ b=none
 gd:X.A.guards=some []
structure Inv(X:Cx)(pins:PNS)(σ:List (Option V))(H:Hp)(s:zv):Prop where
 ok:X.Ok
 os:s.os=X.WX.os
 bare:YF s.gens
 base:Un X.fs X.ex X.H₀ H X.WX.heap s.heap
 loc:∃m,s.heap.Ns X.env.locals m/\∀(i:Nat) (x:Str) (v:V),X.N[i]? =some x->σ[i]? =some (some v)->Vis X.env.scope x->∃u,K4 v u/\pU X.env s.heap m x u
 cell:∀x c,X.env.cells.lookup x=some c->∃v,s.heap.IsCell c v
 free:H X.env.locals=none
 freeC:∀x c,X.env.cells.lookup x=some c->H c=none
 pin:∀p∈X.pn++pins,s.heap.get? p.1=some p.2/\H p.1=none/\p.1≠X.env.locals/\p.1∉X.fs/\∀v,p.2.data≠ .cell v
 hok:HOk X.prog X.w H s.heap
 len:σ.length=X.N.length
section
variable{X:Cx}{pins:PNS}{σ:List (Option V)}{H H':Hp}{s:zv}
theorem Cx.Ok.nofr(ok:X.Ok)(e:X.base.get? b=some o):b∉X.fs:=λhb=>by
 have:=(ok.funs.mem hb).1
 rw[e]at this;cases this
theorem Inv.bs(I:Inv X pins σ H s):∀b o,X.base.get? b=some o->s.heap.get? b=some o/\H b=none:=λb o e=>
 ⟨I.base.keep b o (I.ok.bs b o e).1 (I.ok.bs b o e).2 (I.ok.nofr e) (I.ok.noex b o e),I.base.free b o (I.ok.bs b o e).1 (I.ok.bs b o e).2 (I.ok.noex b o e)⟩
theorem Inv.bk(I:Inv X pins σ H s):∀b o,X.base.get? b=some o->s.heap.get? b=some o:=λb o e=>(I.bs b o e).1
theorem Inv.mod(I:Inv X pins σ H s):Mod X.K X.mg X.base:=I.ok.mod
theorem Inv.kIn(I:Inv X pins σ H s):X.K.In s.heap:=I.ok.mod.kin.keeps I.bk
theorem Inv.lt(I:Inv X pins σ H s):X.env.locals<s.heap.objs.size:=let ⟨_,hn,_⟩:=I.loc;hn.lt
theorem Inv.sz(I:Inv X pins σ H s):X.WX.heap.objs.size<=s.heap.objs.size:=zI I.ok.above (ym I.lt)
theorem Inv.nofs(I:Inv X pins σ H s)(h:s.heap.objs.size<=a):a∉X.fs:=λhb=>by
 obtain⟨_,o,ho,_⟩:=I.ok.funs.mem hb
 exact absurd (ji (zu ho) (zI I.sz h)) (yc _)
theorem Inv.cne(I:Inv X pins σ H s):∀x c,X.env.cells.lookup x=some c->c≠X.env.locals:=λx c e z=>by
 obtain⟨v,o,ho,hd⟩:=I.cell x c e
 obtain⟨m,⟨o',es,ep,ho',hd',_⟩,_⟩:=I.loc
 rw[z,ho']at ho;cases ho;rw[hd']at hd;cases hd
theorem Inv.funs(I:Inv X pins σ H s):s.heap.FunFrames X.base X.outer:=by
 have all:∀(l:List Env),(∀b∈frs l,b∈X.fs)->X.WX.heap.FunFrames X.base l->s.heap.FunFrames X.base l:=by
  intro l
  induction l with
  |nil=>intro _ _;trivial
  |cons env r ih=>
    intro hs hl
    obtain⟨hk,⟨L,o,hf,hn,ho,hd⟩,hr⟩:=hl
    have hL:L∈X.fs:=hs L (by unfold frs;rw[jK,hf];exact zt)
    obtain⟨sl,e⟩:=I.base.slot L o ho (I.ok.frf L hL) hL λz=>I.ok.exfs L z hL
    exact⟨hk,⟨L,_,hf,hn,e,hd⟩,ih (λb hb=>hs b (by unfold frs;rw[jK,hf];exact zn _ hb)) hr⟩
 exact all X.outer (λ_ hb=>hb) I.ok.funs
theorem Inv.stack(I:Inv X pins σ H s):s.heap.FunFrames X.base X.stack:=by
 rcases I.ok.stk with e|⟨e,hf⟩
 ·rw[e];exact I.funs
 · rw[e]
   obtain⟨m,hn,_⟩:=I.loc
   refine .cons (by rw[I.ok.kind];decide) hf hn ?_ I.funs
   exact Heap.get?_none_of_le (zI I.ok.bsz I.ok.above)
theorem Inv.stkSub(I:Inv X pins σ H s):∀b∈frs X.stack,b∈X.env.locals::X.fs:=λb hb=>by
 rcases I.ok.stk with e|⟨e,hf⟩
 ·rw[e]at hb;exact zn _ hb
 · rw[e]at hb
   unfold frs at hb
   rw[jK,hf]at hb
   exact hb
theorem Inv.stkFree(I:Inv X pins σ H s):∀b∈frs X.stack,H b=none:=λb hb=>by
 rcases zp.mp (I.stkSub b hb)with e|hb
 ·rw[e];exact I.free
 · obtain⟨_,o,ho,_⟩:=I.ok.funs.mem hb
   exact I.base.free b o ho (I.ok.frf b hb) λz=>I.ok.exfs b z hb
theorem Inv.step{t':Nat}{d':Drawn}{ch:List Addr}(I:Inv X pins σ H s)
 (hch:∀b∈ch,(b∈X.ex\/X.WX.heap.objs.size<=b)/\b≠X.env.locals/\(∀x c,X.env.cells.lookup x=some c->c≠b)/\∀p∈X.pn++pins,p.1≠b)
 (keep:∀b o,b≠X.env.locals->b∉X.fs->b∉ch->s.heap.get? b=some o->H b=none->h'.get? b=some o)
 (slot:∀b o,b≠X.env.locals->b∈X.fs->b∉ch->s.heap.get? b=some o->H b=none->∃sl,h'.get? b=some {o with slots:=sl}) (free:∀b o,b∉ch->s.heap.get? b=some o->H b=none->H' b=none)
 (there:∀b o,b∉ch->s.heap.get? b=some o->∃o',h'.get? b=some o')
 (tups:∀b xs,H b=some (.tup xs)->H' b=some (.tup xs)) (frzs:∀b o u,H b=some (.frz o u)->H' b=some (.frz o u)) (tbls:∀b ps,H b=some (.tbl ps)->∃more,H' b=some (.tbl (ps++more)))
 (ns:∀m,s.heap.Ns X.env.locals m->h'.Ns X.env.locals m) (hok:HOk X.prog X.w H' h') (hg:YF g'):
 Inv X pins σ H' {s with heap:=h',gens:=g',drawn:=d',toks:=t'}:=by
 have neL:∀b o,X.WX.heap.get? b=some o->b≠X.env.locals:=λb o e=>zF (ji (zu e) I.ok.above)
 have neC:∀b o,X.WX.heap.get? b=some o->b∉X.ex->b∉ch:=λb o e hx hb=>by
  rcases (hch b hb).1 with z|z
  ·exact hx z
  ·exact absurd (ji (zu e) z) (yc _)
 have cellK:∀x c,X.env.cells.lookup x=some c->∀v,s.heap.IsCell c v->h'.IsCell c v:=λx c e v ⟨o,ho,hd⟩=>by
  have nch:c∉ch:=λz=>(hch c z).2.2.1 x c e rfl
  by_cases hc:c∈X.fs
  · obtain⟨sl,q⟩:=slot c o (I.cne x c e) hc nch ho (I.freeC x c e)
    exact⟨_,q,hd⟩
  ·exact⟨o,keep c o (I.cne x c e) hc nch ho (I.freeC x c e),hd⟩
 refine⟨I.ok,I.os,hg,⟨λb o e n hb hx=>?_,λb o e n hb hx=>?_,λb o e n hx=>?_,λb o e hx=>?_,λb xs e=>tups b xs (I.base.tups b xs e),λb o xs e=>frzs b o xs (I.base.frzs b o xs e),λb ps e=>?_⟩,?_,λx c e=>?_,?_,λx c e=>?_,λp hp=>?_,hok,I.len⟩
 ·exact keep b o (neL b o e) hb (neC b o e hx) (I.base.keep b o e n hb hx) (I.base.free b o e n hx)
 · obtain⟨sl,e1⟩:=I.base.slot b o e n hb hx
   obtain⟨sl',e2⟩:=slot b _ (neL b o e) hb (neC b o e hx) e1 (I.base.free b o e n hx)
   exact⟨sl',e2⟩
 · obtain⟨o',e1⟩:=I.base.there b o e hx
   exact free b o' (neC b o e hx) e1 (I.base.free b o e n hx)
 · obtain⟨o',e1⟩:=I.base.there b o e hx
   exact there b o' (neC b o e hx) e1
 · obtain⟨m1,e1⟩:=I.base.tbls b ps e
   obtain⟨m2,e2⟩:=tbls b _ e1
   exact⟨m1++m2,by rw[e2,Array.append_assoc]⟩
 · obtain⟨m,hn,hl⟩:=I.loc
   refine⟨m,ns m hn,λi x v e1 e2 e3=>?_⟩
   obtain⟨u,r,l⟩:=hl i x v e1 e2 e3
   refine⟨u,r,?_⟩
   rcases l with l|⟨k,c,e,z⟩
   ·exact .inl l
   ·exact .inr ⟨k,c,e,cellK x c e _ z⟩
 · obtain⟨v,z⟩:=I.cell x c e
   exact⟨v,cellK x c e v z⟩
 · obtain⟨m,⟨o,_,_,ho,_⟩,_⟩:=I.loc
   exact free _ o (λz=>(hch _ z).2.1 rfl) ho I.free
 · obtain⟨v,o,ho,hd⟩:=I.cell x c e
   exact free c o (λz=>(hch c z).2.2.1 x c e rfl) ho (I.freeC x c e)
 · obtain⟨e,n,ne,nf,d⟩:=I.pin p hp
   have nch:p.1∉ch:=λz=>(hch p.1 z).2.2.2 p hp rfl
   exact⟨keep p.1 p.2 ne nf nch e n,free p.1 p.2 nch e n,ne,nf,d⟩
theorem Inv.un(I:Inv X pins σ H s)(u:Un X.fs [] H H' s.heap h')(hok:HOk X.prog X.w H' h'):Inv X pins σ H' {s with heap:=h',toks:=t'}:=by
 obtain⟨m,⟨o,es,ep,ho,r⟩,_⟩:=id I.loc
 obtain⟨sl,hL⟩:=u.any ho I.free (by simp)
 exact I.step (g':=s.gens) (d':=s.drawn) (ch:= []) (λ_ z=>nomatch z) (λb o _ hb _ e n=>u.keep b o e n hb (by simp)) (λb o _ hb _ e n=>u.slot b o e n hb (by simp)) (λb o _ e n=>u.free b o e n (by simp)) (λb o _ e=>u.there b o e (by simp)) u.tups u.frzs u.tbls (λm' hm=>by
  obtain⟨o',es',ep',ho',r'⟩:=hm
  rw[ho]at ho';cases ho'
  exact⟨_,es',ep',hL,r'⟩) hok I.bare
theorem Inv.call{t':Nat}{d':Drawn}{ch:List Addr}(I:Inv X pins σ H s)(u:Un (frs X.stack) ch H H' s.heap h')(hok:HOk X.prog X.w H' h')(hg:YF g')
 (hch:∀b∈ch,(b∈X.ex\/X.WX.heap.objs.size<=b)/\b≠X.env.locals/\(∀x c,X.env.cells.lookup x=some c->c≠b)/\∀p∈X.pn++pins,p.1≠b):
 Inv X pins σ H' {s with heap:=h',gens:=g',drawn:=d',toks:=t'}:=by
 obtain⟨m,⟨o,es,ep,ho,r⟩,_⟩:=id I.loc
 obtain⟨sl,hL⟩:=u.any ho I.free λz=>(hch _ z).2.1 rfl
 exact I.step (ch:=ch) hch (λb o hL hb hc e n=>u.keep b o e n (λz=>(zp.mp (I.stkSub b z)).elim hL hb) hc) (λb o _ _ hc e n=>u.any e n hc) (λb o hc e n=>u.free b o e n hc) (λb o hc e=>u.there b o e hc) u.tups u.frzs u.tbls (λm' hm=>by
  obtain⟨o',es',ep',ho',r'⟩:=hm
  rw[ho]at ho';cases ho'
  exact⟨_,es',ep',hL,r'⟩) hok hg
theorem Inv.turned{t':Nat}(I:Inv X pins σ H s)(k:∀b o,b≠it->s.heap.get? b=some o->h'.get? b=some o)(hn:H it=none)(hL:it≠X.env.locals)
 (h1:it∈X.ex\/X.WX.heap.objs.size<=it) (h2:∀x c,X.env.cells.lookup x=some c->c≠it) (h3:∀p∈X.pn++pins,p.1≠it):Inv X pins σ H {s with heap:=h',toks:=t'}:=by
 have nit:∀b u,H b=some u->b≠it:=λb u e z=>by rw[z,hn]at e;cases e
 refine I.step (g':=s.gens) (d':=s.drawn) (ch:= [it]) (λb hb=>?_) (λb o _ _ hc e _=>k b o (λz=>hc (by simp[z])) e) (λb o _ _ hc e _=>⟨o.slots,k b o (λz=>hc (by simp[z])) e⟩) (λ_ _ _ _ n=>n)
  (λb o hc e=>⟨o,k b o (λz=>hc (by simp[z])) e⟩) (λ_ _ e=>e) (λ_ _ _ e=>e) (λb ps e=>⟨#[],by rw[e];simp⟩) (λm hm=>?_) (λb u e=>?_) I.bare
 · have e:b=it:=by simpa using hb
   subst e
   exact⟨h1,hL,h2,h3⟩
 · obtain⟨o,es,ep,ho,r⟩:=hm
   exact⟨o,es,ep,k _ o (Ne.symm hL) ho,r⟩
 · refine(I.hok b u e).stay (λc v hc q=>k c v ?_ q) (λ_ q=>q) λ_ _ q=>q
   rcases hc with z|z
   ·rw[z];exact nit b u e
   ·exact nit c _ z
theorem Inv.tok(I:Inv X pins σ H s)(t:Nat):Inv X pins σ H {s with toks:=t}:=I.un (h':=s.heap) (t':=t) Un.refl I.hok
theorem Inv.kept(I:Inv X pins σ H s)(k:∀b u,s.heap.get? b=some u->h'.get? b=some u):Inv X pins σ H {s with heap:=h',toks:=t'}:=I.un (Un.kept k) (I.hok.kept k)
theorem Inv.laid(I:Inv X pins σ H s)(k:∀b u,s.heap.get? b=some u->h'.get? b=some u)(hp:s.heap.objs.size<=a)(new:R0 X.prog X.w (upd H a o) h' a o):
 Inv X pins σ (upd H a o) {s with heap:=h',toks:=t'}:=I.un (Un.laid k hp (I.hok.fresh hp)) (I.hok.laid k hp new)
theorem Inv.write(I:Inv X pins σ H s)(mu:Mut (H x))(he:e=x\/H e=some (.own x))(k:∀b u,b≠e->s.heap.get? b=some u->h'.get? b=some u)(heo:∃u,h'.get? e=some u)
 (new:R0 X.prog X.w (upd H x o) h' x o):Inv X pins σ (upd H x o) {s with heap:=h',toks:=t'}:=I.un (Un.write mu he k heo) (I.hok.write mu he k heo new)
theorem Inv.pins_of(I:Inv X pins σ H s)(h:∀p∈pins',s.heap.get? p.1=some p.2/\H p.1=none/\p.1≠X.env.locals/\p.1∉X.fs/\∀v,p.2.data≠ .cell v):Inv X pins' σ H s:=
 ⟨I.ok,I.os,I.bare,I.base,I.loc,I.cell,I.free,I.freeC,λp hp=>(zJ.mp hp).elim (λz=>I.pin p (jQ _ z)) (h p),I.hok,I.len⟩
theorem LL{N:List Str}(hN:N.Nodup){i j:Nat}{x:Str}(a:N[i]? =some x)(b:N[j]? =some x):i=j:=by
 obtain⟨h1,e1⟩:=zy.mp a
 obtain⟨h2,e2⟩:=zy.mp b
 exact(YW hN).mp (e1.trans e2.symm)
theorem Np{M:Model}{A:jA}{E:VSP}{i:Nat}{x:Str}{v:V}{u:zj}{Q:Unit->zv->Prop}(I:Inv X pins σ H s)(hN:X.N.Nodup)(hi:X.N[i]? =some x)(hx:Loc X.env.scope x)(r:K4 v u)
 (h:∀s',Inv X pins (σ.set i (some v)) H s'->(∃a,xu a s.heap s'.heap/\(a=X.env.locals\/X.env.cells.lookup x=some a))->Q () s') (hf:X.fn x=true\/X.env.scope.names.lookup x=some .local):zC M A (storeName X.env x u) Q E s:=by
 obtain⟨m,hn,hl⟩:=id I.loc
 have hcls:(X.env.scope.kind == .class||(X.env.scope.kind == .module&&X.env.locals != X.env.globals))=false:=by rw[I.ok.kind];rfl
 have hiσ:i<σ.length:=by rw[I.len];exact(zy.mp hi).1
 have cne:=I.cne
 have tracked:∀ {a:Addr} {h':Heap},(∃o,s.heap.get? a=some o/\H a=none)->xu a s.heap h'->HOk X.prog X.w H h':=λ{a h'} ha hs b ob e=>by
  obtain⟨_,_,hfree⟩:=ha
  refine(I.hok b ob e).stay (λc w' hc q=>(hs.2 c ?_).trans q) (λ_ q=>q) λ_ _ q=>q
  rintro rfl
  rcases hc with rfl|hc
  ·rw[hfree]at e;cases e
  ·rw[hfree]at hc;cases hc
 rcases hx with hk|hk
 · refine wpAny_storeName_local hk hn (λh' hn' hs=>?_) hcls
   obtain⟨oL,_,_,hoL,_⟩:=id hn
   refine h _ ⟨I.ok,I.os,I.bare,⟨λb o e n hb hx=>?_,λb o e n hb hx=>?_,I.base.free,λb o e hx=>?_,I.base.tups,I.base.frzs,I.base.tbls⟩,⟨_,hn',λj y v' e1 e2 e3=>?_⟩,λy c e=>?_,I.free,I.freeC,λp hp=>?_,tracked ⟨oL,hoL,I.free⟩ hs,by simpa using I.len⟩ ⟨_,hs,.inl rfl⟩
   ·exact(hs.2 b (zF (ji (zu e) I.ok.above))).trans (I.base.keep b o e n hb hx)
   · obtain⟨sl,e1⟩:=I.base.slot b o e n hb hx
     exact⟨sl,(hs.2 b (zF (ji (zu e) I.ok.above))).trans e1⟩
   · obtain⟨o',e1⟩:=I.base.there b o e hx
     exact⟨o',(hs.2 b (zF (ji (zu e) I.ok.above))).trans e1⟩
   · by_cases hj:j=i
     · subst hj
       rw[hi]at e1;cases e1
       rw[zX hiσ]at e2
       cases e2
       exact⟨u,r,.inl ⟨hk,by simp⟩⟩
     · rw[jb (Ne.symm hj)]at e2
       obtain⟨u',r',q⟩:=hl j y v' e1 e2 e3
       refine⟨u',r',?_⟩
       rcases q with⟨k,e⟩|⟨k,c,e,z⟩
       · refine .inl ⟨k,?_⟩
         have:y≠x:=λe=>hj (LL hN e1 (e▸hi))
         simp[this,e]
       ·exact .inr ⟨k,c,e,z.sameBut hs (cne y c e)⟩
   · obtain⟨w',z⟩:=I.cell y c e
     exact⟨w',z.sameBut hs (cne y c e)⟩
   · obtain⟨e,n,ne,nf,d⟩:=I.pin p hp
     exact⟨(hs.2 p.1 ne).trans e,n,ne,nf,d⟩
 · have hfn:X.fn x=true:=by
    rcases hf with z|z
    ·exact z
    ·rw[z]at hk;cases hk
   obtain⟨c,hc⟩:=I.ok.has x (.inl hk)
   obtain⟨w',z⟩:=I.cell x c hc
   refine wpAny_storeName_cell I.ok.kind hk hc z (λh' hc' hs=>?_)
   obtain⟨oc,hoc,hocd⟩:=id z
   refine h {s with heap:=h'} ⟨I.ok,I.os,I.bare,⟨λb o e n hb hx=>?_,λb o e n hb hx=>?_,I.base.free,λb o e hx=>?_,I.base.tups,I.base.frzs,I.base.tbls⟩,⟨m,hn.sameBut hs (Ne.symm (cne x c hc)),λj y v' e1 e2 e3=>?_⟩,λy c' e=>?_,I.free,I.freeC,λp hp=>?_,tracked ⟨oc,hoc,I.freeC x c hc⟩ hs,by simpa using I.len⟩ ⟨c,hs,.inr hc⟩
   ·exact(hs.2 b (zF (ji (zu e) (I.ok.cab x c hfn hc)))).trans (I.base.keep b o e n hb hx)
   · obtain⟨sl,e1⟩:=I.base.slot b o e n hb hx
     exact⟨sl,(hs.2 b (zF (ji (zu e) (I.ok.cab x c hfn hc)))).trans e1⟩
   · obtain⟨o',e1⟩:=I.base.there b o e hx
     exact⟨o',(hs.2 b (zF (ji (zu e) (I.ok.cab x c hfn hc)))).trans e1⟩
   · by_cases hj:j=i
     · subst hj
       rw[hi]at e1;cases e1
       rw[zX hiσ]at e2
       cases e2
       exact⟨u,r,.inr ⟨.inl hk,c,hc,hc'⟩⟩
     · rw[jb (Ne.symm hj)]at e2
       obtain⟨u',r',q⟩:=hl j y v' e1 e2 e3
       refine⟨u',r',?_⟩
       rcases q with q|⟨k,c',e,z'⟩
       ·exact .inl q
       · refine .inr ⟨k,c',e,z'.sameBut hs ?_⟩
         rintro rfl
         exact hj (LL hN e1 (I.ok.inj _ _ _ e hc▸hi))
   · by_cases hcc:c'=c
     ·subst hcc;exact⟨_,hc'⟩
     · obtain⟨w2,z2⟩:=I.cell y c' e
       exact⟨w2,z2.sameBut hs hcc⟩
   · obtain⟨e,n,ne,nf,d⟩:=I.pin p hp
     refine⟨(hs.2 p.1 ?_).trans e,n,ne,nf,d⟩
     intro q
     rw[q,hoc]at e
     have q':oc=p.2:=jl e
     exact d w' (by rw[<-q'];exact hocd)
theorem Sf(I:Inv X pins σ H s)(hN:X.N.Nodup)(hi:X.N[i]? =some x)(hx:Loc X.env.scope x)(r:K4 v u)
 (h:∀s',Inv X pins (σ.set i (some v)) H s'->Q () s') (hf:X.fn x=true\/X.env.scope.names.lookup x=some .local):zC M A (storeName X.env x u) Q E s:=
 Np I hN hi hx r (λs' I' _=>h s' I') hf
end
abbrev XK:=zj->Option Addr->Hp->Prop
abbrev St:=List (Option V)
abbrev VK:=V->Hp->Prop
abbrev TE:=St->Hp->VK->Prop
abbrev TT:=St->Hp->(Bool->Hp->Prop)->Prop
abbrev TA:=St->Hp->(List V->Hp->Prop)->Prop
structure eA where
 nx:St->Hp->Prop
 rt:VK
 bk:St->Hp->Prop:=λ_ _=>False
 ct:St->Hp->Prop:=λ_ _=>False
abbrev TS:=eA->St->Hp->Prop
def EP(X:Cx)(pins:PNS)(σ:St)(Q:VK)(u:zj)(s':zv):Prop:=∃v H',Inv X pins σ H' s'/\K4 v u/\Q v H'
def TP(X:Cx)(pins:PNS)(σ:St)(Q:Bool->Hp->Prop)(b:Bool)(s':zv):Prop:=∃H',Inv X pins σ H' s'/\Q b H'
def AP(X:Cx)(pins:PNS)(σ:St)(Q:List V->Hp->Prop)(us:List zj)(s':zv):Prop:=∃vs H',Inv X pins σ H' s'/\J1 vs us/\Q vs H'
theorem EP.elim{X:Cx}{σ:St}{Q:VK}{u:zj}{P:Prop}(h:EP X pins σ Q u s)(k:∀v H,Inv X pins σ H s->K4 v u->Q v H->P):P:=by
 obtain⟨a,b,c,d,e⟩:=h
 exact k a b c d e
theorem TP.elim{X:Cx}{σ:St}{u:Bool}{s:zv}{P:Prop}(h:TP X pins σ Q u s)(k:∀H,Inv X pins σ H s->Q u H->P):P:=by
 obtain⟨b,c,e⟩:=h
 exact k b c e
theorem AP.elim{X:Cx}{σ:St}{u:List zj}{s:zv}{P:Prop}(h:AP X pins σ Q u s)(k:∀v H,Inv X pins σ H s->J1 v u->Q v H->P):P:=by
 obtain⟨a,b,c,d,e⟩:=h
 exact k a b c d e
def SP(X:Cx)(pins:PNS)(D:eA)(f:Flow)(s':zv):Prop:=
 match f with
 | .next=>∃ X2 H',Inv X pins X2 H' s'/\D.nx X2 H'
 | .brk=>∃ X2 H',Inv X pins X2 H' s'/\D.bk X2 H'
 | .cont=>∃ X2 H',Inv X pins X2 H' s'/\D.ct X2 H'
 | .ret u=>∃v X2 H',Inv X pins X2 H' s'/\K4 v u/\D.rt v H'
def PE(X:Cx)(e:Expr)(t:TE):Prop:=
 ∀(pins:PNS) (s:zv) (σ:St) (H:Hp) (Q:VK),Inv X pins σ H s->t σ H Q->zC (zH X.prog X.w) X.A (eval e X.env) (EP X pins σ Q) X.xe s
def PT(X:Cx)(e:Expr)(t:TT):Prop:=
 ∀(pins:PNS) (s:zv) (σ:St) (H:Hp) (Q:Bool->Hp->Prop),Inv X pins σ H s->t σ H Q->zC (zH X.prog X.w) X.A (isTrue e X.env (eval e X.env)) (TP X pins σ Q) X.xe s
def PW(X:Cx)(e:Expr)(t:TT):Prop:=
 ∀(whole:Sem zj) (pins:PNS) (s:zv) (σ:St) (H:Hp) (Q:Bool->Hp->Prop),Inv X pins σ H s->t σ H Q->zC (zH X.prog X.w) X.A (isTrue e X.env whole) (TP X pins σ Q) X.xe s
def PA(X:Cx)(es:List Expr)(t:TA):Prop:=
 ∀(pos:Pos) (pins:PNS) (s:zv) (σ:St) (H:Hp) (Q:List V->Hp->Prop),Inv X pins σ H s->t σ H Q->zC (zH X.prog X.w) X.A (spliced (yS pos (zP es X.env))) (AP X pins σ Q) X.xe s
def PS(X:Cx)(st:Stmt)(t:TS):Prop:=
 ∀(pins:PNS) (s:zv) (σ:St) (H:Hp) (D:eA),Inv X pins σ H s->t D σ H->zC (zH X.prog X.w) X.A (exec st X.env) (SP X pins D) X.xe s
def PSs(X:Cx)(st:List Stmt)(t:TS):Prop:=
 ∀(pins:PNS) (s:zv) (σ:St) (H:Hp) (D:eA),Inv X pins σ H s->t D σ H->zC (zH X.prog X.w) X.A (execs st X.env) (SP X pins D) X.xe s
theorem thn(h:zC M A t Q E s)(hQ:∀a s,Q a s->Q' a s):zC M A t Q' E s:=jE h hQ λ_ _ x=>x
section
variable{X:Cx}
def bL(i:Nat):TE:=λσ H Q=>∃v,σ[i]? =some (some v)/\Q v H
def tC(v:V):TE:=λ_ H Q=>Q v H
theorem kT(hN:X.N[i]? =some x)(hv:Vis X.env.scope x)(hd:(x==("__debug__" :Str))=false)(hcd:(x==("__classdict__" :Str))=false):PE X (.Name x pos) (bL i):=by
 intro pins s σ H Q I h
 obtain⟨v,e,h⟩:=h
 obtain⟨m,hn,hl⟩:=I.loc
 obtain⟨u,r,l⟩:=hl i x v hN e hv
 have fin:EP X pins σ Q u s:=⟨v,H,I,r,h⟩
 rcases l with⟨hk,hm⟩|⟨hk,c,hc,hcell⟩
 ·exact wpAny_Name (wpAny_loadName_local I.ok.kind hk hn hm fin) hd
 · rcases hk with hk|hk
   ·exact wpAny_Name (wpAny_loadName_cell I.ok.kind hk hc hcell fin) hd
   ·exact wpAny_Name (wpAny_loadName_free I.ok.kind hk hc hcell fin hcd) hd
theorem dR{i j pos}:PE X (.Constant (.int i) j pos) (tC (.int i)):=λ_ _ _ H _ I h=>wpAny_Constant_int ⟨.int i,H,I.tok _,⟨_,rfl⟩,h⟩
theorem Cj{b j pos}:PE X (.Constant (.bool b) j pos) (tC (.bl b)):=λ_ _ _ H _ I h=>Constant_bool ⟨.bl b,H,I,rfl,h⟩
theorem Dh{j pos}:PE X (.Constant .none j pos) (tC .non):=λ_ _ _ H _ I h=>Constant_none ⟨.non,H,I,rfl,h⟩
theorem lS{x j pos}:PE X (.Constant (.str x) j pos) (tC (.str x)):=λ_ _ _ H _ I h=>Calls.Constant_str ⟨.str x,H,I.tok _,⟨_,rfl⟩,h⟩
def Gl(X:Cx)(x:Str):Prop:=X.env.kindOf x=some .globalImplicit
theorem PC(I:Inv X pins σ H s)(hg:Gl X x)(hm:X.mg x=some u)(h:Q u s)
 (hd:(x==("__debug__" :Str))=false):zC (zH X.prog X.w) X.A (eval (.Name x pos) X.env) Q E s:=
 Xo I.ok.kind hg (Calls.loadGlobal_global (by rw[I.ok.glob];exact I.mod.glob.keeps I.bk) hm h) hd
theorem B6(I:Inv X pins σ H s)(hg:Gl X x)(hm:X.mg x=none)(hv:zV x=some u)(h:Q u s)
 (hn:x≠ "__name__":=by decide) (hd:(x==("__debug__" :Str))=false:=by decide):zC (zH X.prog X.w) X.A (eval (.Name x pos) X.env) Q E s:=by
 obtain⟨mb,h1,h2⟩:=I.mod.blt
 exact Xo I.ok.kind hg (Calls.loadGlobal_builtin (by rw[I.ok.glob];exact I.mod.glob.keeps I.bk) hm (by rw[I.ok.blt];exact h1.keeps I.bk) ((h2 x hn).trans hv) h) hd
theorem uX(hg:Gl X x)(hm:X.mg x=none)(hv:zV x=some u)(r:K4 v u)(hn:x≠ "__name__")(hd:(x==("__debug__" :Str))=false):PE X (.Name x pos) (tC v):=
 λ_ _ _ H _ I h=>B6 I hg hm hv ⟨v,H,I,r,h⟩ hn hd
variable{a b:Expr}{ta tb:TE}{pos:Pos}
variable{tA tB':TT}{T6:List Expr}
def Lj(t u:TT):TT:=λσ H Q=>t σ H λc H1=>if c=true then u σ H1 Q else Q false H1
def tOr(t u:TT):TT:=λσ H Q=>t σ H λc H1=>if c=true then Q true H1 else u σ H1 Q
def Vc(t:TT):TT:=λσ H Q=>t σ H λc H1=>Q (!c) H1
theorem MY(ha:PT X a tA):PW X (.BoolOp .And [a] pos) tA:=by
 intro wh pins s σ H Q I h
 refine isTrue_and (thn (ha pins s σ H Q I h) λc s1 e=>?_)
 cases c with
 |true=>exact isTrue_and_nil e
 |false=>exact e
theorem Pk(ha:PT X a tA):PW X (.BoolOp .Or [a] pos) tA:=by
 intro wh pins s σ H Q I h
 refine isTrue_or (thn (ha pins s σ H Q I h) λc s1 e=>?_)
 cases c with
 |false=>exact isTrue_or_nil e
 |true=>exact e
theorem Kv(ha:PT X a tA)(hb:PW X (.BoolOp .And (b::T6) pos) tB'):PW X (.BoolOp .And (a::b::T6) pos) (Lj tA tB'):=by
 intro wh pins s σ H Q I h
 refine isTrue_and (thn (ha pins s σ H _ I h) λc s1 hE1=>hE1.elim λH1 I1 q1=>?_)
 cases c with
 |true=>exact hb wh pins s1 σ H1 Q I1 q1
 |false=>exact⟨H1,I1,q1⟩
theorem Qd(ha:PT X a tA)(hb:PW X (.BoolOp .Or (b::T6) pos) tB'):PW X (.BoolOp .Or (a::b::T6) pos) (tOr tA tB'):=by
 intro wh pins s σ H Q I h
 refine isTrue_or (thn (ha pins s σ H _ I h) λc s1 hE1=>hE1.elim λH1 I1 q1=>?_)
 cases c with
 |true=>exact⟨H1,I1,q1⟩
 |false=>exact hb wh pins s1 σ H1 Q I1 q1
theorem pS(ha:PT X a tA):PT X (.UnaryOp .Not a pos) (Vc tA):=by
 intro pins s σ H Q I h
 exact isTrue_not (ha pins s σ H (λc H1=>Q (!c) H1) I h)
def Tq(ta:TE):TE:=λσ H Q=>ta σ H λx H1=>∃c,x= .bl c/\Q (.bl (!c)) H1
theorem KR{op}(h:PE X a t):PE X (.BoolOp op [a] pos) t:=λpins s σ H Q I hw=>BoolOp_one (h pins s σ H Q I hw)
theorem dZ(ha:PE X a ta):PE X (.UnaryOp .Not a pos) (Tq ta):=by
 intro pins s σ H Q I h
 refine UnaryOp_ (thn (ha pins s σ H _ I h) λv s1 hE1=>hE1.elim λx H1 I1 r1 q1=>?_)
 obtain⟨c,rfl,q1⟩:=q1
 cases r1
 exact not_of (jY ⟨.bl (!c),H1,I1,rfl,q1⟩)
def tIf(t:TT)(ta tb:TE):TE:=λσ H Q=>t σ H λc H1=>if c=true then ta σ H1 Q else tb σ H1 Q
theorem dO5(hc:PT X c tA)(ha:PE X a ta)(hb:PE X b tb):PE X (.IfExp c a b pos) (tIf tA ta tb):=by
 intro pins s σ H Q I h
 refine wpAny_IfExp (thn (hc pins s σ H _ I h) λd s1 hE1=>hE1.elim λH1 I1 q1=>?_)
 cases d with
 |true=>exact ha pins s1 σ H1 Q I1 q1
 |false=>exact hb pins s1 σ H1 Q I1 q1
end
def SqL(K:zh)(H:Hp)(a:Addr)(xs:List V):Prop:=
 Rd H a (.lst xs)\/
  ∃(o:Obj) (its:Array zj) (n:Nat),K.lookup a=some o/\o.cls= .type "list"/\o.dict=none/\o.data= .seq its n/\its.size<=zg/\J1 xs its.toList
def SqT(K:zh)(H:Hp)(a:Addr)(xs:List V):Prop:=
 Rd H a (.tup xs)\/
  ∃(o:Obj) (its:Array zj) (n:Nat),K.lookup a=some o/\o.cls= .type "tuple"/\(o.data,o.dict)= (Data.seq its n,none)/\its.size<=zg/\J1 xs its.toList
def kg:zj->Option V
 | .none=>some .non
 | .bool b=>some (.bl b)
 | .int i _=>some (.int i)
 | .str x _=>some (.str x)
 | .bytes b _=>some (.byt b)
 | .float b _=>some (.flt b)
 | .ref a=>some (.ref a)
 | .type n=>some (.ty n)
 |_=>none
theorem K4.abs(r:K4 x u):kg u=some x:=by
 cases x with
 |non=>cases r;rfl
 |bl _=>cases r;rfl
 |int _=>obtain⟨t,rfl⟩:=r;rfl
 |str _=>obtain⟨t,rfl⟩:=r;rfl
 |byt _=>obtain⟨t,rfl⟩:=r;rfl
 |flt _=>obtain⟨t,rfl⟩:=r;rfl
 |ref _=>cases r;rfl
 |ty _=>cases r;rfl
theorem K4.inj(r:K4 x u)(q:K4 y u):x=y:=jl (r.abs.symm.trans q.abs)
theorem J1.inj(h:J1 xs us)(k:J1 ys us):xs=ys:=by
 induction h generalizing ys with
 |nil=>cases k;rfl
 |cons r t ih=>cases k with
   |cons r' t'=>rw[r.inj r',ih t']
section
theorem SqL.of{K:zh}(h:H a=some (.lst xs)):SqL K H a xs:=.inl (.inl h)
theorem SqT.of{K:zh}(h:H a=some (.tup xs)):SqT K H a xs:=.inl (.inl h)
theorem Inv.list(I:Inv X pins σ H s)(h:SqL X.K H a xs):∃its:List zj,J1 xs its/\PlainL s.heap a its.toArray/\xs.length<=zg:=by
 rcases h with h|⟨o,its,n,hk,hc,hd,hs,hz,r⟩
 · obtain⟨z,its,n,r,e⟩:=h.ok I.hok
   exact⟨its,r,⟨_,n,e,rfl,rfl,rfl⟩,z⟩
 · refine⟨its.toList,r,⟨o,n,I.kIn a o hk,hc,hd,by simpa using hs⟩,?_⟩
   have e:=r.length
   simp only[jW]at e
   lia
theorem Inv.tuple(I:Inv X pins σ H s)(h:SqT X.K H a xs):∃its:List zj,J1 xs its/\Yk s.heap a its.toArray/\xs.length<=zg:=by
 rcases h with h|⟨o,its,n,hk,hc,hs,hz,r⟩
 · obtain⟨z,its,r,p⟩:=h.ok I.hok
   exact⟨its,r,E3.tup p,z⟩
 · refine⟨its.toList,r,⟨o,I.kIn a o hk,hc,n,by simpa using (yV hs).1⟩,?_⟩
   have e:=r.length
   simp only[jW]at e
   lia
theorem Inv.list_inj(I:Inv X pins σ H s)(h:SqL X.K H a xs)(h':SqL X.K H a ys):xs=ys:=by
 obtain⟨its,r,⟨o,n,e,_,_,d⟩,_⟩:=I.list h
 obtain⟨its',r',⟨o',n',e',_,_,d'⟩,_⟩:=I.list h'
 rw[e]at e';cases e'
 rw[d]at d'
 injection d' with d1 _
 have:its=its':=by simpa using congrArg Array.toList d1
 subst this
 exact r.inj r'
theorem Inv.tuple_inj(I:Inv X pins σ H s)(h:SqT X.K H a xs)(h':SqT X.K H a ys):xs=ys:=by
 obtain⟨its,r,⟨o,e,_,n,d⟩,_⟩:=I.tuple h
 obtain⟨its',r',⟨o',e',_,n',d'⟩,_⟩:=I.tuple h'
 rw[e]at e';cases e'
 rw[d]at d'
 injection d' with d1 _
 have:its=its':=by simpa using congrArg Array.toList d1
 subst this
 exact r.inj r'
end
abbrev Cx.wish(X:Cx)(E:VSP):Cx:={X with xe:=E}
abbrev Cx.nox(X:Cx):Cx:=X.wish λ_ _=>False
theorem Cx.Ok.wish{X:Cx}(ok:X.Ok)(E:VSP):(X.wish E).Ok:=
 ⟨ok.mod,ok.kind,ok.glob,ok.blt,ok.above,ok.inj,ok.has,ok.cab,ok.hd,ok.frames,ok.stk,ok.exf,ok.bs,ok.bsz,ok.noex,ok.exfs,ok.funs,ok.frf,ok.gd⟩
theorem Cx.Ok.unwish{X:Cx}(ok:(X.wish E).Ok):X.Ok:=
 ⟨ok.mod,ok.kind,ok.glob,ok.blt,ok.above,ok.inj,ok.has,ok.cab,ok.hd,ok.frames,ok.stk,ok.exf,ok.bs,ok.bsz,ok.noex,ok.exfs,ok.funs,ok.frf,ok.gd⟩
section
theorem Inv.wish(I:Inv X pins σ H s)(E:VSP):Inv (X.wish E) pins σ H s:=⟨I.ok.wish E,I.os,I.bare,I.base,I.loc,I.cell,I.free,I.freeC,I.pin,I.hok,I.len⟩
theorem Inv.unwish(I:Inv (X.wish E) pins σ H s):Inv X pins σ H s:=⟨I.ok.unwish,I.os,I.bare,I.base,I.loc,I.cell,I.free,I.freeC,I.pin,I.hok,I.len⟩
theorem SP.unwish(h:SP (X.wish E) pins D f s'):SP X pins D f s':=by
 cases f with
 |next=>obtain⟨X2,H',I,q⟩:=h;exact⟨X2,H',I.unwish,q⟩
 |brk=>obtain⟨X2,H',I,q⟩:=h;exact⟨X2,H',I.unwish,q⟩
 |cont=>obtain⟨X2,H',I,q⟩:=h;exact⟨X2,H',I.unwish,q⟩
 |ret u=>obtain⟨v,X2,H',I,r,q⟩:=h;exact⟨v,X2,H',I.unwish,r,q⟩
theorem PSs.nox{st:List Stmt}(h:PSs X.nox st t):PSs X st t:=λpins s σ H D I hw=>
 jE (h pins s σ H D (I.wish _) hw) (λ_ _ q=>q.unwish) λ_ _ z=>yL z
end
section
variable{X:Cx}{st:Stmt}{T6:List Stmt}{t u:TS}
def bX:TS:=λD σ H=>D.nx σ H
def lX(t u:TS):TS:=λD σ H=>t {D with nx:=u D} σ H
theorem eI4:PSs X [] bX:=λ_ _ σ H _ I h=>Yg ⟨σ,H,I,h⟩
theorem Bw(h1:PS X st t)(h2:PSs X T6 u):PSs X (st::T6) (lX t u):=by
 intro pins s σ H D I h
 refine wpAny_execs_cons (thn (h1 pins s σ H {D with nx:=u D} I h) λf s1 q=>?_)
 cases f with
 |next=>
   obtain⟨X2,H',I',q⟩:=q
   exact h2 pins s1 X2 H' D I' q
 |ret v=>exact q
 |brk=>exact q
 |cont=>exact q
theorem eT(h1:PS X st t):PSs X [st] t:=by
 intro pins s σ H D I h
 refine wpAny_execs_cons (thn (h1 pins s σ H D I h) λf s1 q=>?_)
 cases f with
 |next=>exact Yg q
 |ret v=>exact q
 |brk=>exact q
 |cont=>exact q
theorem Inv.quiet(I:Inv X pins σ H s):interactive X.env=false:=by simp[interactive,I.ok.kind]
def VS(te:TE):TS:=λD σ H=>te σ H λ_ H1=>D.nx σ H1
theorem dZ6(he:PE X e te)(hs:JY e none pos.line X.env=pure false):PS X (.Expr e pos) (VS te):=by
 intro pins s σ H D I h
 exact wpAny_Expr_any (thn (he pins s σ H _ I h) λv s1 hE1=>hE1.elim λx H1 I1 r1 q1=>⟨σ,H1,I1,q1⟩) I.quiet hs
def uU(te:TE):TS:=λD σ H=>te σ H D.rt
theorem rV(he:PE X e te):PS X (.Return (some e) pos) (uU te):=by
 intro pins s σ H D I h
 exact wpAny_Return_some (thn (he pins s σ H _ I h) λv s1 hE1=>hE1.elim λx H1 I1 r1 q1=>⟨x,σ,H1,I1,r1,q1⟩)
def fL8(c:TT)(t u:TS):TS:=λD σ H=>c σ H λb H1=>if b=true then t D σ H1 else u D σ H1
theorem Pg{tc:TT}(hc:PT X c tc)(ha:PSs X a t)(hb:PSs X b u):PS X (.If c a b pos) (fL8 tc t u):=by
 intro pins s σ H D I h
 refine wpAny_If (thn (hc pins s σ H _ I h) λd s1 hE1=>hE1.elim λH1 I1 q1=>?_)
 cases d with
 |true=>exact ha pins s1 σ H1 D I1 q1
 |false=>exact hb pins s1 σ H1 D I1 q1
end
abbrev TG:=V->St->Hp->(St->Hp->Prop)->Prop
abbrev TGs:=List V->St->Hp->(St->Hp->Prop)->Prop
def PG(X:Cx)(target:Expr)(t:TG):Prop:=
 ∀(pins:PNS) (s:zv) (σ:St) (H:Hp) (v:V) (u:zj) (Q:St->Hp->Prop),Inv X pins σ H s->K4 v u->t v σ H Q->
  zC (zH X.prog X.w) X.A (ZW target X.env u) (λ_ s'=>∃ X2 H',Inv X pins X2 H' s'/\Q X2 H') X.xe s
def PGs(X:Cx)(ts:List Expr)(t:TGs):Prop:=
 ∀(pins:PNS) (s:zv) (σ:St) (H:Hp) (vs:List V) (us:List zj) (Q:St->Hp->Prop),Inv X pins σ H s->J1 vs us->t vs σ H Q->
  zC (zH X.prog X.w) X.A (assignInOrder ((yT ts X.env).map (·.2)) us) (λ_ s'=>∃ X2 H',Inv X pins X2 H' s'/\Q X2 H') X.xe s
abbrev TSet:=V->V->V->Hp->(Hp->Prop)->Prop
def iJ(X:Cx)(t:TSet):Prop:=
 ∀(pins:PNS) (s:zv) (σ:St) (H:Hp) (o i v:V) (ov iv u:zj) (Q:Hp->Prop),Inv X pins σ H s->K4 o ov->K4 i iv->K4 v u->t o i v H Q->
  zC (zH X.prog X.w) X.A (setItem ov iv u) (λ_ s'=>∃H',Inv X pins σ H' s'/\Q H') X.xe s
section
def tW(i:Nat):TG:=λv σ H Q=>Q (σ.set i (some v)) H
theorem kY(hN:X.N.Nodup)(hi:X.N[i]? =some x)(hx:Loc X.env.scope x)(hf:X.fn x=true\/X.env.scope.names.lookup x=some .local):PG X (.Name x pos) (tW i):=by
 intro pins s σ H v u Q I r h
 exact wpAny_assign_Name (Sf I hN hi hx r (λs' I'=>⟨_,H,I',h⟩) hf)
def qZ:TGs:=λvs σ H Q=>vs= []/\Q σ H
def Lq(t:TG)(u:TGs):TGs:=λvs σ H Q=>∃v r,vs=v::r/\t v σ H λX2 H'=>u r X2 H' Q
theorem vd:PGs X [] qZ:=by
 intro pins s σ H vs us Q I r h
 obtain⟨e,h⟩:=h
 subst e
 cases r
 exact assignInOrder_nil ⟨σ,H,I,h⟩
theorem wz(h1:PG X e t)(h2:PGs X es u)
 (hs:(yT (e::es) X.env).map (·.2)=ZW e X.env::(yT es X.env).map (·.2)):PGs X (e::es) (Lq t u):=by
 intro pins s σ H vs us Q I r h
 obtain⟨v,vr,e1,h⟩:=h
 subst e1
 cases r with
 |cons r rr=>
   rw[hs]
   refine assignInOrder_cons (thn (h1 pins s σ H _ _ _ I r h) λ_ s1 ⟨WY,H1,I1,q1⟩=>?_)
   exact h2 pins s1 WY H1 _ _ Q I1 rr q1
def Qp(K:zh)(n:Nat)(t:TGs):TG:=λv σ H Q=>∃a xs,v= .ref a/\SqT K H a xs/\xs.length=n/\t xs σ H Q
theorem CY(hc:X.calm=true)(h:PGs X es t)
 (hn:(yT es X.env).length=n) (hst:(yT es X.env).findIdx? (·.1)=none):PG X (.Tuple es k pos) (Qp X.K n t):=by
 intro pins s σ H v u Q I r hw
 obtain⟨a,xs,e1,hq,hl,hw⟩:=hw
 subst e1
 cases r
 obtain⟨its,rv,ht,hz⟩:=I.tuple hq
 refine assign_Tuple_tuple (I.ok.hd hc) ht (by simp[hn,<-hl,rv.length]) hst λh' hx=>?_
 have I1:Inv X pins σ H {s with heap:=h'}:=I.kept (t':=s.toks) λb o e=>hx b o (zF (zu e)) e
 exact h pins _ σ H xs _ Q I1 (by simpa using rv) hw
def UV(to ti:TE)(t:TSet):TG:=λv σ H Q=>to σ H λo H1=>ti σ H1 λi H2=>t o i v H2 λH3=>Q σ H3
theorem Fh(ho:PE X o to)(hi:PE X i ti)(hs:iJ X t)
 (ha:∀v,ZW (.Subscript o i pos) X.env v= (do
   let ov <-YC [v] (eval o X.env)
   let iv <-YC [v,ov] (eval i X.env)
   Jh pos
   YC [v,ov,iv] (setItem ov iv v)
   release [v,ov,iv] [])):PG X (.Subscript o i pos) (UV to ti t):=by
 intro pins s σ H v u Q I r h
 rw[ha]
 refine za (ju (thn (ho pins s σ H _ I h) λov s1 ⟨x,H1,I1,r1,q1⟩=>?_))
 refine za (ju (thn (hi pins s1 σ H1 _ I1 q1) λiv s2 ⟨y,H2,I2,r2,q2⟩=>?_))
 refine za (ZC (za (ju (thn (hs pins s2 σ H2 x y v ov iv u _ I2 r1 r2 r q2) λ_ s3 ⟨H3,I3,q3⟩=>?_))))
 exact wpAny_release ⟨σ,H3,I3,q3⟩
def Tp(te:TE)(g:TG):TS:=λD σ H=>te σ H λx H1=>g x σ H1 D.nx
theorem VY{g:TG}(he:PE X e te)(hg:PG X tg g)(hs:swapsWithSole [tg] e pos.line X.env=pure false)(hw:swappedStores [tg] e X.env=pure none)
 (h1:(yT [tg] X.env).map (·.2)= [ZW tg X.env]):PS X (.Assign [tg] e pos) (Tp te g):=by
 intro pins s σ H D I h
 refine wpAny_Assign_stores (thn (he pins s σ H _ I h) λv s1 hE1=>hE1.elim λx H1 I1 r1 q1=>?_) hs hw
 rw[h1]
 exact thn (hg pins s1 σ H1 x v _ I1 r1 q1) λ_ s2 q=>q
end
section
def RX(c:TT)(tb:TS):TS:=λD σ H=>∃W:Nat->St->Hp->Prop,(∃m,W m σ H)/\∀m σ H,W m σ H->
 c σ H λb H1=>if b=true then ∃N:St->Hp->Prop,(∀ X2 H',N X2 H'->∃m',m'<m/\W m' X2 H')/\tb {D with nx:=N,ct:=N,bk:=D.nx} σ H1 else D.nx σ H1
theorem UX{tc:TT}{tb:TS}(hp:PassesOwn (zH X.prog X.w) X.A X.env X.xe)(hc:PT X c tc)(hb:PSs X body tb):PS X (.While c body [] pos) (RX tc tb):=by
 intro pins s σ H D I h
 obtain⟨W,⟨m0,w0⟩,turn⟩:=h
 refine wpAny_While (codeAny_whileLoop (λn s'=>∃ X2 H',Inv X pins X2 H' s'/\W n X2 H') ?_ m0 ⟨σ,H,I,w0⟩)
 rintro n s1 ⟨WY,H1,I1,w1⟩
 refine wpAny_passesOwn hp (thn (hc pins s1 WY H1 _ I1 (turn n WY H1 w1)) λb s2 hE1=>hE1.elim λH2 I2 q2=>?_)
 cases b with
 |true=>
   obtain⟨N,hN,q2⟩:=q2
   rw[if_pos rfl]
   refine wpAny_passesOwn hp (thn (hb pins s2 WY H2 _ I2 q2) λf s3 q3=>?_)
   cases f with
   |next=>
     obtain⟨WR,H3,I3,n3⟩:=q3
     obtain⟨m',hm,w3⟩:=hN WR H3 n3
     exact⟨m',hm,WR,H3,I3,w3⟩
   |cont=>
     obtain⟨WR,H3,I3,n3⟩:=q3
     obtain⟨m',hm,w3⟩:=hN WR H3 n3
     exact⟨m',hm,WR,H3,I3,w3⟩
   |brk=>exact q3
   |ret v=>exact q3
 |false=>
   rw[if_neg ja]
   exact Yg ⟨WY,H2,I2,q2⟩
end
structure It where
 go:Nat->Hp->Prop
 yld:Nat->Hp->V->Hp->Prop
 stop:Nat->Hp->Prop
def D0(X:Cx)(pins:PNS)(H:Hp)(b:Addr):Prop:=
 H b=none/\b≠X.env.locals/\b∉X.fs/\(b∈X.ex\/X.WX.heap.objs.size<=b)/\(∀x c,X.env.cells.lookup x=some c->c≠b)/\∀p∈X.pn++pins,p.1≠b
theorem Inv.fpOk(I:Inv X pins σ H s)(hb:s.heap.objs.size<=b)(hn:H' b=none):D0 X pins H' b:=by
 refine⟨hn,xf (ji I.lt hb),I.nofs hb,.inr (zI I.sz hb),λx c e z=>?_,λp hp z=>?_⟩
 · obtain⟨v,q⟩:=I.cell x c e
   exact absurd (ji q.lt (by rw[z];exact hb)) (yc _)
 ·exact absurd (ji (zu (I.pin p hp).1) (by rw[z];exact hb)) (yc _)
inductive TIt(X:Cx)(pins:PNS)(σ:St)(J:It)(fp:List Addr)(tn:Nat->Heap->Prop)(i:Nat)(H:Hp)(u:zj)(s2:zv):Prop
 |mk (x:V) (H':Hp) (I:Inv X pins σ H' s2) (r:K4 x u) (y:J.yld i H x H') (st:tn (i+1) s2.heap) (fr:∀b∈fp,H' b=none)
structure L6(P:zW)(w:jk)(K:zh)(tg:Expr)(J:It)(fp:List Addr)(it:Addr)(tn:Nat->Heap->Prop):Prop where
 mem:it∈fp
 obj:∀i h,tn i h->∀b∈fp,∃o,h.get? b=some o/\∀v,o.data≠ .cell v
 keep:∀i h h',tn i h->(∀b∈fp,∀o,h.get? b=some o->h'.get? b=some o)->tn i h'
 item:∀(X:Cx),X.prog=P->X.w=w->X.K=K->X.calm=true->∀(i:Nat) (pins:PNS) (s:zv) (σ:St) (H:Hp) (E:VSP),Inv X pins σ H s->(∀b∈fp,D0 X pins H b)->tn i s.heap->J.go i H->
  zC (zH P w) X.A (ZV (.ref it)) (λr s1=>∃u,r=some u/\
   zC (zH P w) X.A (xp tg (.ref it) u) (λ_ s2=>TIt X pins σ J fp tn i H u s2) E s1) E s
 done:∀(X:Cx),X.prog=P->X.w=w->X.K=K->X.calm=true->∀(i:Nat) (pins:PNS) (s:zv) (σ:St) (H:Hp) (E:VSP),Inv X pins σ H s->(∀b∈fp,D0 X pins H b)->tn i s.heap->J.stop i H->
  zC (zH P w) X.A (ZV (.ref it)) (λr s1=>r=none/\Inv X pins σ H s1) E s
 self:∀(A:jA) (i:Nat) (s:zv) (Q:VSP) (E:VSP),tn i s.heap->Q (.ref it) s->zC (zH P w) A (pyIter (.ref it)) Q E s
abbrev TI:=St->Hp->(It->Hp->Prop)->Prop
inductive PIE(X:Cx)(pins:PNS)(σ:St)(tg:Expr)(R:It->Hp->Prop)(itv:zj)(s2:zv):Prop
 |mk (it:Addr) (fp:List Addr) (tn:Nat->Heap->Prop) (J:It) (H':Hp) (e:itv= .ref it) (I:Inv X pins σ H' s2) (T:L6 X.prog X.w X.K tg J fp it tn) (st:tn 0 s2.heap) (f:∀b∈fp,D0 X pins H' b) (r:R J H')
def PI(X:Cx)(tg iter:Expr)(wi:TI):Prop:=
 ∀(pins:PNS) (s:zv) (σ:St) (H:Hp) (R:It->Hp->Prop),Inv X pins σ H s->wi σ H R->
  zC (zH X.prog X.w) X.A (eval iter X.env) (λv s1=>zC (zH X.prog X.w) X.A (pyIter v) (PIE X pins σ tg R) X.xe s1) X.xe s
theorem VB(ho:s.heap.get? it=some o)(hc:o.cls= .type n)(hd:o.data= .fields vs)
 (hn: ["enumerate", "zip", "dict_itemiterator", "dict_reverseitemiterator", "odict_iterator", "itertools.zip_longest", "itertools.pairwise"].contains n=false) (hQ:Q () s):zC M A (xp tg (.ref it) u) Q E s:=by
 unfold xp
 cases tg<;>first
  |exact zq hQ
  | (cases u <;> first
      |exact zq hQ
      | (refine za (wpAny_load ho ?_)
         rw[hc,hd]
         show zC M A (if (["enumerate", "zip", "dict_itemiterator", "dict_reverseitemiterator", "odict_iterator", "itertools.zip_longest", "itertools.pairwise"].contains n&&vs[0]? == some (Xc _))=true then _ else _) Q E s
         rw[if_neg (by intro h;rw[hn,Bool.false_and]at h;cases h)]
         exact zq hQ))
def Itl(K:zh)(a:Addr):It:=
 ⟨λi H=>∃xs x,SqL K H a xs/\xs[i]? =some x,λi H x H'=>H'=H/\∀xs,SqL K H a xs->xs[i]? =some x,λi H=>∃xs,SqL K H a xs/\xs.length<=i⟩
def Itt(K:zh)(a:Addr):It:=
 ⟨λi H=>∃xs x,SqT K H a xs/\xs[i]? =some x,λi H x H'=>H'=H/\∀xs,SqT K H a xs->xs[i]? =some x,λi H=>∃xs,SqT K H a xs/\xs.length<=i⟩
def Itr(lo:Int)(n:Nat):It:=⟨λi _=>i<n,λi H x H'=>H'=H/\x= .int (lo+i),λi _=>n<=i⟩
theorem ES{w:jk}{K:zh}{tg:Expr}(a it:Addr):L6 P w K tg (Itl K a) [it] it (λi h=>h.IsListIter it a i) where
 mem:=by simp
 obj:=λi h st b hb=>by
  have e:b=it:=by simpa using hb
  subst e
  obtain⟨o,e,c,d⟩:=st
  exact⟨o,e,λv z=>by rw[d]at z;cases z⟩
 keep:=λi h h' st k=>st.at λo e=>k it (by simp) o e
 item:=by
  intro X hP hw hK hc i pins s σ H E I hf st hg
  subst hP hw hK
  obtain⟨xs,x,hq,hx⟩:=hg
  obtain⟨its,rv,p,hz⟩:=I.list hq
  obtain⟨u,hu,ru⟩:=rv.get hx
  obtain⟨f0,f1,f2,f3,f4,f5⟩:=hf it (by simp)
  refine wpAny_pyNext_list_item st p.isList (x:=u) (by simpa using hu) λh' st' sb=>?_
  have I1:Inv X pins σ H {s with heap:=h'}:=I.turned (t':=s.toks) (λb o hb e=>(sb.2 b hb).trans e) f0 f1 f3 f4 f5
  obtain⟨o,e,c,d⟩:=id st'
  exact⟨u,rfl,VB (s:={s with heap:=h'}) e c d (by decide) ⟨x,H,I1,ru,⟨rfl,λys hy=>by rw[I.list_inj hy hq];exact hx⟩,st',λb hb=>(hf b hb).1⟩⟩
 done:=by
  intro X hP hw hK hc i pins s σ H E I hf st hg
  subst hP hw hK
  obtain⟨xs,hq,hx⟩:=hg
  obtain⟨its,rv,p,hz⟩:=I.list hq
  obtain⟨f0,f1,f2,f3,f4,f5⟩:=hf it (by simp)
  have hl:=rv.length
  exact wpAny_pyNext_list_end (I.ok.hd hc) st p.isList (by simp;lia) λh' eb=>⟨rfl,I.turned (t':=s.toks) (λb o hb e=>eb b o hb e) f0 f1 f3 f4 f5⟩
 self:=λ_ _ _ _ _ st h=>wpAny_pyIter_listiter st h
theorem oZ{w:jk}{K:zh}{tg:Expr}(a it:Addr):L6 P w K tg (Itt K a) [it] it (λi h=>h.IsTupleIter it a i) where
 mem:=by simp
 obj:=λi h st b hb=>by
  have e:b=it:=by simpa using hb
  subst e
  obtain⟨o,e,c,d⟩:=st
  exact⟨o,e,λv z=>by rw[d]at z;cases z⟩
 keep:=λi h h' st k=>st.at λo e=>k it (by simp) o e
 item:=by
  intro X hP hw hK hc i pins s σ H E I hf st hg
  subst hP hw hK
  obtain⟨xs,x,hq,hx⟩:=hg
  obtain⟨its,rv,p,hz⟩:=I.tuple hq
  obtain⟨u,hu,ru⟩:=rv.get hx
  obtain⟨f0,f1,f2,f3,f4,f5⟩:=hf it (by simp)
  refine wpAny_pyNext_tuple_item st (show s.heap.IsTuple a its.toArray from p) (x:=u) (by simpa using hu) λh' st' sb=>?_
  have I1:Inv X pins σ H {s with heap:=h'}:=I.turned (t':=s.toks) (λb o hb e=>(sb.2 b hb).trans e) f0 f1 f3 f4 f5
  obtain⟨o,e,c,d⟩:=id st'
  exact⟨u,rfl,VB (s:={s with heap:=h'}) e c d (by decide) ⟨x,H,I1,ru,⟨rfl,λys hy=>by rw[I.tuple_inj hy hq];exact hx⟩,st',λb hb=>(hf b hb).1⟩⟩
 done:=by
  intro X hP hw hK hc i pins s σ H E I hf st hg
  subst hP hw hK
  obtain⟨xs,hq,hx⟩:=hg
  obtain⟨its,rv,p,hz⟩:=I.tuple hq
  obtain⟨f0,f1,f2,f3,f4,f5⟩:=hf it (by simp)
  have hl:=rv.length
  exact wpAny_pyNext_tuple_end (I.ok.hd hc) st (show s.heap.IsTuple a its.toArray from p) (by simp;lia) λh' eb=>⟨rfl,I.turned (t':=s.toks) (λb o hb e=>eb b o hb e) f0 f1 f3 f4 f5⟩
 self:=λ_ _ _ _ _ st h=>wpAny_pyIter_tupleiter st h
theorem wv{w:jk}{K:zh}{tg:Expr}(it:Addr)(lo:Int)(n:Nat):L6 P w K tg (Itr lo n) [it] it (λi h=>IsRangeIter h it (lo+(i:Nat)*1) ((n:Int)-(i:Nat)) 1) where
 mem:=by simp
 obj:=λi h st b hb=>by
  have e:b=it:=by simpa using hb
  subst e
  exact⟨_,st,λv z=>by
   have z':Data.fields _=Data.cell v:=z
   cases z'⟩
 keep:=λi h h' st k=>k it (by simp) _ st
 item:=by
  intro X hP hw hK hc i pins s σ H E I hf st hg
  subst hP hw hK
  obtain⟨f0,f1,f2,f3,f4,f5⟩:=hf it (by simp)
  have W:=Walks.range (prog:=X.prog) (w:=X.w) (I.ok.hd hc) it lo 1 n
  refine W.item i s _ _ hg st λv h' tk hv st' kk=>?_
  obtain⟨t,rfl⟩:=hv
  have I1:Inv X pins σ H {s with heap:=h',toks:=tk}:=I.turned (λb o hb e=>kk b o (by simpa using hb) e) f0 f1 f3 f4 f5
  refine⟨_,rfl,VB (s:={s with heap:=h',toks:=tk}) (n:= "range_iterator") st' rfl rfl (by decide) ⟨.int (lo+i),H,I1,⟨t,?_⟩,⟨rfl,rfl⟩,st',λb hb=>(hf b hb).1⟩⟩
  rw[Int.mul_one]
 done:=by
  intro X hP hw hK hc i pins s σ H E I hf st hg
  subst hP hw hK
  obtain⟨f0,f1,f2,f3,f4,f5⟩:=hf it (by simp)
  exact wpAny_pyNext_range_end (I.ok.hd hc) st (by have:n<=i:=hg;lia) λh' eb=>⟨rfl,I.turned (t':=s.toks) (λb o hb e=>eb b o hb e) f0 f1 f3 f4 f5⟩
 self:=λ_ _ _ _ _ st h=>wpAny_pyIter_rangeiter st h
section
theorem vU{σ:St}{H:Hp}{s:zv}{R:It->Hp->Prop}{lo hi:Int}{t u v:Tok}{tk:Nat}(I:Inv X pins σ H s)(h1: -(2 ^ 62)<=lo)(h2:lo<2 ^ 62)(h3: -(2 ^ 62)<=hi)(h4:hi<2 ^ 62)
 (q:R (Itr lo (hi-lo).toNat) H):zC (zH X.prog X.w) X.A (pyIter (.ref s.heap.objs.size)) (PIE X pins σ tg R) E {s with heap:=s.heap.push {cls:=.type "range",data:=.fields #[.int lo t,.int hi u,.int 1 v]},toks:=tk}:=by
 refine wpAny_pyIter_range (IsRange.new ..) (small_one h1 h2 h3 h4) ?_
 have I1:Inv X pins σ H {s with heap:=s.heap.push {cls:=.type "range",data:=.fields #[.int lo t,.int hi u,.int 1 v]},toks:=tk}:=I.kept λb o e=>zd _ e
 refine⟨(s.heap.push {cls:=.type "range",data:=.fields #[.int lo t,.int hi u,.int 1 v]}).objs.size, [(s.heap.push {cls:=.type "range",data:=.fields #[.int lo t,.int hi u,.int 1 v]}).objs.size],_,_,H,rfl,
  I1.kept (t':=tk) λb o e=>zd _ e,wv _ lo (hi-lo).toNat,?_,λb hb=>?_,q⟩
 · have e1:lo+((0:Nat):Int)*1=lo:=by simp
   have e2:(((hi-lo).toNat:Nat):Int)-((0:Nat):Int)=Builtin.Range.rangeSize lo hi 1:=by rw[rangeSize_one];split<;>lia
   show IsRangeIter _ _ (lo+((0:Nat):Int)*1) ((((hi-lo).toNat:Nat):Int)-((0:Nat):Int)) 1
   rw[e1,e2]
   exact zw _ rfl
 · have e:b= (s.heap.push {cls:=.type "range",data:=.fields #[.int lo t,.int hi u,.int 1 v]}).objs.size:=by simpa using hb
   subst e
   exact I1.fpOk (zo _) (I1.hok.fresh (zo _))
def EX(ta:TA):TI:=λσ H R=>ta σ H λvs H1=>∃j:Int,vs= [.int j]/\ -(2 ^ 62)<=j/\j<2 ^ 62/\R (Itr 0 j.toNat) H1
theorem NY{ta:TA}(hg:Gl X "range")(hm:X.mg "range" =none)(ha:PA X [a] ta)(hs:zP [a] X.env= [(false,eval a X.env)]):PI X tg (.Call (.Name "range" p) [a] [] pos) (EX ta):=by
 intro pins s σ H R I h
 refine Call_ (B6 I hg hm boot_range (yd (thn (ha pos pins s σ H _ I h) λus s1 hE1=>hE1.elim λvs H1 I1 r1 q1=>?_) hs rfl))
 obtain⟨j,e,q1,q2,q⟩:=q1
 subst e
 cases r1 with
 |cons r rr=>
   cases rr
   obtain⟨t,rfl⟩:=r
   exact call_range_1 (vU I1 (by lia) (by lia) q1 q2 (by simpa using q))
def fK7(wi:TI)(g:TG)(tb:TS):TS:=λD σ H=>wi σ H λJ H1=>∃W:Nat->Nat->St->Hp->Prop,(∃m,W 0 m σ H1)/\∀i m σ H,W i m σ H->
 (J.stop i H/\D.nx σ H)\/(J.go i H/\∃N:St->Hp->Prop,(∀ X2 H',N X2 H'->∃m',m'<m/\W (i+1) m' X2 H')/\∀x H',J.yld i H x H'->g x σ H' λσ2 H2=>tb {D with nx:=N,ct:=N,bk:=D.nx} σ2 H2)
def UD(fp:List Addr)(h:Heap):PNS:=fp.filterMap λb=>(h.get? b).map λo=>(b,o)
theorem R4(hb:b∈fp)(e:h.get? b=some o):(b,o)∈UD fp h:=List.mem_filterMap.mpr ⟨b,hb,by rw[e];rfl⟩
theorem MT(hp:p∈UD fp h):p.1∈fp/\h.get? p.1=some p.2:=by
 obtain⟨b,hb,e⟩:=List.mem_filterMap.mp hp
 cases q:h.get? b with
 |none=>rw[q]at e;cases e
 |some o=>
   rw[q]at e
   have e':(b,o)=p:=jl e
   subst e'
   exact⟨hb,q⟩
theorem Inv.pinned(I:Inv X pins σ H s)(hf:∀b∈fp,D0 X pins H b)(ho:∀b∈fp,∃o,s.heap.get? b=some o/\∀v,o.data≠ .cell v):Inv X (pins++UD fp s.heap) σ H s:=
 I.pins_of λp hp=>(zJ.mp hp).elim (λz=>I.pin p (zE _ z)) λz=>by
  obtain⟨hb,e⟩:=MT z
  obtain⟨f0,f1,f2,_⟩:=hf p.1 hb
  obtain⟨o,e',d⟩:=ho p.1 hb
  rw[e]at e';cases e'
  exact⟨e,f0,f1,f2,d⟩
theorem Inv.unpinned(I:Inv X (pins++pl) σ H s):Inv X pins σ H s:=I.pins_of λp hp=>I.pin p (zE _ (jQ _ hp))
inductive iH(X:Cx)(pins:PNS)(fp:List Addr)(tn:Nat->Heap->Prop)(W:Nat->Nat->St->Hp->Prop)(n:Nat)(s':zv):Prop
 |mk (i:Nat) (X2:St) (H':Hp) (I:Inv X pins X2 H' s') (st:tn i s'.heap) (fr:∀b∈fp,H' b=none) (w:W i n X2 H')
theorem iR{body:List Stmt}{g:TG}{tb:TS}{pins:PNS}{D:eA}{it:Addr}{fp:List Addr}{tn:Nat->Heap->Prop}{J:It}(hp:∀e s,X.xe e s->EE e s)(hc:X.calm=true)(hg:PG X tg g)(hb:PSs X body tb)
 (T:L6 X.prog X.w X.K tg J fp it tn) (stat:∀ {H':Hp},(∀b∈fp,H' b=none)->∀b∈fp,D0 X pins H' b)
 (turn:∀i m σ H,W i m σ H->
 (J.stop i H/\D.nx σ H)\/(J.go i H/\∃N:St->Hp->Prop,(∀ X2 H',N X2 H'->∃m',m'<m/\W (i+1) m' X2 H')/\∀x H',J.yld i H x H'->g x σ H' λσ2 H2=>tb {D with nx:=N,ct:=N,bk:=D.nx} σ2 H2))
   {n:Nat} {s3:zv} (h3:iH X pins fp tn W n s3) {NX:zv->Prop} (nx:∀m s,m<n->iH X pins fp tn W m s->NX s):
   zC (zH X.prog X.w) X.A (ZV (.ref it)) (λr s1=>match r with
    |none=>zC (zH X.prog X.w) X.A (execs [] X.env) (λf s2=>SP X pins D f s2) EE s1
    | some v => zC (zH X.prog X.w) X.A (xp tg (.ref it) v) (λ_ s2 => zC (zH X.prog X.w) X.A (ZW tg X.env v) (λ_ s4 => zC (zH X.prog X.w) X.A (execs body X.env) (λf s5 => match f with
       | .next| .cont=>NX s5
       | .brk=>SP X pins D .next s5
       | .ret v=>SP X pins D (.ret v) s5) EE s4) EE s2) EE s1) EE s3:=by
 obtain⟨i,WR,H3,I3,st3,fr3,w3⟩:=h3
 rcases turn i n WR H3 w3 with⟨stop,qn⟩|⟨go,N,hN,step⟩
 · refine jE (T.done X rfl rfl rfl hc i pins s3 WR H3 X.xe I3 (stat fr3) st3 stop) (λr s4 z1=>?_) hp
   obtain⟨hr,I4⟩:=z1
   subst hr
   exact Yg ⟨WR,H3,I4,qn⟩
 · refine jE (T.item X rfl rfl rfl hc i pins s3 WR H3 X.xe I3 (stat fr3) st3 go) (λr s4 z2=>?_) hp
   obtain⟨u,hr,h4⟩:=z2
   subst hr
   refine jE h4 (λ_ s5 z3=>?_) hp
   obtain⟨x,H5,I5,r5,y5,st5,fr5⟩:=z3
   have I5':=I5.pinned (stat fr5) (T.obj _ _ st5)
   refine jE (hg _ s5 WR H5 x u _ I5' r5 (step x H5 y5)) (λ_ s6 z4=>?_) hp
   obtain⟨WQ,H6,I6,q6⟩:=z4
   refine jE (hb _ s6 WQ H6 _ I6 q6) (λf s7 q7=>?_) hp
   have again:∀ {WN:St} {H7:Hp},Inv X (pins++UD fp s5.heap) WN H7 s7->N WN H7->NX s7:=λ{WN H7} I7 n7=>by
    obtain⟨m',hm,w7⟩:=hN WN H7 n7
    refine nx m' _ hm ⟨i+1,WN,H7,I7.unpinned,T.keep _ _ _ st5 λb hb o e=>(I7.pin (b,o) (zE _ (zE _ (R4 hb e)))).1,λb hb=>?_,w7⟩
    obtain⟨o,e,d⟩:=T.obj _ _ st5 b hb
    exact(I7.pin (b,o) (zE _ (zE _ (R4 hb e)))).2.1
   cases f with
   |next=>obtain⟨WN,H7,I7,n7⟩:=q7;exact again I7 n7
   |cont=>obtain⟨WN,H7,I7,n7⟩:=q7;exact again I7 n7
   |brk=>obtain⟨WN,H7,I7,q7⟩:=q7;exact⟨WN,H7,I7.unpinned,q7⟩
   |ret v=>obtain⟨x7,WN,H7,I7,r7,q7⟩:=q7;exact⟨x7,WN,H7,I7.unpinned,r7,q7⟩
theorem Gw(hp:PassesOwn (zH X.prog X.w) X.A X.env X.xe)(hc:X.calm=true)(hi:PI X tg iter wi)(hg:PG X tg g)(hb:PSs X body tb)
 (hs:∀x,yG iter X.env x=pure x):PS X (.For tg iter body [] pos) (fK7 wi g tb):=by
 intro pins s σ H D I h
 refine wpAny_For (thn (hi pins s σ H _ I h) λv s1 h1=>thn h1 λitv s2 h2=>?_) hs
 obtain⟨it,fp,tn,J,H2,e,I2,T,st2,f2,W,⟨m0,w0⟩,turn⟩:=h2
 subst e
 -- what stays true of the iterator's objects through the loop
 have stat:∀ {H':Hp},(∀b∈fp,H' b=none)->∀b∈fp,D0 X pins H' b:=λhn b hb=>⟨hn b hb,(f2 b hb).2⟩
 exact codeAny_forLoop_any (iH X pins fp tn W) (λn s3 h3=>iR hp hc hg hb T stat turn h3 λm s h1 h2=>⟨m,h1,h2⟩) m0 ⟨0,σ,H2,I2,st2,λb hb=>(f2 b hb).1,w0⟩
end
abbrev R2:=V->V->Hp->VK->Prop
def OpR(X:Cx)(f:zj->zj->Sem zj)(r:R2):Prop:=
 ∀(pins:PNS) (s:zv) (σ:St) (H:Hp) (x y:V) (v u:zj) (Q:VK),Inv X pins σ H s->K4 x v->K4 y u->r x y H Q->
  zC (zH X.prog X.w) X.A (f v u) (EP X pins σ Q) X.xe s
def UnR(X:Cx)(f:zj->Sem zj)(r:V->Hp->VK->Prop):Prop:=
 ∀(pins:PNS) (s:zv) (σ:St) (H:Hp) (x:V) (v:zj) (Q:VK),Inv X pins σ H s->K4 x v->r x H Q->
  zC (zH X.prog X.w) X.A (f v) (EP X pins σ Q) X.xe s
def L1(X:Cx)(f:zj)(r:List V->Hp->VK->Prop):Prop:=
 ∀(pins:PNS) (s:zv) (σ:St) (H:Hp) (xs:List V) (us:List zj) (Q:VK),Inv X pins σ H s->J1 xs us->r xs H Q->
  zC (zH X.prog X.w) X.A (call f us) (EP X pins σ Q) X.xe s
def FZ(X:Cx)(r:V->Hp->(Bool->Hp->Prop)->Prop):Prop:=
 ∀(pins:PNS) (s:zv) (σ:St) (H:Hp) (x:V) (v:zj) (Q:Bool->Hp->Prop),Inv X pins σ H s->K4 x v->r x H Q->
  zC (zH X.prog X.w) X.A (truthy v) (TP X pins σ Q) X.xe s
def tOp(r:R2)(ta tb:TE):TE:=λσ H Q=>ta σ H λx H1=>tb σ H1 λy H2=>r x y H2 Q
def tUn(r:V->Hp->VK->Prop)(ta:TE):TE:=λσ H Q=>ta σ H λx H1=>r x H1 Q
def rI(C:Int->Int->Prop)(g:Int->Int->V):R2:=λx y H Q=>∃i j,x= .int i/\y= .int j/\C i j/\Q (g i j) H
def E8(g:Int->Int->V):R2:=λx y H Q=>∃i j,x= .int i/\y= .int j/\Q (g i j) H
def rU(g:Int->V):V->Hp->VK->Prop:=λx H Q=>∃i,x= .int i/\Q (g i) H
section
theorem OJ(ha:PE X a ta)(hb:PE X b tb){pins:PNS}{s:zv}{σ:St}{H:Hp}{R:V->V->Hp->Prop}(I:Inv X pins σ H s)
 (h:ta σ H λx H1=>tb σ H1 λy H2=>R x y H2) {f:zj->zj->Sem zj}
 (hf:∀v u s2 x y H2,Inv X pins σ H2 s2->K4 x v->K4 y u->R x y H2->zC (zH X.prog X.w) X.A (f v u) Q X.xe s2):
 zC (zH X.prog X.w) X.A (eval a X.env) (λv X0=>zC (zH X.prog X.w) X.A (eval b X.env) (λu s₂=>zC (zH X.prog X.w) X.A (f v u) Q X.xe s₂) X.xe X0) X.xe s:=by
 refine thn (ha pins s σ H _ I h) λv s1 hE1=>hE1.elim λx H1 I1 r1 q1=>?_
 refine thn (hb pins s1 σ H1 _ I1 q1) λu s2 hE1=>hE1.elim λy H2 I2 r2 q2=>?_
 exact hf v u s2 x y H2 I2 r1 r2 q2
theorem RH(ho:OpR X (jL op) r)(ha:PE X a ta)(hb:PE X b tb):PE X (.BinOp a op b pos) (tOp r ta tb):=by
 intro pins s σ H Q I h
 exact wpAny_BinOp (OJ ha hb I h λv u s2 x y H2 I2 rx ry q=>ho pins s2 σ H2 x y v u Q I2 rx ry q)
theorem qh(ho:UnR X (unaryOp op) r)(ha:PE X a ta):PE X (.UnaryOp op a pos) (tUn r ta):=by
 intro pins s σ H Q I h
 exact UnaryOp_ (thn (ha pins s σ H _ I h) λv s1 hE1=>hE1.elim λx H1 I1 r1 q1=>ho pins s1 σ H1 x v Q I1 r1 q1)
theorem opI{C:Int->Int->Prop}{g:Int->Int->Int}
 (rule:∀(i j:Int) (t u:Tok) (s:zv) Q (E:VSP),C i j->Q (.int (g i j) s.toks) {s with toks:=s.toks+1}->zC (zH X.prog X.w) X.A (f (.int i t) (.int j u)) Q E s):
 OpR X f (rI C λi j=>.int (g i j)):=by
 intro pins s σ H x y v u Q I rx ry h
 obtain⟨i,j,rfl,rfl,hc,q⟩:=h
 obtain⟨t,rfl⟩:=rx
 obtain⟨t',rfl⟩:=ry
 exact rule i j t t' s _ _ hc ⟨.int (g i j),H,I.tok _,⟨_,rfl⟩,q⟩
theorem VN{g:Int->Int->Int}
 (rule:∀(i j:Int) (t u:Tok) (s:zv) Q (E:VSP),Q (.int (g i j) s.toks) {s with toks:=s.toks+1}->zC (zH X.prog X.w) X.A (f (.int i t) (.int j u)) Q E s):
 OpR X f (E8 λi j=>.int (g i j)):=by
 intro pins s σ H x y v u Q I rx ry h
 obtain⟨i,j,rfl,rfl,q⟩:=h
 obtain⟨t,rfl⟩:=rx
 obtain⟨t',rfl⟩:=ry
 exact rule i j t t' s _ _ ⟨.int (g i j),H,I.tok _,⟨_,rfl⟩,q⟩
theorem DK{g:Int->Int->Bool}
 (rule:∀(i j:Int) (t u:Tok) (s:zv) Q (E:VSP),Q (.bool (g i j)) s->zC (zH X.prog X.w) X.A (f (.int i t) (.int j u)) Q E s):
 OpR X f (E8 λi j=>.bl (g i j)):=by
 intro pins s σ H x y v u Q I rx ry h
 obtain⟨i,j,rfl,rfl,q⟩:=h
 obtain⟨t,rfl⟩:=rx
 obtain⟨t',rfl⟩:=ry
 exact rule i j t t' s _ _ ⟨.bl (g i j),H,I,rfl,q⟩
def cA(i j:Int):Prop:=0<=j/\j<=1000000/\i.natAbs<2 ^ 64
def L3(i j:Int):Prop:=(-(2 ^ 64)<i/\i<2 ^ 64)\/(-(2 ^ 64)<j/\j<2 ^ 64)
theorem L3.ok(h:L3 i j):IntMulOk i j:=by
 rcases h with⟨h1,h2⟩|⟨h1,h2⟩
 ·exact .of_left (intBits_le_64 h1 h2)
 ·exact .of_right (intBits_le_64 h1 h2)
theorem gU:OpR X (jL .Add) (E8 λi j=>.int (i+j)):=VN λ_ _ _ _ _ _ _ q=>add_int q
theorem dN:OpR X (jL .Sub) (E8 λi j=>.int (i-j)):=VN λ_ _ _ _ _ _ _ q=>sub_int q
theorem Vm:OpR X (jL .Mult) (rI L3 λi j=>.int (i*j)):=opI λ_ _ _ _ _ _ _ hc q=>mul_int q hc.ok
theorem CU:OpR X (jL .Mod) (rI (λ_ j=>0<j) λi j=>.int (i % j)):=opI λi j _ _ _ _ _ hc q=>by
 have h1:(0:Int)<j:=hc
 exact mod_int' (by lia) (by rw[Int.fmod_eq_emod_of_nonneg i (by lia)];exact q)
theorem gR:OpR X (jL .Pow) (rI cA λi j=>.int (i ^ j.toNat)):=opI λ_ _ _ _ _ _ _ hc q=>pow_int_small hc.1 hc.2.1 hc.2.2 q
theorem unI{f:zj->Sem zj}{g:Int->Int}
 (rule:∀(i:Int) (t:Tok) (s:zv) Q E,Q (.int (g i) s.toks) {s with toks:=s.toks+1}->zC (zH X.prog X.w) X.A (f (.int i t)) Q E s):
 UnR X f (rU λi=>.int (g i)):=by
 intro pins s σ H x v Q I rx h
 obtain⟨i,rfl,q⟩:=h
 obtain⟨t,rfl⟩:=rx
 exact rule i t s _ _ ⟨.int (g i),H,I.tok _,⟨_,rfl⟩,q⟩
theorem fW:UnR X (unaryOp .USub) (rU λi=>.int (-i)):=unI λ_ _ _ _ _ q=>neg_int q
end
section
theorem pI(I:Inv X pins σ H s)(q:Q (.bl k) H)(e:k=k'):EP X pins σ Q (.bool k') s:=by
 subst e
 exact⟨.bl k,H,I,rfl,q⟩
theorem mU:OpR X (zT .LtE) (E8 λi j=>.bl (decide (i<=j))):=DK λ_ _ _ _ _ _ _ q=>le_int q
theorem Fc:OpR X (zT .Gt) (E8 λi j=>.bl (decide (j<i))):=DK λ_ _ _ _ _ _ _ q=>gt_int q
theorem fI6:OpR X (zT .GtE) (E8 λi j=>.bl (decide (j<=i))):=DK λ_ _ _ _ _ _ _ q=>ge_int q
theorem eY:OpR X (zT .In) (λx y H Q=>∃i j,x= .str i/\y= .str j/\Q (.bl (!(jM j i 0 j.length 1).isEmpty)) H):=by
 intro pins s σ H x y v u Q I rx ry h
 obtain⟨i,j,rfl,rfl,q⟩:=h
 obtain⟨t,rfl⟩:=rx
 obtain⟨t',rfl⟩:=ry
 exact in_str (pI I q rfl)
theorem Bq:OpR X (zT .Is) (λx y H Q=>y= .non/\Q (.bl (decide (x= .non))) H):=by
 intro pins s σ H x y v u Q I rx ry h
 obtain⟨rfl,q⟩:=h
 cases ry
 refine is_none_gen (pI I q ?_)
 cases x<;>first
  |(cases rx;rfl)
  |(obtain⟨t,rfl⟩:=rx;rfl)
theorem oT:OpR X (zT .IsNot) (λx y H Q=>y= .non/\Q (.bl (!decide (x= .non))) H):=by
 intro pins s σ H x y v u Q I rx ry h
 obtain⟨rfl,q⟩:=h
 cases ry
 refine isnot_none_gen (pI I q ?_)
 cases x<;>first
  |(cases rx;rfl)
  |(obtain⟨t,rfl⟩:=rx;rfl)
theorem OpR.or(h:OpR X f r)(h':OpR X f r'):OpR X f (λx y H Q=>r x y H Q\/r' x y H Q):=by
 intro pins s σ H x y v u Q I rx ry q
 rcases q with q|q
 ·exact h pins s σ H x y v u Q I rx ry q
 ·exact h' pins s σ H x y v u Q I rx ry q
theorem Gh(ho:OpR X (zT op) r)(ha:PE X a ta)(hb:PE X b tb)(hm:YR op b=false):PE X (.Compare a [op] [b] pos) (tOp r ta tb):=by
 intro pins s σ H Q I h
 exact wpAny_Compare1 (OJ ha hb I h λv u s2 x y H2 I2 rx ry q=>ho pins s2 σ H2 x y v u Q I2 rx ry q) hm
def aP(t:TE):TT:=λσ H Q=>t σ H λx H'=>∃k,x= .bl k/\Q k H'
theorem eU(ho:OpR X (zT op) r)(ha:PE X a ta)(hb:PE X b tb)(hm:YR op b=false):PT X (.Compare a [op] [b] pos) (aP (tOp r ta tb)):=by
 intro pins s σ H Q I h
 refine wpAny_isTrue_Compare1 (thn (ha pins s σ H _ I h) λv s1 hE1=>hE1.elim λx H1 I1 r1 q1=>thn (hb pins s1 σ H1 _ I1 q1) λu s2 hE1=>hE1.elim λy H2 I2 r2 q2=>
  thn (ho pins s2 σ H2 x y v u _ I2 r1 r2 q2) λc s3 ⟨z,H3,I3,r3,k,e,q3⟩=>?_) hm
 subst e
 cases r3
 exact jY ⟨H3,I3,q3⟩
def aI(r r':R2)(ta tb tc:TE):TE:=λσ H Q=>ta σ H λx H1=>tb σ H1 λy H2=>r x y H2 λz H3=>∃k,z= .bl k/\
 (if k=true then tc σ H3 λw' H4=>r' y w' H4 Q else Q (.bl false) H3)
theorem NT(ho:OpR X (zT op) r)(ho':OpR X (zT op') r')(ha:PE X a ta)(hb:PE X b tb)(hc:PE X c tc)
 (hm:JZ [op,op'] [b,c]=false):PE X (.Compare a [op,op'] [b,c] pos) (aI r r' ta tb tc):=by
 intro pins s σ H Q I h
 refine Compare_chain (thn (ha pins s σ H _ I h) λv s1 hE1=>hE1.elim λx H1 I1 r1 q1=>chain_link (thn (hb pins s1 σ H1 _ I1 q1) λu s2 hE1=>hE1.elim λy H2 I2 r2 q2=>
  thn (ho pins s2 σ H2 x y v u _ I2 r1 r2 q2) λd s3 ⟨z,H3,I3,r3,k,e,q3⟩=>?_)) hm
 subst e
 cases r3
 refine jY ?_
 cases k with
 |false=>exact ite_ff ⟨.bl false,H3,I3,rfl,q3⟩
 |true=>exact ite_tt (chain_last (thn (hc pins s3 σ H3 _ I3 q3) λw' s4 ⟨z',H4,I4,r4,q4⟩=>ho' pins s4 σ H4 y z' u w' Q I4 r2 r4 q4))
theorem Hw(ho:OpR X (zT op) r)(ho':OpR X (zT op') r')(ha:PE X a ta)(hb:PE X b tb)(hc:PE X c tc)
 (hm:JZ [op,op'] [b,c]=false):PT X (.Compare a [op,op'] [b,c] pos) (aP (aI r r' ta tb tc)):=by
 intro pins s σ H Q I h
 refine isTrue_chain (thn (ha pins s σ H _ I h) λv s1 hE1=>hE1.elim λx H1 I1 r1 q1=>test_link (thn (hb pins s1 σ H1 _ I1 q1) λu s2 hE1=>hE1.elim λy H2 I2 r2 q2=>
  thn (ho pins s2 σ H2 x y v u _ I2 r1 r2 q2) λd s3 ⟨z,H3,I3,r3,k,e,q3⟩=>?_)) hm
 subst e
 cases r3
 refine jY ?_
 cases k with
 |false=>
   obtain⟨k',e',q'⟩:=q3
   cases e'
   exact ite_ff ⟨H3,I3,q'⟩
 |true=>
   refine ite_tt (test_last (thn (hc pins s3 σ H3 _ I3 q3) λw' s4 ⟨z',H4,I4,r4,q4⟩=>thn (ho' pins s4 σ H4 y z' u w' _ I4 r2 r4 q4) λd' s5 ⟨z2,H5,I5,r5,k2,e2,q5⟩=>?_))
   subst e2
   cases r5
   exact jY ⟨H5,I5,q5⟩
def FK(K:zh)(x:V)(H:Hp)(k:Bool):Prop:=
 match x with
 | .non=>k=false
 | .bl b=>k=b
 | .int i=>k= (i != 0)
 | .str y=>y.length<=zg/\k= ((y.length:Int) != 0)
 | .byt y=>y.size<=zg/\k= ((y.size:Int) != 0)
 | .ref p=>(∃xs,SqL K H p xs/\k= !xs.isEmpty)\/(∃xs,SqT K H p xs/\k= !xs.isEmpty)\/∃kvs,H p=some (.dK kvs)/\k= !kvs.isEmpty
 |_=>False
theorem nR(r:KV kvs vs):(!vs.isEmpty)= !kvs.isEmpty:=by
 cases r<;>rfl
theorem dM(r:J1 xs its):(!its.toArray.isEmpty)= !xs.isEmpty:=by
 cases r<;>simp
theorem CA:(zg:Nat)<2 ^ 63:=by rw[jH];decide
theorem uK:FZ X (λx H Q=>∃k,FK X.K x H k/\Q k H):=by
 intro pins s σ H x v Q I rx h
 obtain⟨k,e,q⟩:=h
 have hl:=CA
 have hs:zg=16777216:=jH
 cases x with
 |non=>
   cases rx
   have e':k=false:=e
   subst e'
   exact truthy_none ⟨H,I,q⟩
 |bl b=>
   cases rx
   have e':k=b:=e
   subst e'
   exact jY ⟨H,I,q⟩
 |int i=>
   obtain⟨t,rfl⟩:=rx
   have e':k= (i != 0):=e
   subst e'
   exact PySem.P.truthy_int ⟨H,I,q⟩
 |str y=>
   obtain⟨t,rfl⟩:=rx
   obtain⟨hy,e'⟩:y.length<=zg/\k= ((y.length:Int) != 0):=e
   subst e'
   exact PySem.P.truthy_str (by lia) ⟨H,I.tok _,q⟩
 |byt y=>
   obtain⟨t,rfl⟩:=rx
   obtain⟨hy,e'⟩:y.size<=zg/\k= ((y.size:Int) != 0):=e
   subst e'
   exact PySem.W.truthy_bytes (by lia) ⟨H,I.tok _,q⟩
 |ref p=>
   cases rx
   have e':(∃xs,SqL X.K H p xs/\k= !xs.isEmpty)\/(∃xs,SqT X.K H p xs/\k= !xs.isEmpty)\/∃kvs,H p=some (.dK kvs)/\k= !kvs.isEmpty:=e
   rcases e' with⟨xs,hx,e'⟩|⟨xs,hx,e'⟩|⟨kvs,hx,e'⟩
   · subst e'
     obtain⟨its,r,pl,hz⟩:=I.list hx
     have hlen:=r.length
     exact wpAny_truthy_list pl.isList (by simp only[zi];lia) ⟨H,I.tok _,by rw[dM r];exact q⟩
   · subst e'
     obtain⟨its,r,pl,hz⟩:=I.tuple hx
     have hlen:=r.length
     exact truthy_tuple pl (by simp only[zi];lia) ⟨H,I.tok _,by rw[dM r];exact q⟩
   · subst e'
     obtain⟨hz,hS,vs,r,m⟩:kvs.length<=zg/\(p==yR)=false/\∃vs,KV kvs vs/\s.heap.DictOf (Q9 X.prog X.w) p vs:=I.hok p _ hx
     have hlen:kvs.length=vs.length:=yN r
     exact wpAny_truthy_dict hS m (by lia) ⟨H,I.tok _,by rw[nR r];exact q⟩
 |_=>exact(show False from e).elim
theorem Nk(ha:PE X a ta)(he:∀whole,isTrue a X.env whole= (do let v <-whole;Jh a.pos;YC [v] (truthy v))):
 PT X a (λσ H Q=>ta σ H λx H'=>∃k,FK X.K x H' k/\Q k H'):=by
 intro pins s σ H Q I h
 exact isTrue_plain (thn (ha pins s σ H _ I h) λv s1 hE1=>hE1.elim λx H1 I1 r1 q1=>uK pins s1 σ H1 x v Q I1 r1 q1) (he _)
theorem kq:OpR X (jL .Add) (λx y H Q=>∃i j,x= .str i/\y= .str j/\i.length+j.length<=zg/\Q (.str (i++j)) H):=by
 intro pins s σ H x y v u Q I rx ry h
 obtain⟨i,j,rfl,rfl,hz,q⟩:=h
 obtain⟨t,rfl⟩:=rx
 obtain⟨t',rfl⟩:=ry
 exact add_str (λt' tk=>⟨.str (i++j),H,I.tok _,⟨_,rfl⟩,q⟩) hz
theorem U1(r:J1 [x] us):∃u,us= [u]/\K4 x u:=by
 cases r with
 |cons r1 r2=>cases r2;exact⟨_,rfl,r1⟩
theorem WJ(r:J1 [x,y] us):∃u w',us= [u,w']/\K4 x u/\K4 y w':=by
 cases r with
 |cons r1 r2=>
   cases r2 with
   |cons r3 r4=>cases r4;exact⟨_,_,rfl,r1,r3⟩
theorem DR:L1 X (.builtin "abs") (λxs H Q=>∃i,xs= [.int i]/\Q (.int (if i<0 then -i else i)) H):=by
 intro pins s σ H xs us Q I r h
 obtain⟨i,rfl,q⟩:=h
 obtain⟨u,rfl,t,rfl⟩:=U1 r
 exact call_abs_int λu tk=>⟨.int (if i<0 then -i else i),H,I.tok _,⟨_,rfl⟩,q⟩
theorem qY:L1 X (.type "int") (λxs H Q=>(∃i,xs= [.int i]/\Q (.int i) H)\/∃k,xs= [.bl k]/\Q (.int (if k then 1 else 0)) H):=by
 intro pins s σ H xs us Q I r h
 rcases h with⟨i,rfl,q⟩|⟨k,rfl,q⟩
 · obtain⟨u,rfl,t,rfl⟩:=U1 r
   exact call_int_int ⟨.int i,H,I,⟨_,rfl⟩,q⟩
 · obtain⟨u,rfl,r1⟩:=U1 r
   cases r1
   exact call_int_bool ⟨.int (if k then 1 else 0),H,I.tok _,⟨_,rfl⟩,q⟩
end
structure ObjM(h:Heap)(x dx C:Addr)(mA:Str->Option zj):Prop where
 obj:h.get? x=some (PySem.W.instObj C dx)
 ns:h.Ns1 dx mA
 ne:dx≠x
section
variable{prog:zW}{w:jk}{A:jA}{E:VSP}{s:zv}{K:zh}{x dx C f:Addr}{mA:Str->Option zj}{name:Str}{v:zj}
end
theorem B8.some_of(r:B8 (some v) o):∃u,o=some u/\K4 v u:=by
 cases o with
 |none=>exact(show False from r).elim
 |some u=>exact⟨u,rfl,r⟩
section
end
structure Cls(K:zh)(C:Addr):Prop where
 pg:PySem.W.plainGet K C Str.empty=true
 hd:PySem.W.hasDictIn K C=true
 po:PySem.W.plainOver K C=true
 sa:xT K (.ref C) "__setattr__" =some (some (.builtin "object.__setattr__"))
structure Con(K:zh)(C:Addr)(f:Str)(v:V)(u:zj):Prop where
 at_:xT K (.ref C) f=some (some u)
 rel:K4 v u
 get:JB K u "__get__" =some none
 cp:PySem.W.copiedNames.contains f=false
structure Meth(K:zh)(C:Addr)(m:Str)(f:Addr):Prop where
 at_:xT K (.ref C) m=some (some (.ref f))
 fn:PySem.W.isFn K (.ref f)=true
 kp:ya K (.ref f)=true
section
end
section
end
section
inductive i6(K:zh)(H:Hp):V->zj->Prop where
 |non:i6 K H .non (.type "NoneType")
 |bl (x:Bool):i6 K H (.bl x) (.type "bool")
 |int (i:Int):i6 K H (.int i) (.type "int")
 |str (x:Str):i6 K H (.str x) (.type "str")
 |flt (x:UInt64):i6 K H (.flt x) (.type "float")
 |lst {a:Addr} {xs:List V} (e:H a=some (.lst xs)):i6 K H (.ref a) (.type "list")
 |frz {a:Addr} {o:Obj} {xs:List V} (e:H a=some (.frz o (.lst xs))):i6 K H (.ref a) (.type "list")
 |tup {a:Addr} {xs:List V} (e:H a=some (.tup xs)):i6 K H (.ref a) (.type "tuple")
 |dK {a:Addr} {kvs:List (Key×V)} (e:H a=some (.dK kvs)):i6 K H (.ref a) (.type "dict")
 |dT {a:Addr} {kvs:List (List Key×V)} (e:H a=some (.dT kvs)):i6 K H (.ref a) (.type "dict")
 |ins {a C dx:Addr} {fs:List (Str×V)} (e:H a=some (.ins C dx fs)) (cl:Cls K C) (ha:xT K (.ref C) "__class__" =some (some (.builtin "object.__class__")))
    (hn:JB K (.builtin "object.__class__") "__get__" =some (some (.builtin "getset_descriptor.__get__"))) (htk:PySem.W.takesIn K (.builtin "object.__class__")=some true)
    (hm:PySem.W.mroIn K C (.type "object")=some true):i6 K H (.ref a) (.ref C)
end
structure U4(k:Nat)(A:jA):Prop where
 hd:A.handled=none
 dp:A.depth+3*k+5<recursionLimit
 un:A.units+16*k+200<xn
 gd:A.guards=some []
theorem U4.mono(r:U4 k A)(h:j<=k):U4 j A:=⟨r.hd,by have:=r.dp;lia,by have:=r.un;lia,r.gd⟩
theorem U4.deeper(r:U4 (k+1) A)(env:Env):U4 k (A.deeper env):=
 ⟨r.hd,by have:=r.dp;show A.depth+1+3*k+5<_;lia,by have:=r.un;show A.units+3+16*k+200<_;lia,r.gd⟩
theorem U4.in1(r:U4 (k+1) A):U4 k A.in1:=
 ⟨r.hd,by have:=r.dp;show A.depth+3*k+5<_;lia,by have:=r.un;show A.units+1+16*k+200<_;lia,r.gd⟩
theorem U4.depth(r:U4 k A):A.depth<recursionLimit:=by have:=r.dp;lia
theorem U4.units(r:U4 k A):A.units+64<xn:=by have:=r.un;lia
def IQ:TA:=λ_ H Q=>Q [] H
def OV(ta:TE)(tr:TA):TA:=λσ H Q=>ta σ H λx H1=>tr σ H1 λxs H2=>Q (x::xs) H2
section
theorem Fm:PA X [] IQ:=λ_ _ _ _ H Q I h=>Zh ⟨[],H,I,.nil,h⟩
theorem Rj(ha:PE X e te)(hr:PA X es t)(hs:zP (e::es) X.env= (false,eval e X.env)::zP es X.env):PA X (e::es) (OV te t):=by
 intro pos pins s σ H Q I h
 rw[hs]
 show zC _ _ (spliced ((false,eval e X.env)::yS pos (zP es X.env))) _ _ s
 refine xZ (thn (ha pins s σ H _ I h) λu s1 hE1=>hE1.elim λx H1 I1 r1 q1=>?_)
 exact thn (hr pos pins s1 σ H1 _ I1 q1) λus s2 hE1=>hE1.elim λxs H2 I2 r2 q2=>⟨x::xs,H2,I2,.cons r1 r2,q2⟩
def Dg(t:TA):TE:=λσ H Q=>t σ H λxs H1=>xs.length<=zg/\∀p,H1 p=none->Q (.ref p) (upd H1 p (.tup xs))
def RU(t:TA):TE:=λσ H Q=>t σ H λxs H1=>xs.length<=zg/\∀p,H1 p=none->Q (.ref p) (upd H1 p (.lst xs))
theorem ww{x1}(h:PA X es t):PE X (.Tuple es x1 pos) (Dg t):=by
 intro pins s σ H Q I hq
 refine wpAny_Tuple_spliced (thn (h pos pins s σ H _ I hq) λus s1 ⟨xs,H1,I1,r,z,q⟩=>⟨by rw[<-r.length];exact z,?_⟩)
 have hf:H1 s1.heap.objs.size=none:=I1.hok.fresh (zo _)
 refine⟨.ref s1.heap.objs.size,upd H1 s1.heap.objs.size (.tup xs),I1.laid (t':=s1.toks) (λb u e=>zd _ e) (zo _) ?_,rfl,q _ hf⟩
 exact⟨z,us,r,⟨_,zw _ rfl,rfl,_,rfl⟩⟩
theorem eQ8(h:PA X es t):PE X (.List es pos) (RU t):=by
 intro pins s σ H Q I hq
 refine wpAny_List_spliced (thn (h pos pins s σ H _ I hq) λus s1 ⟨xs,H1,I1,r,z,q⟩=>⟨by rw[<-r.length];exact z,?_⟩)
 have hf:H1 s1.heap.objs.size=none:=I1.hok.fresh (zo _)
 refine⟨.ref s1.heap.objs.size,upd H1 s1.heap.objs.size (.lst xs),I1.laid (t':=s1.toks) (λb u e=>zd _ e) (zo _) ?_,rfl,q _ hf⟩
 exact⟨z,us,0,r,zw _ rfl⟩
end
abbrev Sp:=List V->Hp->VK->XK->Prop
abbrev CXT:=List Env->Hp->zv->XK->VSP
structure fF(P:zW)(w:jk)(K:zh)(mg:Str->Option zj)(base:Heap)(A:jA)(outer:List Env)(s:zv)(H:Hp):Prop where
 frames:A.frames=some outer
 mod:Mod K mg base
 bs:∀b o,base.get? b=some o->s.heap.get? b=some o/\H b=none
 bsz:base.objs.size<=s.heap.objs.size
 funs:s.heap.FunFrames base outer
 frf:∀b∈frs outer,H b=none
 hok:HOk P w H s.heap
 bare:YF s.gens
def CE(outer:List Env)(P:zW)(w:jk)(H:Hp)(s:zv)(Q:VK)(u:zj)(s':zv):Prop:=
 ∃v H',s'.os=s.os/\YF s'.gens/\Un (frs outer) [] H H' s.heap s'.heap/\HOk P w H' s'.heap/\K4 v u/\Q v H'
def CR(CX:CXT)(outer:List Env)(P:zW)(w:jk)(H:Hp)(s:zv)(Q:VK)(E:XK)(r:Result)(s':zv):Prop:=
 match r with
 | .ok (.ret u)=>CE outer P w H s Q u s'
 | .ok _=>False
 | .error e=>CX outer H s E e s'
structure M0(P:zW)(w:jk)(K:zh)(mg:Str->Option zj)(base:Heap)(CX:CXT)(k:Nat)(f:Addr)(fd:xi)(ps:List Str)(sp:Sp):Prop where
 len:∀vs H Q E,sp vs H Q E->vs.length=ps.length
 run:∀(A:jA) (outer:List Env) (s:zv) (H:Hp) (args:Args) (us:List zj) (vs:List V) (Q:VK) (E:XK),U4 k A->fF P w K mg base A outer s H->ZY s fd args (ps.zip us)->J1 vs us->sp vs H Q E->
  Zw (zH P w) A (.call (.ref f) args) (CR CX outer P w H s Q E) s
theorem M0.imp{P:zW}{w:jk}{K:zh}{base:Heap}{CX:CXT}{k:Nat}{f:Addr}{fd:xi}{ps:List Str}{sp sp':Sp}(F:M0 P w K mg base CX k f fd ps sp)
 (h:∀vs H Q E,sp' vs H Q E->sp vs H Q E):M0 P w K mg base CX k f fd ps sp':=
 ⟨λvs H Q E q=>F.len vs H Q E (h _ _ _ _ q),λA outer s H args us vs Q E hr he hb hv hs=>F.run A outer s H args us vs Q E hr he hb hv (h _ _ _ _ hs)⟩
section
theorem Inv.env0(I:Inv X pins σ H s):fF X.prog X.w X.K X.mg X.base X.A X.stack s H:=
 ⟨I.ok.frames,I.ok.mod,I.bs,zI I.ok.bsz I.sz,I.stack,I.stkFree,I.hok,I.bare⟩
theorem Inv.after(I:Inv X pins σ H s)(h:CE X.stack X.prog X.w H s Q u s'):EP X pins σ Q u s':=by
 obtain⟨v,H',os,bare,un,hok,r,q⟩:=h
 obtain⟨hh,g,d,t,os'⟩:=s'
 obtain rfl:os'=s.os:=os
 exact⟨v,H',I.call (h':=hh) (g':=g) (d':=d) (t':=t) (ch:= []) un hok bare (λb z=>absurd z (by simp)),r,q⟩
end
def GQ(sp:Sp)(dvs:List V)(E:XK)(t:TA):TE:=λσ H Q=>t σ H λvs H1=>sp (vs++dvs) H1 Q E
def n4(K:zh)(fd:xi)(ps:List Str)(ds:List zj):Prop:=
 ∀(s:zv) (us:List zj),K.In s.heap->(us++ds).length=ps.length->ZY s fd ⟨us, []⟩ (ps.zip (us++ds))
theorem n4.all{K:zh}{ps:List Str}(h:∀us:List zj,us.length=ps.length->bindArgs fd ⟨us, []⟩=pure (ps.zip us)):n4 K fd ps []:=λs us _ hl=>by
 rw[yz]at hl ⊢
 exact .of_eq (h us hl)
def rG(CX:CXT)(X:Cx)(E:XK):Prop:=∀(pins:PNS) (σ:St) (H:Hp) (s:zv) (e:zj) (s':zv),Inv X pins σ H s->CX X.stack H s E e s'->X.xe e s'
section
theorem HD(F:M0 X.prog X.w X.K X.mg X.base CX k f fd ps sp)(hr:U4 k X.A)(hb:n4 X.K fd ps ds)(hd:J1 dvs ds)(hx:rG CX X E)
 (I:Inv X pins σ H s) (r:J1 vs us) (h:sp (vs++dvs) H Q E):zC (zH X.prog X.w) X.A (call (.ref f) us) (EP X pins σ Q) X.xe s:=by
 have r2:J1 (vs++dvs) (us++ds):=r.append hd
 have hl:(us++ds).length=ps.length:=by rw[<-r2.length];exact F.len _ _ _ _ h
 refine wpAny_call (codeAny_mono (F.run X.A X.stack s H ⟨us, []⟩ (us++ds) (vs++dvs) Q E hr I.env0 (hb s us I.kIn hl) r2 h) λr s' hq=>?_)
 cases r with
 |error e=>exact hx pins σ H s e s' I hq
 |ok fl=>
   cases fl with
   |ret u=>exact I.after hq
   |next=>exact yL hq
   |brk=>exact yL hq
   |cont=>exact yL hq
theorem aS(F:M0 X.prog X.w X.K X.mg X.base CX k f fd ps sp)(hr:U4 k X.A)(hg:Gl X x)(hm:X.mg x=some (.ref f))(hk:ya X.K (.ref f)=true)(hb:n4 X.K fd ps ds)(hd:J1 dvs ds)(hx:rG CX X E)
 (ha:PA X (e::es) t) (hdb:(x==("__debug__" :Str))=false) (he:zP (e::es) X.env= (false,eval e X.env)::zP es X.env) (hpl:(yS pos (zP es X.env)).any (·.1)=false):
 PE X (.Call (.Name x p) (e::es) [] pos) (GQ sp dvs E t):=by
 intro pins s σ H Q I h
 refine yx (PC I hg hm ?_ hdb)
 refine PySem.W.callWith_K (h₀:=X.base) I.ok.mod.kin hk (thn (ha pos pins s σ H _ I h) λus s1 hE1=>hE1.elim λvs H1 I1 r q=>⟨I1.kIn,?_⟩) he hpl
 exact HD F hr hb hd hx I1 r q
theorem OY(F:M0 X.prog X.w X.K X.mg X.base CX k f fd ps sp)(hr:U4 k X.A)(hg:Gl X x)(hm:X.mg x=some (.ref f))(hk:ya X.K (.ref f)=true)(hb:n4 X.K fd ps ds)(hd:J1 dvs ds)(hx:rG CX X E)
 (hdb:(x==("__debug__" :Str))=false):PE X (.Call (.Name x p) [] [] pos) (GQ sp dvs E IQ):=by
 intro pins s σ H Q I h
 refine yx (PC I hg hm ?_ hdb)
 exact PySem.W.callWith_K0 I.kIn hk (HD (us:= []) F hr hb hd hx I .nil h)
structure Mk(K:zh)(C f:Addr):Prop where
 makes:PySem.W.makesIn K C=true
 init:xT K (.ref C) "__init__" =some (some (.ref f))
 fn:PySem.W.isFn K (.ref f)=true
 kp:ya K (.ref C)=true
end
section
structure KBinds(K:zh)(fd:xi)(ps ks:List Str)(g:List zj->List zj->List zj)(gV:List V->List V->List V):Prop where
 to:∀(s:zv) (us ws:List zj),K.In s.heap->(g us ws).length=ps.length->ZY s fd ⟨us,ks.zip ws⟩ (ps.zip (g us ws))
 rel:∀ {vs:List V} {us:List zj} {zs:List V} {ws:List zj},J1 vs us->J1 zs ws->J1 (gV vs zs) (g us ws)
end
structure x5(N P:List Str)(sc:Scope):Prop where
 kind:sc.kind= .function
 co:sc.isCoroutine=false
 gen:sc.isGenerator=false
 nd:N.Nodup
 pre:N.take P.length=P
 par:∀x∈P,sc.names.lookup x=some .local\/sc.names.lookup x=some .cell
 nofree:∀y∈sc.names,y.2≠ .free
theorem eP{xE:Str->Option NameKind}{x:Str}:∀ {binds} {m:Str->Option zj},(∀v,(x,v)∉binds)->bindL xE binds m x=m x
 |[],_,_=>rfl
 |(n,v)::r,m,h=>by
  unfold bindL
  rw[eP λw hw=>h w (zn _ hw)]
  split
  · have:x≠n:=by rintro rfl;exact h v zt
    simp[this]
  ·rfl
theorem TL{xE:Str->Option NameKind}{x:Str}:∀ {binds} {m:Str->Option zj},(∀v,(x,v)∉binds)->bindC xE binds m x=m x
 |[],_,_=>rfl
 |(n,v)::r,m,h=>by
  unfold bindC
  rw[TL λw hw=>h w (zn _ hw)]
  split
  ·rfl
  · have:x≠n:=by rintro rfl;exact h v zt
    simp[this]
theorem rN{xE:Str->Option NameKind}{x:Str}{v:zj}:∀ {P:List Str} {vs:List zj} {i:Nat} {m},P.Nodup->P[i]? =some x->vs[i]? =some v->xE x=some .local->
 bindL xE (P.zip vs) m x=some v
 |[],_,_,_,_,h,_,_=>by simp at h
 |_::_, [],_,_,_,_,h,_=>by simp at h
 |p::P,w::vs,0,m,nd,h1,h2,hk=>by
   simp at h1 h2;subst h1;subst h2
   show bindL xE ((p,w)::P.zip vs) m p=_
   unfold bindL
   rw[eP λv hv=>(xj.mp nd).1 (Xi hv).1,if_pos hk]
   simp
 |p::P,w::vs,i+1,m,nd,h1,h2,hk=>by
   show bindL xE ((p,w)::P.zip vs) m x=_
   unfold bindL
   exact rN (i:=i) (xj.mp nd).2 (by simpa using h1) (by simpa using h2) hk
theorem sM{xE:Str->Option NameKind}{x:Str}{v:zj}:∀ {P:List Str} {vs:List zj} {i:Nat} {m},P.Nodup->P[i]? =some x->vs[i]? =some v->xE x≠some .local->
 bindC xE (P.zip vs) m x=some v
 |[],_,_,_,_,h,_,_=>by simp at h
 |_::_, [],_,_,_,_,h,_=>by simp at h
 |p::P,w::vs,0,m,nd,h1,h2,hk=>by
   simp at h1 h2;subst h1;subst h2
   show bindC xE ((p,w)::P.zip vs) m p=_
   unfold bindC
   rw[TL λv hv=>(xj.mp nd).1 (Xi hv).1,if_neg hk]
   simp
 |p::P,w::vs,i+1,m,nd,h1,h2,hk=>by
   show bindC xE ((p,w)::P.zip vs) m x=_
   unfold bindC
   exact sM (i:=i) (xj.mp nd).2 (by simpa using h1) (by simpa using h2) hk
def start(N:List Str)(vs:List V):St:=vs.map some++zm (N.length-vs.length) none
def l7(CX:CXT)(P:zW)(w:jk)(K:zh)(mg:Str->Option zj)(base:Heap)(N:List Str)(qual:Str)(scope:Scope)(f:Addr)(cd:zj)(A:jA)(outer:List Env)(s:zv)(H:Hp)(E:XK):Cx where
 prog:=P
 w:=w
 K:=K
 mg:=mg
 base:=base
 A:=A.deeper (ZD qual scope s.heap.objs.size f cd)
 N:=N
 WX:=s
 H₀:=H
 env:=ZD qual scope s.heap.objs.size f cd
 outer:=outer
 stack:=ZD qual scope s.heap.objs.size f cd::outer
 ex:= []
 calm:=true
 fn:=λ_=>true
 pn:= []
 xe:=λe s'=>zC (zH P w) (A.deeper (ZD qual scope s.heap.objs.size f cd)) (leaving (ZD qual scope s.heap.objs.size f cd) e) (λ_ s''=>CX outer H s E e s'') (λe' s''=>CX outer H s E e' s'') s'
theorem mN{sc:Scope}{x:Str}(h:sc.names.lookup x=some .cell):∃c,(cellsFrom n sc.names []).lookup x=some c:=by
 have q:=XI sc.names n [] (.inl h)
 exact Xz.mp q
theorem Qc{CX:CXT}{P:zW}{w:jk}{K:zh}{mg:Str->Option zj}{base:Heap}{N ps:List Str}{qual:Str}{scope:Scope}{f:Addr}{cd:zj}{A:jA}{outer:List Env}{s s1:zv}{H:Hp}{E:XK}{us:List zj}{vs:List V}
 (S:x5 N ps scope) (hd:A.handled=none) (gd:A.guards=some []) (e0:fF P w K mg base A outer s H) (hl:vs.length=ps.length) (r:J1 vs us)
 (x:InCallC s s.heap.objs.size (bindL (ZD qual scope s.heap.objs.size f cd).kindOf (ps.zip us) λ_=>none) (cellsFrom (s.heap.objs.size+1) scope.names []) (bindC (ZD qual scope s.heap.objs.size f cd).kindOf (ps.zip us) λ_=>none) s1):
 Inv (l7 CX P w K mg base N qual scope f cd A outer s H E) [] (start N vs) H s1:=by
 have hpl:ps.length<=N.length:=by have:=congrArg xl S.pre;rw[jD]at this;lia
 obtain⟨h1,tk,rfl,hk⟩:=x.done
 have noA:∀b:Addr,b∉(l7 CX P w K mg base N qual scope f cd A outer s H E).ex:=λb z=>absurd (show b∈([]:List Addr)from z) (by simp)
 refine⟨⟨e0.mod,S.kind,rfl,rfl,zo _,λy z c h1 h2=>?_,λy hy=>?_,λy c _ h=>?_,λ_=>hd,Around.frames_deeper e0.frames,.inr ⟨rfl,rfl⟩,λb z=>absurd z (noA b),e0.bs,e0.bsz,λb _ _=>noA b,λb z=>absurd z (noA b),e0.funs,e0.frf,gd⟩,
  rfl,e0.bare,Un.kept hk,⟨_,x.toInCall.ns,λi y v h1 h2 h3=>?_⟩,λy c h=>⟨_,x.cell y c h⟩,e0.hok.fresh (zo _),λy c h=>?_,λp hp=>absurd (show p∈([]:PNS)from hp) (by simp),e0.hok.kept hk,?_⟩
 ·exact name_of_addr x.apart (yE h1) (yE h2)
 · have hy:scope.names.lookup y=some .cell\/scope.names.lookup y=some .free:=hy
   rcases hy with hy|hy
   ·exact mN hy
   ·exact absurd rfl (S.nofree _ (yE hy))
 ·exact ym (x.above y c (yE h))
 · have hi:i<vs.length:=by
    unfold start at h2
    by_cases hi:i<vs.length
    ·exact hi
    · rw[yZ (by simpa using hi)]at h2
      rw[Zr]at h2
      split at h2<;>cases h2
   have ha:vs[i]? =some v:=by
    unfold start at h2
    rw[zK (by simpa using hi),zB]at h2
    cases e:vs[i]? with
    |none=>rw[e]at h2;cases h2
    |some a=>rw[e]at h2;cases h2;rfl
   obtain⟨u,hu,rv⟩:=r.get ha
   have hp:ps[i]? =some y:=by
    rw[<-S.pre,List.getElem?_take_of_lt (by lia)];exact h1
   have ndP:ps.Nodup:=by rw[<-S.pre];exact S.nd.sublist (List.take_sublist _ _)
   refine⟨u,rv,?_⟩
   rcases S.par y (js hp)with k|k
   ·exact .inl ⟨k,rN ndP hp hu k⟩
   · obtain⟨c,e⟩:=mN (n:=s.heap.objs.size+1) k
     refine .inr ⟨.inl k,c,e,?_⟩
     have q:=x.cell y c e
     rw[sM ndP hp hu (by show scope.names.lookup y≠_;rw[k];decide)]at q
     exact q
 ·exact e0.hok.fresh (ym (x.above y c (yE h)))
 · unfold start
   show _=N.length
   rw[zA,zc,jy]
   lia
theorem mS{CX:CXT}{P:zW}{w:jk}{K:zh}{mg:Str->Option zj}{base:Heap}{k:Nat}{f:Addr}{name qual:Str}{params:Arguments}{body:List Stmt}{scope:Scope}{dV kV doc pm cdv ct oc:zj}{an od:Option Addr}
 {N ps:List Str} {sp:Sp} (lk:K.lookup f=some ⟨oc,od,.func (yh name qual params body scope dV kV doc pm an cdv ct),osl⟩) (hcd:xU K cdv qual=true) (S:x5 N ps scope)
 (len:∀vs H Q E,sp vs H Q E->vs.length=ps.length)
 (hbody:∀(A:jA) (outer:List Env) (s:zv) (H:Hp) (vs:List V) (Q:VK) (E:XK),U4 k (A.deeper (ZD qual scope s.heap.objs.size f cdv))->sp vs H Q E->
   ∃t,PSs (l7 CX P w K mg base N qual scope f cdv A outer s H E) body t/\t {nx:=λ_ H'=>Q .non H',rt:=Q} (start N vs) H):
 M0 P w K mg base CX (k+1) f (yh name qual params body scope dV kV doc pm an cdv ct) ps sp:=by
 refine⟨len,λA outer s H args us vs Q E hr e0 hb r hsp=>?_⟩
 have hl:=len _ _ _ _ hsp
 have KX:K.In s.heap:=e0.mod.kin.keeps λb o e=>(e0.bs b o e).1
 have lim:s.heap.NoLimit:=e0.mod.nolimit.keeps λb o e=>(e0.bs b o e).1
 have hkind:∀y∈ps.zip us,scope.names.lookup y.1=some .local\/(scope.names.lookup y.1=some .cell/\((cellsFrom (s.heap.objs.size+1) scope.names []).lookup y.1).isSome=true):=fun⟨n,v⟩ hy=>by
  rcases S.par n (Xi hy).1 with q|q
  ·exact .inl q
  ·exact .inr ⟨q,XI _ _ _ (.inl q)⟩
 refine codeAny_call_function hr.depth (KX _ _ lk) rfl S.co S.gen rfl (PySem.W.codeRec_of KX hcd) (hb _ _ _ _ ?_)
 refine wpAny_newFunctionEnv_cells S.kind hkind λenv he s1 x=>?_
 subst he
 refine⟨lim.keeps x.toInCall.keep,codeAny_func ?_⟩
 obtain⟨t,ht,hq⟩:=hbody A outer s H vs Q E (hr.deeper _) hsp
 have I:Inv (l7 CX P w K mg base N qual scope f cdv A outer s H E) [] (start N vs) H s1:=Qc S hr.hd hr.gd e0 hl r x
 refine jE (ht [] s1 (start N vs) H _ I hq) (λfl s' hs=>?_) λe s' hs=>hs
 have fin:∀ {X2:St} {H':Hp} {v:V} {u:zj},Inv (l7 CX P w K mg base N qual scope f cdv A outer s H E) [] X2 H' s'->K4 v u->Q v H'->CE outer P w H s Q u s':=
  λ{X2 H' v u} J rv q=>⟨v,H',J.os,J.bare,J.base,J.hok,rv,q⟩
 cases fl with
 |ret u=>
   obtain⟨v,X2,H',J,rv,q⟩:=hs
   exact fin J rv q
 |next=>
   obtain⟨X2,H',J,q⟩:=hs
   exact fin (v:=V.non) (u:=Value.none) J rfl q
 |brk=>
   obtain⟨_,_,_,q⟩:=hs
   exact yL q
 |cont=>
   obtain⟨_,_,_,q⟩:=hs
   exact yL q
section
variable{X:Cx}{x:Str}{p pos:Pos}{e:Expr}{es:List Expr}{t:TA}{id T:String}{r:List V->Hp->VK->Prop}
def tCB(r:List V->Hp->VK->Prop)(t:TA):TE:=λσ H Q=>t σ H λvs H1=>r vs H1 Q
theorem Df(hc:L1 X (.builtin id) r)(hg:Gl X x)(hm:X.mg x=none)(hv:zV x=some (.builtin id))(ha:PA X (e::es) t)(hn:x≠ "__name__")(hdb:(x==("__debug__" :Str))=false)
 (he:zP (e::es) X.env= (false,eval e X.env)::zP es X.env) (hpl:(yS pos (zP es X.env)).any (·.1)=false):PE X (.Call (.Name x p) (e::es) [] pos) (tCB r t):=by
 intro pins s σ H Q I h
 refine yx (B6 I hg hm hv ?_ hn hdb)
 exact PyProof.Rows.callWith_builtin1 (thn (ha pos pins s σ H _ I h) λus s1 hE1=>hE1.elim λvs H1 I1 r1 q1=>hc pins s1 σ H1 vs us Q I1 r1 q1) he hpl
theorem Tw(hc:L1 X (.type T) r)(hg:Gl X x)(hm:X.mg x=none)(hv:zV x=some (.type T))(ha:PA X (e::es) t)(hn:x≠ "__name__")(hdb:(x==("__debug__" :Str))=false)
 (he:zP (e::es) X.env= (false,eval e X.env)::zP es X.env) (hpl:(yS pos (zP es X.env)).any (·.1)=false):PE X (.Call (.Name x p) (e::es) [] pos) (tCB r t):=by
 intro pins s σ H Q I h
 refine yx (B6 I hg hm hv ?_ hn hdb)
 exact yd (thn (ha pos pins s σ H _ I h) λus s1 hE1=>hE1.elim λvs H1 I1 r1 q1=>hc pins s1 σ H1 vs us Q I1 r1 q1) he hpl
end
end L2
namespace HT
open PySem PyProof.Rows
section
open PySem.SeqAt
open PySem.AutoSeq1 (wpAny_loadPart')
open PySem.MeetsSeq PySem.MeetsSeq2 PySem.MeetsSeq3
end
section
theorem cat_tup(ht:Yk s.heap t vs.toArray)(hb:Yk s.heap b ws.toArray)(hv:vs≠ [])
 (h1:ws= []->Q (.ref t) s) (h2:ws≠ []->Q (.ref s.heap.objs.size) {s with heap:=s.heap.push {cls:=.type "tuple",data:=.seq (vs++ws).toArray}})
 (hsz:vs.length+ws.length<=zg):zC (zH prog w) A (jL .Add (.ref t) (.ref b)) Q E s:=by
 obtain⟨⟨cls,dd,data,sl⟩,ho,hc,n,hd⟩:=id ht
 obtain⟨⟨cls2,dd2,data2,sl2⟩,ho2,hc2,n2,hd2⟩:=id hb
 simp only at hc hd hc2 hd2
 subst hc hd hc2 hd2
 have e:vs.toArray++ws.toArray= (vs++ws).toArray:=by simp
 by_cases hw:ws= []
 · exact concat_meets ⟨_,ho,rfl⟩ ⟨_,ho2,rfl⟩ XH JL Zo Zl (Zd _ _)
    (tuple_addW1 t b vs.toArray ws.toArray n n2 dd dd2 sl sl2 (by simpa using hv) (by simp[hw])) ⟨ho,ho2,h1 hw⟩
 · refine concat_meets ⟨_,ho,rfl⟩ ⟨_,ho2,rfl⟩ XH JL Zo Zl (Zd _ _)
    (tuple_addW2 t b vs.toArray ws.toArray n n2 dd dd2 sl sl2 (by simpa using hv) (by simpa using hw) (by rw[zi,zi];exact hsz)) ⟨ho,ho2,?_⟩
   rw[e]
   exact h2 hw
def sIx(n d:Nat):Option Int->Nat
 |none=>d
 |some v=>if v<0 then (v+(n:Int)).toNat else min v.toNat n
theorem sIx_none(n d:Nat):sIx n d none=d:=rfl
theorem sIx_nat(n d k:Nat):sIx n d (some (k:Int))=min k n:=by
 show (if (k:Int)<0 then ((k:Int)+(n:Int)).toNat else min (k:Int).toNat n)=min k n
 rw[if_neg (by lia),jX]
theorem eT6(n d:Nat)(hd:d<=n)(o:Option Int):sIx n d o<=n:=by
 cases o with
 |none=>exact hd
 |some v=>
   show (if v<0 then (v+(n:Int)).toNat else min v.toNat n)<=n
   by_cases hv:v<0
   ·rw[if_pos hv];lia
   ·rw[if_neg hv];exact Nat.min_le_right _ _
theorem CM(v:Int)(n d:Nat):(if v<0 then max (v+(n:Int)) 0 else min v (n:Int))= ((sIx n d (some v):Nat):Int):=by
 show (if v<0 then max (v+(n:Int)) 0 else min v (n:Int))= (((if v<0 then (v+(n:Int)).toNat else min v.toNat n):Nat):Int)
 by_cases hv:v<0
 ·simp only[if_pos hv];lia
 ·simp only[if_neg hv];lia
theorem GW(lo hi:Option Int)(n:Nat):xO lo hi 1 (n:Int)= (((sIx n 0 lo:Nat):Int),((sIx n n hi:Nat):Int)):=by
 have h1:¬((1:Int)<0):=by lia
 unfold xO
 simp only[h1,if_false]
 refine Xy ?_ ?_
 · cases lo with
   |none=>rfl
   |some v=>exact CM v n 0
 · cases hi with
   |none=>rfl
   |some v=>exact CM v n n
theorem Fv(i j:Nat):yO (i:Int) (j:Int) 1=j-i:=by
 unfold yO
 have h1:(1:Int)>0:=by lia
 simp only[h1,if_true,Int.ediv_one]
 split<;>lia
theorem ML(p:IsPart v o)(h:Q o s):zC (zH prog w) A (Builtin.Slice.slicePartIndex v) Q E s:=by
 cases p with
 |none=>exact slicePart_none h
 |int i t=>exact slicePart_int h
theorem sliceApplied_gen{sl:Addr}{vl vu:zj}{lo hi:Option Int}{n:Nat}(hs:s.heap.IsSliceOf sl vl vu .none)(pl:IsPart vl lo)(pu:IsPart vu hi)
 (h:Q (((sIx n 0 lo:Nat):Int),1,sIx n n hi-sIx n 0 lo) s):zC (zH prog w) A (Yr (.ref sl) (pure (n:Int))) Q E s:=by
 obtain⟨os,hos,hcs,hds⟩:=id hs
 unfold Yr Builtin.Slice.sliceFields
 refine za (za (jT hos hds (x:=vl) rfl (za (jT hos hds (x:=vu) rfl (za (jT hos hds (x:=.none) rfl (zq ?_)))))))
 refine za (slicePart_none ?_)
 show zC _ _ (if ((1:Int)==0)=true then _ else _) _ _ s
 rw[if_neg (by decide)]
 refine za (ML pl (za (ML pu (za (zq ?_)))))
 show zC _ _ (match xO lo hi 1 (n:Int) with|(lo,hi)=>pure (lo,(1:Int),yO lo hi 1)) _ _ s
 rw[GW lo hi n]
 show zC _ _ (pure (((sIx n 0 lo:Nat):Int),(1:Int),yO ((sIx n 0 lo:Nat):Int) ((sIx n n hi:Nat):Int) 1)) _ _ s
 rw[Fv]
 exact zq h
theorem vw(xs:Array zj)(i k:Nat):((jr k).filterMap fun(m:Nat)=>xs[((i:Int)+(m:Int)*1).toNat]?).toArray= ((xs.toList.drop i).take k).toArray:=by
 have e:(fun(m:Nat)=>xs[((i:Int)+(m:Int)*1).toNat]?)=λm=>xs[i+m]? :=by
  funext m
  have:((i:Int)+(m:Int)*1).toNat=i+m:=by lia
  rw[this]
 rw[e]
 have:=pick_run xs i k
 rw[List.filterMap_map]at this
 have e2:((λx=>xs[x]?)∘λx=>i+x)=λm=>xs[i+m]? :=rfl
 rw[e2]at this
 rw[this]
theorem getItem_tuple_cut{t sl:Addr}{vl vu:zj}{lo hi:Option Int}(ht:Yk s.heap t items)(hs:s.heap.IsSliceOf sl vl vu .none)(pl:IsPart vl lo)(pu:IsPart vu hi)
 (hw:¬(sIx items.size 0 lo=0/\sIx items.size items.size hi=items.size))
 (h:Q (.ref s.heap.objs.size) {s with heap:=s.heap.push {cls:=.type "tuple",data:=.seq ((items.toList.drop (sIx items.size 0 lo)).take (sIx items.size items.size hi-sIx items.size 0 lo)).toArray}})
 (hsz:items.size<=zg):zC (zH prog w) A (Xm (.ref t) (.ref sl)) Q E s:=by
 have htake:sizeOk (.seq ((items.toList.drop (sIx items.size 0 lo)).take (sIx items.size items.size hi-sIx items.size 0 lo)).toArray):=by
  show ((items.toList.drop (sIx items.size 0 lo)).take (sIx items.size items.size hi-sIx items.size 0 lo)).toArray.size<=zg
  rw[zi,jD,jR,jW]
  lia
 have hj:sIx items.size items.size hi<=items.size:=eT6 _ _ (zo _) hi
 obtain⟨os,hos,hcs,hds⟩:=id hs
 have hTs:s.TypeIs (.ref sl) "slice":=⟨os,hos,hcs⟩
 unfold Xm
 try with_reducible refine ju ?_
 first|refine za (zq ?_)|skip
 refine za (wpAny_sequenceKey ht.typeIs (by decide) ?_)
 refine za (yk (name:=jO "__getitem__") ht.typeIs jF
  (ye jF ht.typeIs entry_tuple_getitem ?_ (args_tuple_getitem _ _)))
 show zC _ _ (Yq (.ref t) >>= _) _ _ s
 refine za (tupleItemsOf_ ht ?_)
 refine za (Zj hTs ?_)
 rw[if_pos (by decide)]
 refine za (sliceApplied_gen hs pl pu ?_)
 have hno:¬((((sIx items.size 0 lo:Nat):Int)==0&&(1:Int)==1&&(sIx items.size items.size hi-sIx items.size 0 lo)==items.size)=true):=by
  intro q
  rw[jt,jt]at q
  have q1:((sIx items.size 0 lo:Nat):Int)=0:=eq_of_beq q.1.1
  have q2:sIx items.size items.size hi-sIx items.size 0 lo=items.size:=eq_of_beq q.2
  exact hw ⟨by lia,by lia⟩
 show zC _ _ (if (((sIx items.size 0 lo:Nat):Int)==0&&(1:Int)==1&&(sIx items.size items.size hi-sIx items.size 0 lo)==items.size)=true then _ else _) _ _ s
 rw[if_neg hno,vw]
 first
  |exact za (m:=yU _) (yF (zq ⟨_,rfl,zq h⟩) htake)
  |exact za (m:=yU _) (yF (za (zq (zq ⟨_,rfl,zq h⟩))) htake)
  |exact za (za (m:=yU _) (yF (zq (zq ⟨_,rfl,zq h⟩)) htake))
  |exact za (za (m:=yU _) (yF (zq ⟨_,rfl,zq h⟩) htake))
end
end HT
namespace L2
open PySem PySem.Spec PyProof.Rows
abbrev TO:=St->Hp->(Option Int->Hp->Prop)->Prop
def PO(X:Cx)(e:Option Expr)(t:TO):Prop:=
 ∀(pins:PNS) (s:zv) (σ:St) (H:Hp) (Q:Option Int->Hp->Prop),Inv X pins σ H s->t σ H Q->
  zC (zH X.prog X.w) X.A (evalPart e X.env) (λu s'=>∃o H',Inv X pins σ H' s'/\IsPart u o/\Q o H') X.xe s
def iS:TO:=λ_ H Q=>Q none H
def bU(t:TE):TO:=λσ H Q=>t σ H λx H1=>∃i,x= .int i/\Q (some i) H1
section
variable{X:Cx}{e:Expr}{te:TE}{lo hi:Option Expr}{tl th:TO}{pos p2:Pos}
theorem BX:PO X none iS:=by
 intro pins s σ H Q I h
 rw[evalPart_none]
 exact zq ⟨none,H,I,.none,h⟩
theorem Kg(h:PE X e te):PO X (some e) (bU te):=by
 intro pins s σ H Q I hw
 rw[evalPart_some]
 refine thn (h pins s σ H _ I hw) λu s1 hE1=>hE1.elim λx H1 I1 r1 q1=>?_
 obtain⟨i,rfl,q⟩:=q1
 obtain⟨t,rfl⟩:=r1
 exact⟨some i,H1,I1,.int i t,q⟩
def SlR(X:Cx)(r:V->Option Int->Option Int->Hp->VK->Prop):Prop:=
 ∀(pins:PNS) (s:zv) (σ:St) (H:Hp) (x:V) (v vl vu:zj) (lo hi:Option Int) (sl:Addr) (Q:VK),Inv X pins σ H s->K4 x v->s.heap.IsSliceOf sl vl vu .none->IsPart vl lo->IsPart vu hi->r x lo hi H Q->
  ∃T id,Jm (.type T) "__getitem__" =pure (some (.builtin id))/\s.TypeIs v T/\zC (zH X.prog X.w) X.A (Xm v (.ref sl)) (EP X pins σ Q) X.xe s
theorem SlR.or(h:SlR X r)(h':SlR X r'):SlR X (λx lo hi H Q=>r x lo hi H Q\/r' x lo hi H Q):=by
 intro pins s σ H x v vl vu lo hi sl Q I rx hs pl pu q
 rcases q with q|q
 ·exact h pins s σ H x v vl vu lo hi sl Q I rx hs pl pu q
 ·exact h' pins s σ H x v vl vu lo hi sl Q I rx hs pl pu q
def tSl(r:V->Option Int->Option Int->Hp->VK->Prop)(te:TE)(tl th:TO):TE:=λσ H Q=>te σ H λx H1=>tl σ H1 λl H2=>th σ H2 λu H3=>r x l u H3 Q
theorem Sc(hr:SlR X r)(he:PE X e te)(hl:PO X lo tl)(hu:PO X hi th):PE X (.Subscript e (.Slice lo hi none p2) pos) (tSl r te tl th):=by
 intro pins s σ H Q I h
 refine Subscript_ (thn (he pins s σ H _ I h) λv s1 hE1=>hE1.elim λx H1 I1 r1 q1=>?_)
 refine wpAny_Slice (thn (hl pins s1 σ H1 _ I1 q1) λvl s2 ⟨l,H2,I2,pl,q2⟩=>thn (hu pins s2 σ H2 _ I2 q2) λvu s3 ⟨u,H3,I3,pu,q3⟩=>?_)
 rw[evalPart_none]
 refine zq ?_
 have I4:Inv X pins σ H3 {s3 with heap:=s3.heap.push {cls:=.type "slice",data:=.fields #[vl,vu,.none]}}:=I3.kept (t':=s3.toks) λb ob q=>zd _ q
 obtain⟨T,id,hT,ht,hg⟩:=hr pins {s3 with heap:=s3.heap.push {cls:=.type "slice",data:=.fields #[vl,vu,.none]}} σ H3 x v vl vu l u s3.heap.objs.size Q I4 r1 (Xg ..) pl pu q3
 show zC (zH X.prog X.w) X.A (subscriptTail e (.Slice lo hi none p2) v (.ref s3.heap.objs.size)) (EP X pins σ Q) X.xe {s3 with heap:=s3.heap.push {cls:=.type "slice",data:=.fields #[vl,vu,.none]}}
 exact tail_any (ops:= [.ref s3.heap.objs.size,v]) ht hT hg (by with_unfolding_all rfl)
def y6(xs:List V)(lo hi:Option Int):List V:=(xs.drop (HT.sIx xs.length 0 lo)).take (HT.sIx xs.length xs.length hi-HT.sIx xs.length 0 lo)
theorem MK(xs:List V)(lo hi:Option Int):(y6 xs lo hi).length<=xs.length:=by
 unfold y6
 rw[jD,jR]
 lia
def eZ(K:zh):V->Option Int->Option Int->Hp->VK->Prop:=λx lo hi H Q=>∃a xs,x= .ref a/\SqT K H a xs/\
 ¬(HT.sIx xs.length 0 lo=0/\HT.sIx xs.length xs.length hi=xs.length)/\∀p,H p=none->Q (.ref p) (upd H p (.tup (y6 xs lo hi)))
theorem sl_tup:SlR X (eZ X.K):=by
 intro pins s σ H x v vl vu lo hi sl Q I rx hs pl pu h
 obtain⟨a,xs,rfl,hx,hw,q⟩:=h
 cases rx
 obtain⟨its,r,ht,hz⟩:=I.tuple hx
 have hlen:its.toArray.size=xs.length:=by rw[zi];exact r.length.symm
 refine⟨"tuple",_,jF.lookup,ht.typeIs,?_⟩
 refine HT.getItem_tuple_cut ht hs pl pu (by rw[hlen];exact hw) ?_ (by rw[hlen];exact hz)
 rw[hlen]
 refine⟨.ref s.heap.objs.size,_,I.laid (t':=s.toks) (o:=.tup (y6 xs lo hi)) (λb ob q=>zd _ q) (zo _) ?_,rfl,q _ (I.hok.fresh (zo _))⟩
 exact⟨zI (MK xs lo hi) hz,_,(r.drop (HT.sIx xs.length 0 lo)).take (HT.sIx xs.length xs.length hi-HT.sIx xs.length 0 lo),E3.new _ _⟩
def dS(K:zh):R2:=λx y H Q=>∃a b xs ys,x= .ref a/\y= .ref b/\SqT K H a xs/\SqT K H b ys/\xs≠ []/\xs.length+ys.length<=zg/\
 (ys= []->Q (.ref a) H)/\(ys≠ []->∀p,H p=none->Q (.ref p) (upd H p (.tup (xs++ys))))
theorem J1.nil_iff(r:J1 xs us):us= []↔xs= []:=by
 cases r with
 |nil=>simp
 |cons _ _=>simp
theorem lT:OpR X (jL .Add) (dS X.K):=by
 intro pins s σ H x y v u Q I rx ry h
 obtain⟨a,b,xs,ys,rfl,rfl,ha,hb,hx,hz,q1,q2⟩:=h
 cases rx
 cases ry
 obtain⟨its,r1,p1,_⟩:=I.tuple ha
 obtain⟨its2,r2,p2,_⟩:=I.tuple hb
 refine HT.cat_tup p1 p2 (λz=>hx (r1.nil_iff.mp z)) (λz=>⟨.ref a,H,I,rfl,q1 (r2.nil_iff.mp z)⟩) (λz=>?_) (by rw[<-r1.length,<-r2.length];exact hz)
 refine⟨.ref s.heap.objs.size,_,I.laid (t':=s.toks) (o:=.tup (xs++ys)) (λb ob q=>zd _ q) (zo _) ?_,rfl,q2 (λw=>z (r2.nil_iff.mpr w)) _ (I.hok.fresh (zo _))⟩
 exact⟨by rw[zA];exact hz,_,r1.append r2,E3.new _ _⟩
end
def ixN(n:Nat)(i:Int):Option Nat:=if 0<=i then (if i<n then some i.toNat else none)else if -(n:Int)<=i then some (i+n).toNat else none
def atI{α:Type}(xs:List α)(i:Int):Option α:=(ixN xs.length i).bind λj=>xs[j]?
theorem OO(h:ixN n i=some j):seqIndex? i n=some j/\j<n/\ -(n:Int)<=i/\i<n:=by
 unfold ixN at h
 by_cases h0:0<=i
 · rw[if_pos h0]at h
   by_cases h1:i<n
   · rw[if_pos h1]at h
     have e:i.toNat=j:=jl h
     exact⟨by rw[seqIndex_of h0 h1,e],by lia,by lia,h1⟩
   ·rw[if_neg h1]at h;cases h
 · rw[if_neg h0]at h
   by_cases h1: -(n:Int)<=i
   · rw[if_pos h1]at h
     have e:(i+n).toNat=j:=jl h
     exact⟨by rw[seqIndex_neg (by lia) h1,e],by lia,h1,by lia⟩
   ·rw[if_neg h1]at h;cases h
theorem gH(h:atI xs i=some v):∃j,seqIndex? i xs.length=some j/\xs[j]? =some v/\j<xs.length/\ -(xs.length:Int)<=i/\i<xs.length:=by
 unfold atI at h
 cases e:ixN xs.length i with
 |none=>rw[e]at h;cases h
 |some j=>
   rw[e]at h
   obtain⟨h1,h2,h3,h4⟩:=OO e
   exact⟨j,h1,h,h2,h3,h4⟩
theorem atI_nat{xs:List α}{j:Nat}{v:α}(h:xs[j]? =some v):atI xs (j:Int)=some v:=by
 have hj:j<xs.length:=(zy.mp h).1
 have e:ixN xs.length (j:Int)=some j:=by
  unfold ixN
  rw[if_pos (by lia),if_pos (by lia)];simp
 unfold atI;rw[e];exact h
theorem atI_last(xs:List α)(v:α):atI (xs++[v]) (-1)=some v:=by
 have hl:(xs++[v]).length=xs.length+1:=by simp
 have e:ixN (xs++[v]).length (-1)=some xs.length:=by
  unfold ixN
  rw[hl,if_neg (by decide),if_pos (by lia)]
  congr 1
  lia
 unfold atI
 rw[e]
 show (xs++[v])[xs.length]? =some v
 simp
def pF(b:Expr):Prop:=∀o i,subscripted b false o i=operate [o,i] (Xm o i)
def IxR(X:Cx)(r:R2):Prop:=
 ∀(value slice:Expr) (pins:PNS) (s:zv) (σ:St) (H:Hp) (x y:V) (v u:zj) (Q:VK),Inv X pins σ H s->K4 x v->K4 y u->r x y H Q->
  subscripted slice false v u=operate [v,u] (Xm v u)->zC (zH X.prog X.w) X.A (subscriptTail value slice v u) (EP X pins σ Q) X.xe s
def MtR(X:Cx)(id:String)(r:V->List V->Hp->VK->Prop):Prop:=
 ∀(pins:PNS) (s:zv) (σ:St) (H:Hp) (x:V) (xs:List V) (v:zj) (us:List zj) (Q:VK),Inv X pins σ H s->K4 x v->J1 xs us->r x xs H Q->
  zC (zH X.prog X.w) X.A (call (.builtin id) (v::us)) (EP X pins σ Q) X.xe s
section
variable{X:Cx}
theorem IxR.or(h:IxR X r)(h':IxR X r'):IxR X (λx y H Q=>r x y H Q\/r' x y H Q):=by
 intro value slice pins s σ H x y v u Q I rx ry q hs
 rcases q with q|q
 ·exact h value slice pins s σ H x y v u Q I rx ry q hs
 ·exact h' value slice pins s σ H x y v u Q I rx ry q hs
theorem oS(hr:IxR X r)(ha:PE X a ta)(hb:PE X b tb)(hs:pF b):PE X (.Subscript a b pos) (tOp r ta tb):=by
 intro pins s σ H Q I h
 exact Subscript_ (OJ ha hb I h λv u s2 x y H2 I2 rx ry q=>hr a b pins s2 σ H2 x y v u Q I2 rx ry q (hs _ _))
def fO0(K:zh):R2:=λx y H Q=>∃p xs i v,x= .ref p/\y= .int i/\SqL K H p xs/\atI xs i=some v/\Q v H
def fN9(K:zh):R2:=λx y H Q=>∃p xs i v,x= .ref p/\y= .int i/\SqT K H p xs/\atI xs i=some v/\Q v H
def Gb:R2:=λx y H Q=>∃z i c,x= .str z/\y= .int i/\z.length<=zg/\atI z.cps.toList i=some c/\Q (.str ⟨#[c]⟩) H
theorem Km:IxR X (fO0 X.K):=by
 intro value slice pins s σ H x y v u Q I rx ry h hs
 obtain⟨p,xs,i,z,rfl,rfl,hq,he,q⟩:=h
 cases rx
 obtain⟨t,rfl⟩:=ry
 obtain⟨its,r,pl,hz⟩:=I.list hq
 obtain⟨j,h1,h2,h3,h4,h5⟩:=gH he
 obtain⟨w,ew,rw'⟩:=r.get h2
 have hl:=r.length
 have hn:=CA
 have fin:EP X pins σ Q w s:=⟨z,H,I,rw',q⟩
 by_cases h0:0<=i
 · have hj:i.toNat=j:=by
    rw[seqIndex_of h0 h5]at h1
    exact jl h1
   exact item_listR pl.isList h0 (by lia) (by rw[hj];simpa using ew) fin hs
 · have hj:(i+(its.toArray.size:Int)).toNat=j:=by
    rw[seqIndex_neg (by lia) h4]at h1
    rw[zi,<-hl]
    exact jl h1
   exact ZZ (x:=w) pl.isList.typeIs Xl.lookup
    (wpAny_getItem_list_neg (Q:=λr s'=>r=w/\EP X pins σ Q r s') pl.isList (by lia) (by rw[zi]<;>lia) (by lia) (by rw[hj];simpa using ew) ⟨rfl,fin⟩) hs
theorem ix_tup:IxR X (fN9 X.K):=by
 intro value slice pins s σ H x y v u Q I rx ry h hs
 obtain⟨p,xs,i,z,rfl,rfl,hq,he,q⟩:=h
 cases rx
 obtain⟨t,rfl⟩:=ry
 obtain⟨its,r,pl,hz⟩:=I.tuple hq
 obtain⟨j,h1,h2,h3,h4,h5⟩:=gH he
 obtain⟨w,ew,rw'⟩:=r.get h2
 have hl:=r.length
 have hn:=CA
 have fin:EP X pins σ Q w s:=⟨z,H,I,rw',q⟩
 exact ZZ (x:=w) pl.typeIs jF.lookup
  (getItem_tuple (j:=j) (Q:=λr s'=>r=w/\EP X pins σ Q r s') pl (by lia) (by lia) (by rw[zi,<-hl];exact h1) (by simpa using ew) ⟨rfl,fin⟩) hs
theorem Tv:IxR X Gb:=by
 intro value slice pins s σ H x y v u Q I rx ry h hs
 obtain⟨z,i,c,rfl,rfl,hz,he,q⟩:=h
 obtain⟨t,rfl⟩:=rx
 obtain⟨t',rfl⟩:=ry
 obtain⟨j,h1,h2,h3,h4,h5⟩:=gH he
 have hl:z.cps.toList.length=z.length:=by simp[Str.length]
 rw[hl]at h1 h4 h5
 have hn:=CA
 exact tail_any (YZ s z t) slot_str_getitem.lookup (getItem_str (c:=c) (by
  have e1:decide (i < -(2 ^ 63:Int))=false:=decide_eq_false (by lia)
  have e2:decide (i>=2 ^ 63)=false:=decide_eq_false (by lia)
  rw[e1,e2,Bool.or_false]) (by rw[h1];simpa using h2) ⟨.str ⟨#[c]⟩,H,I.tok _,⟨_,rfl⟩,q⟩) hs
theorem cS7(its:List zj)(n j:Nat)(u:zj):jg (·.setIfInBounds j u) {cls:=.type "list",data:=.seq its.toArray n}= {cls:=.type "list",data:=.seq (its.set j u).toArray n}:=by
 simp[jg]
theorem Inv.lst(I:Inv X pins σ H s)(h:H p=some (.lst xs)):
 ∃(its:List zj) (n:Nat),J1 xs its/\s.heap.get? p=some {cls:=.type "list",data:=.seq its.toArray n}/\xs.length<=zg:=by
 obtain⟨z,its,n,r,e⟩:=I.hok p _ h
 exact⟨its,n,r,e,z⟩
theorem Inv.lstUpd{σ:St}{H:Hp}{s:zv}{p:Addr}{xs ys:List V}{its its':List zj}{n n':Nat}{f:Obj->Obj}(I:Inv X pins σ H s)(h:H p=some (.lst xs))
 (ho:s.heap.get? p=some {cls:=.type "list",data:=.seq its.toArray n}) (hf:f {cls:=.type "list",data:=.seq its.toArray n}= {cls:=.type "list",data:=.seq its'.toArray n'}) (r:J1 ys its') (hz:ys.length<=zg) (t:Nat):
 Inv X pins σ (upd H p (.lst ys)) {s with heap:=s.heap.update p f,toks:=t}:=by
 have e:(s.heap.update p f).get? p=some {cls:=.type "list",data:=.seq its'.toArray n'}:=by
  rw[ZK f ho (by rw[hf]<;>rfl),hf]
 refine I.write (x:=p) (e:=p) (by rw[h];trivial) (.inl rfl) (λb u hb q=>(xr _ _ (Ne.symm hb)).trans q) ⟨_,e⟩ ?_
 exact⟨hz,its',n',r,e⟩
def Sw:V->V->V->Hp->(Hp->Prop)->Prop:=λo i v H Q=>∃p xs k j,o= .ref p/\i= .int k/\H p=some (.lst xs)/\ixN xs.length k=some j/\Q (upd H p (.lst (xs.set j v)))
theorem AU:iJ X Sw:=by
 intro pins s σ H o i v ov iv u Q I ro ri rv h
 obtain⟨p,xs,k,j,rfl,rfl,hp,hj,q⟩:=h
 cases ro
 obtain⟨t,rfl⟩:=ri
 obtain⟨its,n,r,ho,hz⟩:=I.lst hp
 obtain⟨h1,h2,h3,h4⟩:=OO hj
 have hl:=r.length
 have hn:=CA
 have I':Inv X pins σ (upd H p (.lst (xs.set j v))) {s with heap:=s.heap.update p (jg (·.setIfInBounds j u))}:=
  I.lstUpd hp ho (cS7 its n j u) (r.set rv j) (by rw[xS];exact hz) s.toks
 by_cases h0:0<=k
 · have hk:k.toNat=j:=by
    rw[seqIndex_of h0 h4]at h1
    exact jl h1
   exact PySem.W.ki_setAt ho h0 (by lia) (by rw[zi,<-hl];exact h4) (by rw[hk];exact⟨_,I',q⟩)
 · have hk:(k+(its.toArray.size:Int)).toNat=j:=by
    rw[seqIndex_neg (by lia) h3]at h1
    rw[zi,<-hl]
    exact jl h1
   exact PySem.W.ki_setBack ho (by lia) (by rw[zi,<-hl];exact h3) (by lia) (by rw[hk];exact⟨_,I',q⟩)
theorem OW(lo hi:Option Int)(n:Nat):(yP lo hi none n).1= ((HT.sIx n 0 lo:Nat):Int)/\(yP lo hi none n).2.1= ((HT.sIx n n hi:Nat):Int)/\(yP lo hi none n).2.2=1:=by
 refine⟨?_,?_,rfl⟩
 · cases lo with
   |none=>simp[yP,HT.sIx]
   |some i=>
     simp only[yP,HT.sIx,Option.getD_none,show (1:Int)>0 by decide,if_true]
     by_cases h:i<0
     ·simp only[h,if_true]<;>lia
     ·simp only[h,if_false]<;>lia
 · cases hi with
   |none=>simp[yP,HT.sIx]
   |some i=>
     simp only[yP,HT.sIx,Option.getD_none,show (1:Int)>0 by decide,if_true]
     by_cases h:i<0
     ·simp only[h,if_true]<;>lia
     ·simp only[h,if_false]<;>lia
theorem Gx(its:List zj)(lo hi:Option Int):XG its.toArray lo hi none= ((its.drop (HT.sIx its.length 0 lo)).take (HT.sIx its.length its.length hi-HT.sIx its.length 0 lo)).toArray:=by
 obtain⟨h1,h2,h3⟩:=OW lo hi its.toArray.size
 unfold XG
 rw[h1,h2,h3]
 simp only[sliceRange_one,pick_run,zi]<;>rfl
def DY(K:zh):V->Option Int->Option Int->Hp->VK->Prop:=λx lo hi H Q=>∃a xs,x= .ref a/\SqL K H a xs/\∀p,H p=none->Q (.ref p) (upd H p (.lst (y6 xs lo hi)))
theorem NU:SlR X (DY X.K):=by
 intro pins s σ H x v vl vu lo hi sl Q I rx hs pl pu h
 obtain⟨a,xs,rfl,hx,q⟩:=h
 cases rx
 obtain⟨its,r,ht,hz⟩:=I.list hx
 have hlen:=r.length
 refine⟨"list",_,Xl.lookup,ht.isList.typeIs,?_⟩
 refine JJ ht.isList hs pl pu .none (by simp) ?_ (by rw[zi]<;>lia)
 rw[Gx,<-hlen]
 refine⟨.ref s.heap.objs.size,_,I.laid (t':=s.toks) (o:=.lst (y6 xs lo hi)) (λb ob q=>zd _ q) (zo _) ?_,rfl,q _ (I.hok.fresh (zo _))⟩
 exact⟨zI (MK xs lo hi) hz,_,0,(r.drop (HT.sIx xs.length 0 lo)).take (HT.sIx xs.length xs.length hi-HT.sIx xs.length 0 lo),zw _ rfl⟩
def a8:V->Bool
 | .non=>true
 | .bl _=>true
 | .int _=>true
 | .str _=>true
 |_=>false
def eqV:V->V->Bool
 | .non,.non=>true
 | .bl a,.bl b=>a==b
 | .bl a,.int b=>(if a then 1 else 0)==b
 | .int a,.bl b=>a==(if b then 1 else 0)
 | .int a,.int b=>a==b
 | .str a,.str b=>a==b
 |_,_=>false
theorem Vw(ry:K4 y u)(rx:K4 x v)(fy:a8 y=true)(fx:a8 x=true):yC A s u v (eqV y x):=by
 cases y with
 |non=>
   cases ry
   cases x with
   |non=>cases rx;exact Yv _
   |bl b=>cases rx;exact Xt b
   |int b=>obtain⟨t,rfl⟩:=rx;exact XO b t
   |str b=>obtain⟨t,rfl⟩:=rx;exact XM b t
   |_=>exact absurd (show false=true from fx) ja
 |bl a=>
   cases ry
   cases x with
   |non=>cases rx;exact Xu a
   |bl b=>cases rx;exact Xv a b
   |int b=>obtain⟨t,rfl⟩:=rx;exact XT a b t
   |str b=>obtain⟨t,rfl⟩:=rx;exact XS a b t
   |_=>exact absurd (show false=true from fx) ja
 |int a=>
   obtain⟨t',rfl⟩:=ry
   cases x with
   |non=>cases rx;exact XQ a t'
   |bl b=>cases rx;exact XR a t' b
   |int b=>obtain⟨t,rfl⟩:=rx;exact XZ a t' b t
   |str b=>obtain⟨t,rfl⟩:=rx;exact ZJ a t' b t
   |_=>exact absurd (show false=true from fx) ja
 |str a=>
   obtain⟨t',rfl⟩:=ry
   cases x with
   |non=>cases rx;exact XJ a t'
   |bl b=>cases rx;exact XL a t' b
   |int b=>obtain⟨t,rfl⟩:=rx;exact ZI a t' b t
   |str b=>obtain⟨t,rfl⟩:=rx;exact XY a t' b t
   |_=>exact absurd (show false=true from fx) ja
 |_=>exact absurd (show false=true from fy) ja
def eqU(x:V)(u:zj):Bool:=match u with
 | .none=>eqV .non x
 | .bool b=>eqV (.bl b) x
 | .int i _=>eqV (.int i) x
 | .str z _=>eqV (.str z) x
 |_=>false
theorem bP(r:K4 y u)(f:a8 y=true):eqU x u=eqV y x:=by
 cases y with
 |non=>cases r;rfl
 |bl b=>cases r;rfl
 |int i=>obtain⟨t,rfl⟩:=r;rfl
 |str z=>obtain⟨t,rfl⟩:=r;rfl
 |_=>exact absurd (show false=true from f) ja
theorem mF(h:J1 xs us)(f:xs.all a8=true):us.any (eqU x)=xs.any λy=>eqV y x:=by
 induction h with
 |nil=>rfl
 |cons r t ih=>
   rw[jU,jt]at f
   rw[yb,yb,bP r f.1,ih f.2]
theorem gE(rx:K4 x v)(fx:a8 x=true):∀ {xs} {us},J1 xs us->xs.all a8=true->∀u∈us,yC A s u v (eqU x u)
 |_,_,.nil,_=>λu hu=>by cases hu
 |y::xs,u::us,.cons r t,f=>λu' hu=>by
   rw[jU,jt]at f
   rcases zp.mp hu with rfl|hu
   ·rw[bP r f.1];exact Vw r rx f.1 fx
   ·exact gE rx fx t f.2 u' hu
def inV(x:V)(xs:List V):Bool:=xs.any λy=>eqV y x
def rIn(K:zh)(neg:Bool):R2:=λx y H Q=>∃p xs,y= .ref p/\(SqL K H p xs\/SqT K H p xs)/\a8 x=true/\xs.all a8=true/\Q (.bl (if neg then !inV x xs else inV x xs)) H
theorem hW:OpR X (zT .In) (rIn X.K false):=by
 intro pins s σ H x y v u Q I rx ry h
 obtain⟨p,xs,rfl,hq,fx,fs,q⟩:=h
 cases ry
 rcases hq with hq|hq
 · obtain⟨its,r,pl,hz⟩:=I.list hq
   refine SeqAt.in_listAt (eqU x) pl.isList (λw hw=>gE rx fx r fs w (by simpa using hw)) ⟨.bl _,H,I,rfl,?_⟩
   rw[show its.toArray.any (eqU x)=its.any (eqU x) by simp,mF r fs]
   exact q
 · obtain⟨its,r,pl,hz⟩:=I.tuple hq
   refine SeqAt.in_tupleAt (eqU x) pl (λw hw=>gE rx fx r fs w (by simpa using hw)) ⟨.bl _,H,I,rfl,?_⟩
   rw[show its.toArray.any (eqU x)=its.any (eqU x) by simp,mF r fs]
   exact q
theorem QU:OpR X (zT .NotIn) (rIn X.K true):=by
 intro pins s σ H x y v u Q I rx ry h
 obtain⟨p,xs,rfl,hq,fx,fs,q⟩:=h
 cases ry
 rcases hq with hq|hq
 · obtain⟨its,r,pl,hz⟩:=I.list hq
   refine SeqAt.notIn_listAt (eqU x) pl.isList (λw hw=>gE rx fx r fs w (by simpa using hw)) ⟨.bl _,H,I,rfl,?_⟩
   rw[show its.toArray.any (eqU x)=its.any (eqU x) by simp,mF r fs]
   exact q
 · obtain⟨its,r,pl,hz⟩:=I.tuple hq
   refine SeqAt.notIn_tupleAt (eqU x) pl (λw hw=>gE rx fx r fs w (by simpa using hw)) ⟨.bl _,H,I,rfl,?_⟩
   rw[show its.toArray.any (eqU x)=its.any (eqU x) by simp,mF r fs]
   exact q
theorem Gf:OpR X (zT .NotIn) (λx y H Q=>∃i j,x= .str i/\y= .str j/\Q (.bl (!(!(jM j i 0 j.length 1).isEmpty))) H):=by
 intro pins s σ H x y v u Q I rx ry h
 obtain⟨i,j,rfl,rfl,q⟩:=h
 obtain⟨t,rfl⟩:=rx
 obtain⟨t',rfl⟩:=ry
 exact notIn_str ⟨.bl _,H,I,rfl,q⟩
theorem Hc:L1 X (.builtin "len") (λxs H Q=>∃p ys,xs= [.ref p]/\(SqL X.K H p ys\/SqT X.K H p ys)/\Q (.int ys.length) H):=by
 intro pins s σ H xs us Q I r h
 obtain⟨p,ys,rfl,hq,q⟩:=h
 obtain⟨u,rfl,rx⟩:=U1 r
 cases rx
 have hn:=CA
 rcases hq with hq|hq
 · obtain⟨its,r',pl,hz⟩:=I.list hq
   have hlen:=r'.length
   exact Calls.call_len_list pl.isList (by simp only[zi]<;>lia) ⟨.int ys.length,H,I.tok _,⟨s.toks+1,by rw[zi,hlen]⟩,q⟩
 · obtain⟨its,r',pl,hz⟩:=I.tuple hq
   have hlen:=r'.length
   exact len_tuple pl (by simp only[zi]<;>lia) ⟨.int ys.length,H,I.tok _,⟨s.toks+1,by rw[zi,hlen]⟩,q⟩
theorem Bk:L1 X (.builtin "len") (λxs H Q=>∃z,xs= [.str z]/\z.length<=zg/\Q (.int z.length) H):=by
 intro pins s σ H xs us Q I r h
 obtain⟨z,rfl,hz,q⟩:=h
 obtain⟨u,rfl,t,rfl⟩:=U1 r
 have hn:=CA
 exact len_str (by lia) ⟨.int z.length,H,I.tok _,⟨_,rfl⟩,q⟩
theorem L1.or(h:L1 X f r)(h':L1 X f r'):L1 X f (λxs H Q=>r xs H Q\/r' xs H Q):=by
 intro pins s σ H xs us Q I rs q
 rcases q with q|q
 ·exact h pins s σ H xs us Q I rs q
 ·exact h' pins s σ H xs us Q I rs q
theorem Vg:L1 X (.type "list") (λxs H Q=>∃p ys,xs= [.ref p]/\(SqL X.K H p ys\/SqT X.K H p ys)/\∀l,H l=none->Q (.ref l) (upd H l (.lst ys))):=by
 intro pins s σ H xs us Q I r h
 obtain⟨p,ys,rfl,hq,q⟩:=h
 obtain⟨u,rfl,rx⟩:=U1 r
 cases rx
 have fin:∀(its:List zj),J1 ys its->ys.length<=zg->∀(h':Heap) (c':Nat),(∀b o',s.heap.get? b=some o'->h'.get? b=some o')->
  h'.get? s.heap.objs.size=some {cls:=.type "list",dict:=none,data:=.seq its.toArray c',slots:= #[]}->EP X pins σ Q (.ref s.heap.objs.size) {s with heap:=h'}:=λits r' hz h' c' kp e=>
  ⟨.ref s.heap.objs.size,_,I.laid (t':=s.toks) kp (zo _) (show R0 X.prog X.w _ h' _ (.lst ys) from⟨hz,its,c',r',e⟩),rfl,q _ (I.hok.fresh (zo _))⟩
 rcases hq with hq|hq
 · obtain⟨its,r',pl,hz⟩:=I.list hq
   have hlen:=r'.length
   obtain⟨o,ho,hc,n,hd⟩:=pl.isList
   exact call_list_seq p (.inl rfl) ho hc hd (λh' c' kp e=>fin its r' hz h' c' kp e) (by simp only[zi]<;>lia)
 · obtain⟨its,r',pl,hz⟩:=I.tuple hq
   have hlen:=r'.length
   obtain⟨o,ho,hc,n,hd⟩:=pl
   exact call_list_seq p (.inr rfl) ho hc hd (λh' c' kp e=>fin its r' hz h' c' kp e) (by simp only[zi]<;>lia)
theorem BW:L1 X (.type "tuple") (λxs H Q=>∃p ys,xs= [.ref p]/\((SqL X.K H p ys/\∀l,H l=none->Q (.ref l) (upd H l (.tup ys)))\/(SqT X.K H p ys/\Q (.ref p) H))):=by
 intro pins s σ H xs us Q I r h
 obtain⟨p,ys,rfl,h⟩:=h
 obtain⟨u,rfl,rx⟩:=U1 r
 cases rx
 rcases h with⟨hq,q⟩|⟨hq,q⟩
 · obtain⟨its,r',pl,hz⟩:=I.list hq
   have hlen:=r'.length
   refine call_tuple_list pl.isList (λh' kp=>?_) (by simp only[zi]<;>lia)
   have I1:Inv X pins σ H {s with heap:=h'}:=I.kept (t':=s.toks) kp
   have I2:Inv X pins σ (upd H h'.objs.size (.tup ys)) {s with heap:=h'.push {cls:=.type "tuple",data:=.seq its.toArray}}:=
    I1.laid (t':=s.toks) (λb o e=>zd _ e) (zo _) (show R0 X.prog X.w _ _ _ (.tup ys) from⟨hz,its,r',E3.new _ _⟩)
   exact⟨.ref h'.objs.size,_,I2,rfl,q _ (I1.hok.fresh (zo _))⟩
 · obtain⟨its,r',pl,hz⟩:=I.tuple hq
   exact call_tuple_same pl ⟨.ref p,H,I,rfl,q⟩
def tyV(K:zh)(T:String)(x:V)(H:Hp):Prop:=match x with
 | .str _=>T= "str"
 | .int _=>T= "int"
 | .ref p=>(T= "list"/\∃xs,SqL K H p xs)\/(T= "tuple"/\∃o,K.lookup p=some o/\o.cls= .type "tuple"/\o.dict=none)\/
    (T= "dict"/\((∃kvs,H p=some (.dK kvs))\/∃kvs,H p=some (.dT kvs)))\/(T= "set"/\∃S n,H p=some (.set S n))
 |_=>False
theorem uL(I:Inv X pins σ H s)(r:K4 x v)(ty:tyV X.K T x H):
 s.TypeIs v T/\∀a,v= .ref a->∃ob,s.heap.get? a=some ob/\ob.dict=none:=by
 cases x with
 |str z=>
   obtain⟨t,rfl⟩:=r
   cases (show T= "str" from ty)
   exact⟨YZ s z t,λ_ e=>nomatch e⟩
 |int i=>
   obtain⟨t,rfl⟩:=r
   cases (show T= "int" from ty)
   exact⟨Xa s i t,λ_ e=>nomatch e⟩
 |ref p=>
   cases r
   rcases ty with⟨rfl,xs,hq⟩|⟨rfl,o,hk,hc,hd⟩|⟨rfl,hk⟩|⟨rfl,S,n,hk⟩
   · obtain⟨its,_,pl,_⟩:=I.list hq
     refine⟨pl.isList.typeIs,λa e=>?_⟩
     cases e
     obtain⟨o,n,e,c,hd,_⟩:=pl
     exact⟨o,e,hd⟩
   · refine⟨⟨o,I.kIn p o hk,hc⟩,λa e=>?_⟩
     cases e
     exact⟨o,I.kIn _ o hk,hd⟩
   · have z:∃o,s.heap.get? p=some o/\o.ExactDict:=by
      rcases hk with⟨kvs,hk⟩|⟨kvs,hk⟩
      · obtain⟨_,_,_,_,o,_,_,e,ex,_⟩:=I.hok p _ hk
        exact⟨o,e,ex⟩
      · obtain⟨_,_,_,_,o,_,_,e,ex,_⟩:=I.hok p _ hk
        exact⟨o,e,ex⟩
     obtain⟨o,e,ex⟩:=z
     refine⟨⟨o,e,ex.1⟩,λa e2=>?_⟩
     cases e2
     exact⟨o,e,ex.2.1⟩
   · obtain⟨o,_,_,_,e,ex,_⟩:=I.hok p _ hk
     refine⟨⟨o,e,ex.1⟩,λa e2=>?_⟩
     cases e2
     exact⟨o,e,ex.2.1⟩
 |_=>exact yL ty
def IS(K:zh)(T:String)(r:V->List V->Hp->VK->Prop)(to:TE):TE:=λσ H Q=>to σ H λx H1=>tyV K T x H1/\r x [] H1 Q
def tBM(K:zh)(T:String)(r:V->List V->Hp->VK->Prop)(to:TE)(t:TA):TE:=λσ H Q=>to σ H λx H1=>tyV K T x H1/\t σ H1 λxs H2=>r x xs H2 Q
variable{o e:Expr}{es:List Expr}{to:TE}{t:TA}{name:Str}{apos cpos:Pos}{T id:String}{r:V->List V->Hp->VK->Prop}
theorem Dm(pa:PlainAttrs T)(slot:Slot T name id)(hty:typeOf (.builtin id)=pure (.type "method_descriptor"))(hm:MtR X id r)(ho:PE X o to)
 (hbase:yY o name X.env (eval o X.env)=eval o X.env) (hline:(apos.endLine==cpos.line)=true):PE X (.Call (.Attribute o name apos) [] [] cpos) (IS X.K T r to):=by
 intro pins s σ H Q I h
 refine wpAny_Call_method0_late hbase hline (thn (ho pins s σ H _ I h) λv s1 ⟨x,H1,I1,r1,ty,q1⟩=>?_)
 obtain⟨h1,h2⟩:=uL I1 r1 ty
 exact⟨T,id,pa,slot,hty,h1,h2,Jf rfl (JA (hm pins s1 σ H1 x [] v [] Q I1 r1 .nil q1))⟩
theorem NQ(pa:PlainAttrs T)(slot:Slot T name id)(hty:typeOf (.builtin id)=pure (.type "method_descriptor"))(hm:MtR X id r)(ho:PE X o to)(ha:PA X (e::es) t)
 (hbase:yY o name X.env (eval o X.env)=eval o X.env)
 (hfew:((yS cpos (zP (e::es) X.env)).all (λx=> !x.1)&&(Jo cpos (Yy [] X.env)).all (λx=>x.1.isSome)
   && decide ((e::es).length+([]:List Keyword).length+(if ([]:List Keyword).isEmpty then 0 else 1)<30))=true)
 (hline:(apos.endLine==cpos.line)=true) (hs:zP (e::es) X.env= (false,eval e X.env)::zP es X.env) (hplain:(yS cpos (zP es X.env)).any (·.1)=false):
 PE X (.Call (.Attribute o name apos) (e::es) [] cpos) (tBM X.K T r to t):=by
 intro pins s σ H Q I h
 refine wpAny_Call_method_late hbase hfew hline rfl (thn (ho pins s σ H _ I h) λv s1 ⟨x,H1,I1,r1,ty,q1⟩=>?_)
 obtain⟨h1,h2⟩:=uL I1 r1 ty
 refine⟨T,id,pa,slot,hty,h1,h2,?_⟩
 have hA:=ha cpos pins s1 σ H1 _ I1 q1
 rw[hs]at hA ⊢
 refine Jf (by show (false||(yS cpos (zP es X.env)).any (·.1))=false;rw[hplain]<;>rfl) (Calls.evalArgs_plain ?_)
 exact thn hA λus s2 hE1=>hE1.elim λvs H2 I2 r2 q2=>hm pins s2 σ H2 x vs v us Q I2 r1 r2 q2
end
def MtM(X:Cx)(id:String)(r:V->List V->Hp->VK->Prop):Prop:=
 ∀(pins:PNS) (s:zv) (σ:St) (H:Hp) (x:V) (xs:List V) (v:zj) (us:List zj) (Q:VK),Inv X pins σ H s->K4 x v->J1 xs us->r x xs H Q->
  zC (zH X.prog X.w) X.A (call (.builtin id) (v::us)) (EP X pins σ Q) X.xe s
theorem J1.one(h:J1 [x] us):∃u,us= [u]/\K4 x u:=by
 cases h with
 |cons r t=>cases t;exact⟨_,rfl,r⟩
theorem J1.zero:∀ {us},J1 [] us->us= []
 |_,.nil=>rfl
theorem J1.dropLast(h:J1 xs us):J1 xs.dropLast us.dropLast:=by
 induction h with
 |nil=>exact .nil
 |cons r t ih=>
   cases t with
   |nil=>exact .nil
   |cons q t'=>exact .cons r ih
theorem J1.reverse(h:J1 xs us):J1 xs.reverse us.reverse:=by
 induction h with
 |nil=>exact .nil
 |cons r t ih=>rw[YG,YG];exact J1.append ih (.cons r .nil)
theorem J1.rep(h:J1 xs us):∀k:Nat,J1 (zm k xs).flatten (zm k us).flatten
 |0=>.nil
 |k+1=>by
   rw[jB,jB,yg,yg]
   exact J1.append h (J1.rep h k)
theorem Cq(l:List α):l.eraseIdx (l.length-1)=l.dropLast:=by
 induction l with
 |nil=>rfl
 |cons a r ih=>
   cases r with
   |nil=>rfl
   |cons b r=>
     have e:(a::b::r).length-1= ((b::r).length-1)+1:=by
      have h1:(a::b::r).length=r.length+2:=rfl
      have h2:(b::r).length=r.length+1:=rfl
      lia
     rw[e,List.eraseIdx_cons_succ,ih]
     all_goals rfl
theorem vJ(its:List zj):∀k acc,
 Zz (λx1 x2=>x1++x2) acc.toArray (zm k its.toArray)= (acc++(zm k its).flatten).toArray
 |0,acc=>by simp
 |k+1,acc=>by
   have e:acc.toArray++its.toArray= (acc++its).toArray:=by simp
   have e2:(acc++its)++(zm k its).flatten=acc++(zm (k+1) its).flatten:=by
    rw[jB,yg,xA]
   rw[<-e2,<-vJ its k (acc++its),<-e,jB,Xj]
section
theorem Inv.lset{its its':List zj}{n:Nat}{t':Nat}(I:Inv X pins σ H s)(hH:H l=some (.lst xs))
 (e:s.heap.get? l=some {cls:=.type "list",data:=.seq its.toArray n}) (hf:f its.toArray=its'.toArray) (hv:J1 ys its') (hz:ys.length<=zg):
 Inv X pins σ (upd H l (.lst ys)) {s with heap:=s.heap.update l (jg f),toks:=t'}:=by
 have q:=PySem.IsL.update e f
 rw[hf]at q
 refine I.write (x:=l) (e:=l) (by rw[hH];exact trivial) (.inl rfl) (λb' u hb hu=>(xr s.heap (jg f) (Ne.symm hb)).trans hu) ⟨_,q⟩ ?_
 exact⟨hz,its',_,hv,q⟩
theorem Inv.lnew(I:Inv X pins σ H s)(hv:J1 ys its)(hz:ys.length<=zg):
 Inv X pins σ (upd H s.heap.objs.size (.lst ys)) {s with heap:=s.heap.push {cls:=.type "list",data:=.seq its.toArray},toks:=t'}:=
 I.laid (λ_ _ q=>zd _ q) (zo _) ⟨hz,its,0,hv,zw _ rfl⟩
theorem Inv.fresh(I:Inv X pins σ H s):H s.heap.objs.size=none:=I.hok.fresh (zo _)
theorem Inv.lstM(I:Inv X pins σ H s)(hH:H l=some (.lst xs)):xs.length<=zg/\∃(its:List zj) (n:Nat),J1 xs its/\xs.length=its.length/\s.heap.get? l=some {cls:=.type "list",data:=.seq its.toArray n}:=by
 obtain⟨z,its,n,r,e⟩:=I.hok l _ hH
 exact⟨z,its,n,r,r.length,e⟩
theorem wQ(h:n<=zg):yW n=false:=by
 unfold yW
 exact decide_eq_false (by lia)
end
section
def RW:V->List V->Hp->VK->Prop:=λx vs H Q=>∃l xs y,x= .ref l/\vs= [y]/\H l=some (.lst xs)/\xs.length<zg/\Q .non (upd H l (.lst (xs++[y])))
theorem OP:MtM X "list.append" RW:=by
 intro pins s σ H x vs v us Q I rx rv h
 obtain⟨l,xs,y,rfl,rfl,hH,hz,q⟩:=h
 cases rx
 obtain⟨u,rfl,ru⟩:=rv.one
 obtain⟨z,its,n,r,hl,e⟩:=I.lstM hH
 refine xD Jq ⟨_,e,rfl⟩ F.entry_list_append (F.args_list_append_2 _ _) (PySem.list_append l its.toArray n u (by rw[zi];lia)) ⟨e,?_⟩
 refine⟨.non,_,I.lset (its':=its++[u]) hH e (by simp) (r.append (.cons ru .nil)) ?_,rfl,q⟩
 rw[zA,jc]
 lia
def vz:V->List V->Hp->VK->Prop:=λx vs H Q=>∃l b xs zs,x= .ref l/\vs= [.ref b]/\H l=some (.lst xs)/\H b=some (.lst zs)/\xs.length+zs.length<=zg/\Q .non (upd H l (.lst (xs++zs)))
theorem DU:MtM X "list.extend" vz:=by
 intro pins s σ H x vs v us Q I rx rv h
 obtain⟨l,b,xs,zs,rfl,rfl,hH,hB,hz,q⟩:=h
 cases rx
 obtain⟨u,rfl,ru⟩:=rv.one
 cases ru
 obtain⟨z,its,n,r,hl,e⟩:=I.lstM hH
 obtain⟨z2,its2,n2,r2,hl2,e2⟩:=I.lstM hB
 have hsz:its.toArray.size+its2.toArray.size<=zg:=by rw[zi,zi];lia
 have hlong:¬(!its.toArray.isEmpty&&yW (its.toArray.size+its2.toArray.size))=true:=by
  rw[wQ hsz,Bool.and_false]
  exact ja
 refine xD Jp ⟨_,e,rfl⟩ F.entry_list_extend (F.args_list_extend_2 _ _)
  (AutoSeq1.list_extend_list_list_0 l its.toArray n b its2.toArray n2 hlong (by rw[zi];lia) (by lia)) ⟨e,e2,?_⟩
 refine⟨.non,_,I.lset (its':=its++its2) hH e (by simp) (r.append r2) ?_,rfl,q⟩
 rw[zA]
 lia
def fL1:V->List V->Hp->VK->Prop:=λx vs H Q=>∃l xs y,x= .ref l/\vs= []/\H l=some (.lst xs)/\xs[xs.length-1]? =some y/\Q y (upd H l (.lst xs.dropLast))
theorem lR:MtM X "list.pop" fL1:=by
 intro pins s σ H x vs v us Q I rx rv h
 obtain⟨l,xs,y,rfl,rfl,hH,hy,q⟩:=h
 cases rx
 have hus:=rv.zero
 subst hus
 obtain⟨z,its,n,r,hl,e⟩:=I.lstM hH
 obtain⟨u,hu,ru⟩:=r.get hy
 have hy':its.toArray[its.toArray.size-1]? =some u:=by
  show its.toArray[its.length-1]? =some u
  rw[<-yr,<-hl]
  exact hu
 refine xD F.slot_list_pop ⟨_,e,rfl⟩ F.entry_list_pop (F.args_list_pop_1 _) (MeetsSeq.list_pop_last l its.toArray n u hy' (by rw[zi];lia)) ⟨e,?_⟩
 refine⟨y,_,I.lset (its':=its.dropLast) hH e ?_ r.dropLast ?_,ru,q⟩
 · show its.toArray.eraseIdxIfInBounds (its.toArray.size-1)=its.dropLast.toArray
   rw[zi,List.eraseIdxIfInBounds_toArray,Cq]
 · rw[List.length_dropLast]
   lia
def mW:R2:=λx y H Q=>∃l b xs zs,x= .ref l/\y= .ref b/\H l=some (.lst xs)/\H b=some (.lst zs)/\xs.length+zs.length<=zg/\∀p,H p=none->Q (.ref p) (upd H p (.lst (xs++zs)))
theorem AT:OpR X (jL .Add) mW:=by
 intro pins s σ H x y v u Q I rx ry h
 obtain⟨l,b,xs,zs,rfl,rfl,hH,hB,hz,q⟩:=h
 cases rx
 cases ry
 obtain⟨z,its,n,r,hl,e⟩:=I.lstM hH
 obtain⟨z2,its2,n2,r2,hl2,e2⟩:=I.lstM hB
 refine PySem.P.add_list e e2 ?_ (by rw[zi,zi];lia)
 have ea:its.toArray++its2.toArray= (its++its2).toArray:=by simp
 rw[ea]
 exact⟨.ref _,_,I.lnew (t':=s.toks) (r.append r2) (by rw[zA];lia),rfl,q _ I.fresh⟩
def AR:R2:=λx y H Q=>∃l k xs,x= .ref l/\y= .int k/\H l=some (.lst xs)/\ -(2 ^ 63)<=k/\k<2 ^ 63/\xs.length*k.toNat<=zg/\
 ∀p,H p=none->Q (.ref p) (upd H p (.lst (zm k.toNat xs).flatten))
theorem vL(xs:List α)(k:Nat):(zm k xs).flatten.length=k*xs.length:=by
 induction k with
 |zero=>simp
 |succ k ih=>rw[jB,yg,zA,ih,Nat.succ_mul,Nat.add_comm]
theorem qU:OpR X (jL .Mult) AR:=by
 intro pins s σ H x y v u Q I rx ry h
 obtain⟨l,k,xs,rfl,rfl,hH,h1,h2,hz,q⟩:=h
 cases rx
 obtain⟨t,rfl⟩:=ry
 obtain⟨z,its,n,r,hl,e⟩:=I.lstM hH
 have hlen:its.toArray.size*k.toNat<=zg:=by rw[zi,<-hl];exact hz
 have hcap:¬its.toArray.size*k.toNat>(2 ^ 63-1) / 8:=by
  have:(zg:Nat)<=(2 ^ 63-1) / 8:=by decide
  lia
 have hfit:¬(!Builtin.List.listFitsIndex k)=true:=by
  rw[fitsIndex_both h1 h2]
  exact ja
 have hlong:¬yW (its.toArray.size*k.toNat)=true:=by
  rw[wQ hlen]
  exact ja
 have hnew:Zz (λx1 x2=>x1++x2) #[] (zm (if its.toArray.isEmpty=true then 0 else k.toNat) its.toArray)= (zm k.toNat its).flatten.toArray:=by
  have f0:∀m:Nat,Zz (λx1 x2=>x1++x2) #[] (zm m its.toArray)= (zm m its).flatten.toArray:=λm=>by
   have:=vJ its m []
   rw[xR]at this
   exact this
  rw[f0]
  cases its with
  |nil=>simp
  |cons a r'=>rw[if_neg (by simp)]
 refine Jz (T:= "list") (U:= "int") (by decide) ⟨_,e,rfl⟩ (λs'=>Xa s' k t) noFill_list_mul F.fills_int_mul ZP repeat_list F.slot_int_index.lookup
  (xD ZP (Xa s k t) F.entry_int_rmul (F.args_int_rmul_2 _ _) (int___rmul___int_list k t l its.toArray n)
    ⟨e,rfl,⟨_,e,rfl⟩,xD F.slot_list_mul ⟨_,e,rfl⟩ F.entry_list_mul (F.args_list_mul_2 _ _) (AutoListH.list___mul___list_int_3 l its.toArray n k t hfit hcap hlong) ⟨e,?_⟩⟩)
 rw[hnew]
 exact⟨.ref _,_,I.lnew (t':=s.toks) (r.rep k.toNat) (by rw[vL,Ju];exact hz),rfl,q _ I.fresh⟩
end
section
end
section
end
end L2
namespace Att
open PySem PySem.W PySem.Calls PyProof.Rows
theorem wk:∀ns vs,WellAll P h vs (ns.map WData.int)->IntsAre vs ns:=by
 intro ns
 induction ns with
 |nil=>
   intro vs w
   rw[xX]at w
   cases w
   exact .nil
 |cons n ns ih=>
   intro vs w
   rw[zL]at w
   cases w with
   |cons a b=>
     cases a
     exact .cons _ _ (ih _ b)
theorem uR{l:OpenLaw}{n:Nat}(hn:l.most=some n){P:Params}{h:Heap}
 (hpre:l.row.toRowW.claim.pre args=true) (hwl:WellAll P h vals args):
 ∃a vs ns,vals= [Value.ref a]/\args= [WData.list (ns.map WData.int)]/\h.get? a=some {cls:=.type "list",data:=.seq vs.toArray}/\IntsAre vs ns/\ns.length<=n:=by
 have hsh:WShape.hasAll [] args [.list .int]=true:=(pre_splitW hpre).1
 have hc:l.pre.holds [] {args:=args}=true:=(pre_splitW hpre).2
 obtain⟨d,r,rfl,h1,h2⟩:=hasAllW_cons hsh
 obtain rfl:=hasAllW_nil h2
 obtain⟨xs,rfl,h3⟩:=hasW_list h1
 obtain⟨ns,rfl⟩:=items_int h3
 have hlen:ns.length<=n:=by
  unfold OpenLaw.pre at hc
  have h4:(WTm.not (.lt (.lit (.int (n:Int))) (.len (.arg 0)))).holds [] {args:= [.list (ns.map .int)]}=true:=by
   have h4:=(holds_andW hc).1
   rw[hn]at h4
   exact h4
  have h5:=condW_of h4 (w_not (w_lt w_lit (w_len_list (w_arg rfl))))
  rw[zc]at h5
  refine Nat.le_of_not_lt λq=>?_
  have q':(n:Int)<((ns.length:Nat):Int):=by lia
  first
   |(rw[decide_eq_true q']at h5;exact absurd h5 (by decide))
   |(simp at h5;lia)
 cases hwl with
 |cons w1 w2=>
   cases w2
   cases w1 with
   |list ho hall=>exact⟨_,_,ns,rfl,rfl,ho,wk ns _ hall,hlen⟩
theorem wR(l:OpenLaw)(args:List WData):l.row.toRowW.claim.post args (.bool true) args=true:=
 postW_of (r:=l.row.toRowW) (X:=(true==true))
  (show WShape.has [] (.bool true) .bool=true by first|rfl|decide|simp[WShape.has,WShape.arms,WShape.armsAll])
  (show (WTm.eq .res (.lit (.bool true))).value [] {args:=args,res:=some (.bool true),after:=args}=some (.bool (true==true))from w_eq_bool (w_res rfl) w_lit) rfl
theorem attach_call{l:OpenLaw}{n:Nat}{q:zW}{loose:List Str}{d:DefRec}
 (hn:l.most=some n) (hdf:d.params.defaults= [])
 (call:∀(w:jk) (WX X0:zv) (mg mb:Str->Option zj) (fa:Addr) (o:Obj) (pm cd doc:zj) (a:Addr) (vs:List zj) (ns:List Int),
   Ground q loose [] XP w WX mg mb X0.heap->YP w X0.heap->
   X0.heap.get? fa=some o->o.data= .func (docDef d.name d.params d.body d.scope pm cd doc)->X0.heap.CodeRec cd d.name->mg d.name=some (.ref fa)->
   X0.heap.get? a=some {cls:=.type "list",data:=.seq vs.toArray}->IntsAre vs ns->ns.length<=n->X0.gens= #[]->
   Zw (zH l.prog w) YD (.call (.ref fa) ⟨[.ref a], []⟩) (λr s'=>r= .ok (.ret (.bool true))/\OldK X0.heap s'.heap/\s'.os=X0.os/\YF s'.gens) X0):
 WalkO q loose XP YP l.row.toRowW d [] (λf vs=>JM f vs):=by
 intro w WX X0 mg mb G Y fa o pm cd doc dV kV ho hd hcd hD hmg hg args vals as hpre hlay hrd hwl hlo
 obtain rfl:dV= .none:=Dflts.none hD hdf
 obtain rfl:kV= .none:=Dflts.noKw hD
 obtain⟨a,vs,ns,rfl,rfl,hobj,hints,hlen⟩:=uR hn hpre hwl
 refine enter_call (codeAny_mono (call w WX X0 mg mb fa o pm cd doc a vs ns G Y ho (fd_plain hd) hcd hmg hobj hints hlen hg) λr s' hq=>?_)
 obtain⟨rfl,h2,h3,h4⟩:=hq
 exact⟨.inl ⟨.bool true,.bool true, [],rfl,λ_=>rfl,.bool true,wR l _,λ_=>⟨List.Pairwise.nil,λ_ hm=>(nomatch hm)⟩⟩,h2,h3,h4⟩
section
variable{prog:zW}{w:jk}{A:jA}{s:zv}{K:Frag}
end
end Att
namespace L2
open PySem PySem.Spec PyProof.Rows
theorem qQ:∀ {vs} {ns},IntsAre vs ns->J1 (ns.map V.int) vs
 |_,_,.nil=>.nil
 |_,_,.cons n t h=>.cons ⟨t,rfl⟩ (qQ h)
def UG(H:Hp):Prop:=∀b,H b=none\/∃o xs,H b=some (.frz o (.lst xs))
theorem qc{P:zW}{w:jk}{K:zh}{CX:CXT}{k:Nat}{fa a:Addr}{fd:xi}{x:Str}{sp:Sp}{X0:zv}{vs:List zj}{ns:List Int}
 (KX:K.In X0.heap) (hns:X0.heap.Ns jv mg) (hb:X0.heap.Ns builtinsNs mb) (hbb:∀x:Str,x≠ "__name__"->mb x=zV x) (hlim:X0.heap.NoLimit) (hg:X0.gens= #[])
 (ha:X0.heap.get? a=some {cls:=.type "list",data:=.seq vs.toArray}) (hi:IntsAre vs ns) (hl:ns.length<=zg) (hr:U4 k YD)
 (F:∀base:Heap,K.In base->base.Ns jv mg->M0 P w K mg base CX k fa fd [x] sp) (hbind:∀(s:zv) (u:zj),ZY s fd ⟨[u], []⟩ [(x,u)])
 (hsp:∀H:Hp,UG H->SqL K H a (ns.map V.int)->sp [.ref a] H (λv _=>v= .bl true) λ_ _ _=>False)
 (hCX:∀H e s',CX [] H X0 (λ_ _ _=>False) e s'->False):
 Zw (zH P w) YD (.call (.ref fa) ⟨[.ref a], []⟩) (λr s'=>r= .ok (.ret (.bool true))/\OldK X0.heap s'.heap/\s'.os=X0.os/\YF s'.gens) X0:=by
 have rv:=qQ hi
 have lenV:=hi.length
 -- from an abstract heap in which nothing but the script may be tracked
 have core:∀H:Hp,UG H->SqL K H a (ns.map V.int)->HOk P w H X0.heap->(∀b,H b≠none->b=a)->(H a≠none->K.lookup a=none)->
  Zw (zH P w) YD (.call (.ref fa) ⟨[.ref a], []⟩) (λr s'=>r= .ok (.ret (.bool true))/\OldK X0.heap s'.heap/\s'.os=X0.os/\YF s'.gens) X0:=by
  intro H hO hS hok hA hK
  have base_of:∀ {b:Addr} {o:Obj},X0.heap.get? b=some o->H b=none->(L8 X0.heap H).get? b=some o:=λe n=>eX e n
  have noA:∀ {b:Addr} {o:Obj} {es:Array DictEntry} {ep:Nat},X0.heap.get? b=some o->o.data= .dict es ep->H b=none:=λ{b o es ep} e d=>by
   cases q:H b with
   |none=>rfl
   |some u=>
     have e':b=a:=hA b (by rw[q];simp)
     subst e'
     rw[ha]at e;cases e
     have d':Data.seq vs.toArray _=Data.dict es ep:=d
     cases d'
  have nsK:∀ {b:Addr} {m:Str->Option zj},X0.heap.Ns b m->(L8 X0.heap H).Ns b m:=λ{b m} ⟨o,es,ep,e,d,r⟩=>⟨o,es,ep,base_of e (noA e d),d,r⟩
  have hKb:K.In (L8 X0.heap H):=λb o e=>base_of (KX b o e) (by
   cases q:H b with
   |none=>rfl
   |some u=>
     have e':b=a:=hA b (by rw[q];simp)
     subst e'
     rw[hK (by rw[q];simp)]at e;cases e)
  have hM:Mod K mg (L8 X0.heap H):=⟨hKb,nsK hns,⟨mb,nsK hb,hbb⟩,let ⟨mc,h1,h2⟩:=hlim;⟨mc,nsK h1,h2⟩⟩
  have e0:fF P w K mg (L8 X0.heap H) YD [] X0 H:=⟨rfl,hM,λb o e=>tS e,xG (Kh _ _),trivial,λb hb=>absurd (show b∈([]:List Addr)from hb) (by simp),hok,.of_eq hg⟩
  refine codeAny_mono ((F _ hKb (nsK hns)).run YD [] X0 H ⟨[.ref a], []⟩ [.ref a] [.ref a] _ _ hr e0 (hbind X0 (.ref a)) (.cons rfl .nil) (hsp H hO hS)) λr s' h=>?_
  cases r with
  |error e=>exact(hCX H e s' h).elim
  |ok fl=>
    cases fl with
    |next=>exact yL h
    |brk=>exact yL h
    |cont=>exact yL h
    |ret u=>
      obtain⟨v,H',os,bare,un,hok',r',q⟩:=h
      have q':v= .bl true:=q
      subst q'
      obtain rfl:u=Value.bool true:=r'
      refine⟨rfl,OldK.of_keep λb o e=>?_,os,bare⟩
      cases q:H b with
      |none=>exact un.keep b o e q (by intro z;exact absurd (show b∈([]:List Addr)from z) (by simp)) (by simp)
      |some u=>
        rcases hO b with z|⟨ob,xs,z⟩
        ·rw[q]at z;cases z
        · have z2:=un.frzs b ob _ z
          obtain⟨e1,_⟩:=hok b _ z
          obtain⟨e2,_⟩:=hok' b _ z2
          rw[e]at e1;cases e1
          exact e2
 cases hk:K.lookup a with
 |some o=>
   -- the script is one of the module's own objects
   have e:=KX a o hk
   rw[ha]at e
   cases e
   refine core (λ_=>none) (λ_=>.inl rfl) (.inr ⟨_,vs.toArray,_,hk,rfl,rfl,rfl,by rw[zi,lenV];exact hl,by simpa using rv⟩) (λb u z=>by have z':(none:Option HO)=some u:=z;cases z') (λb z=>absurd rfl z) λz=>absurd rfl z
 |none=>
   refine core (λb=>if b=a then some (.frz {cls:=.type "list",data:=.seq vs.toArray} (.lst (ns.map V.int)))else none) (λb=>?_) (.inl (.inr ⟨{cls:=.type "list",data:=.seq vs.toArray},if_pos rfl⟩)) (λb u z=>?_) (λb z=>?_) λ_=>hk
   · by_cases hb:b=a
     ·exact .inr ⟨_,_,if_pos hb⟩
     ·exact .inl (if_neg hb)
   · by_cases hb:b=a
     · have z':=(if_pos hb).symm.trans z
       cases z'
       subst hb
       exact⟨ha,by rw[zc];exact hl,vs,_,rv,ha⟩
     · have z':=(if_neg hb).symm.trans z
       cases z'
   · by_cases hb:b=a
     ·exact hb
     ·exact absurd (if_neg hb) z
theorem walk_of{l:PySem.W.OpenLaw}{n k:Nat}{q:zW}{loose:List Str}{YP:jk->Heap->Prop}{d:DefRec}{K:Params->zh}{CX:jk->CXT}{sp:jk->Sp}{x:Str}
 (hn:l.most=some n) (hn2:n<=zg) (hdf:d.params.defaults= []) (hr:U4 k YD)
 (hY:∀(w:jk) (h:Heap),YP w h->(K w.params).In h)
 (F:∀(w:jk) (mg:Str->Option zj) (fa:Addr) (h:Heap),(K w.params).In h->h.Ns jv mg->mg d.name=some (.ref fa)->
   ∃fd:xi,(∀(s:zv) (u:zj),ZY s fd ⟨[u], []⟩ [(x,u)])/\
    ∀base:Heap,(K w.params).In base->base.Ns jv mg->M0 l.prog w (K w.params) mg base (CX w) k fa fd [x] (sp w))
 (hsp:∀(w:jk) (H:Hp) (a:Addr) (ns:List Int),ns.length<=n->UG H->SqL (K w.params) H a (ns.map V.int)->sp w [.ref a] H (λv _=>v= .bl true) λ_ _ _=>False)
 (hCX:∀(w:jk) (H:Hp) (s:zv) (e:zj) (s':zv),CX w [] H s (λ_ _ _=>False) e s'->False):
 PySem.W.WalkO q loose XP YP l.row.toRowW d [] (λf vs=>JM f vs):=by
 refine Att.attach_call hn hdf λw WX X0 mg mb fa o pm cd doc a vs ns G Y ho hd hcd hmg hobj hints hlen hg=>?_
 have KX:=hY w _ Y
 obtain⟨fd,hb,hF⟩:=F w mg fa _ KX G.T.g hmg
 exact qc KX G.T.g G.T.b G.T.builtins G.T.nolimit hg hobj hints (zI hlen hn2) hr hF hb (λH hO hS=>hsp w H a ns hlen hO hS) λH e s'=>hCX w H X0 e s'
def i9(s:Stmt):Arguments:=match s with
 | .FunctionDef _ a _ _ _ _ _ _ _ _=>a
 |_=>{posonlyargs:= [],args:= [],vararg:=none,kwonlyargs:= [],kw_defaults:= [],kwarg:=none,defaults:= []}
def N4(s:Stmt):List Stmt:=match s with
 | .FunctionDef _ _ b _ _ _ _ _ _ _=>b
 |_=> []
def M5(s:Stmt):Scope:=match s with
 | .FunctionDef _ _ _ _ _ _ sc _ _ _=>sc
 |_=>{kind:=.function,names:= [],isGenerator:=false,isCoroutine:=false}
abbrev CX0:CXT:=λ_ _ _ _ _ _=>False
abbrev E0:XK:=λ_ _ _=>False
theorem RD:rG CX0 X E0:=λ_ _ _ _ _ _ _ h=>h.elim
structure Fun(K:zh)(x qual:Str)(st:Stmt)(f:Addr)(fd:xi):Prop where
 ex:∃(oc:zj) (od:Option Addr) (kV doc pm:zj) (an:Option Addr) (cdv ct:zj) (osl:Array (Option zj)),
  fd=yh x qual (i9 st) (N4 st) (M5 st) .none kV doc pm an cdv ct/\K.lookup f=some ⟨oc,od,.func fd,osl⟩/\xU K cdv qual=true
 kp:ya K (.ref f)=true
section
variable{P:zW}{w:jk}{K:zh}{mg:Str->Option zj}{base:Heap}
theorem Fun.ok{x qual:Str}{st:Stmt}{f:Addr}{k:Nat}{sp:Sp}(F:Fun K x qual st f fd)(S:x5 N ps (M5 st))(len:∀vs H Q E,sp vs H Q E->vs.length=ps.length)
 (hbody:∀(cdv:zj) (A:jA) (outer:List Env) (s:zv) (H:Hp) (vs:List V) (Q:VK) (E:XK),U4 k (A.deeper (ZD qual (M5 st) s.heap.objs.size f cdv))->sp vs H Q E->
   ∃t,PSs (l7 CX0 P w K mg base N qual (M5 st) f cdv A outer s H E).nox (N4 st) t/\t {nx:=λ_ H'=>Q .non H',rt:=Q} (start N vs) H):M0 P w K mg base CX0 (k+1) f fd ps sp:=by
 obtain⟨oc,od,kV,doc,pm,an,cdv,ct,osl,rfl,lk,hcd⟩:=F.ex
 refine mS lk hcd S len λA outer s H vs Q E hr hsp=>?_
 obtain⟨t,h,q⟩:=hbody cdv A outer s H vs Q E hr hsp
 exact⟨t,h.nox,q⟩
theorem Fun.binds{x qual:Str}{st:Stmt}{f:Addr}(F:Fun K x qual st f fd)
 (h:∀(kV doc pm:zj) (an:Option Addr) (cdv ct:zj) (us:List zj),us.length=ps.length->bindArgs (yh x qual (i9 st) (N4 st) (M5 st) .none kV doc pm an cdv ct) ⟨us, []⟩=pure (ps.zip us)):n4 K fd ps []:=by
 obtain⟨oc,od,kV,doc,pm,an,cdv,ct,osl,rfl,lk,hcd⟩:=F.ex
 exact .all (h kV doc pm an cdv ct)
theorem WG{x qual:Str}{st:Stmt}{f:Addr}{oc:zj}{od an:Option Addr}{kV doc pm cdv ct:zj}(l:K.lookup f=some ⟨oc,od,.func (yh x qual (i9 st) (N4 st) (M5 st) .none kV doc pm an cdv ct),osl⟩)
 (c:xU K cdv qual=true) (k:ya K (.ref f)=true):Fun K x qual st f (yh x qual (i9 st) (N4 st) (M5 st) .none kV doc pm an cdv ct):=⟨⟨oc,od,kV,doc,pm,an,cdv,ct,osl,rfl,l,c⟩,k⟩
end
section
end
section
variable[DecidableEq κ]
def Q2(kvs:List (κ×V))(k:κ):Option V:=(kvs.find? λkv=>decide (kv.1=k)).map (·.2)
def C2(kvs:List (κ×V))(k:κ)(v:V):List (κ×V):=
 if (kvs.any λkv=>decide (kv.1=k))=true then kvs.map (λkv=>if kv.1=k then (kv.1,v)else kv)else kvs++[(k,v)]
theorem bH{k:κ}(e:p.1=k):Q2 (p::r) k=some p.2:=by simp[Q2,xk,e]
theorem GE{k:κ}(e:¬p.1=k):Q2 (p::r) k=Q2 r k:=by simp[Q2,xk,e]
theorem PN(k:κ):∀kvs:List (κ×V),(kvs.any λkv=>decide (kv.1=k))= (Q2 kvs k).isSome
 |[]=>rfl
 |p::r=>by
   rw[yb]
   by_cases e:p.1=k
   ·simp only[bH e,decide_eq_true e,Bool.true_or,Option.isSome_some]
   ·rw[GE e,decide_eq_false e,Bool.false_or];exact PN k r
theorem UQ(kvs:List (κ×V))(k:κ)(v:V):(C2 kvs k v).length<=kvs.length+1:=by
 unfold C2
 split
 ·rw[zc];lia
 ·rw[zA,zM,yy];lia
theorem B8.isSome_eq(r:B8 o u):o.isSome=u.isSome:=by
 cases o with
 |none=>cases u with
   |none=>rfl
   |some _=>exact(show False from r).elim
 |some _=>cases u with
   |none=>exact(show False from r).elim
   |some _=>rfl
theorem KV.val(r:KV kvs vs)(k:κ):B8 (Q2 kvs k) (Jg vs k):=by
 unfold KV at r
 induction r with
 |nil=>exact True.intro
 |@cons p q ps qs h t ih=>
   obtain⟨h1,h2⟩:=h
   by_cases e:p.1=k
   · have e':q.1=k:=h1.symm.trans e
     have b:Jg (q::qs) k=some q.2:=by simp[Jg,xk,e']
     rw[bH e,b];exact h2
   · have e':¬q.1=k:=λz=>e (h1.trans z)
     have b:Jg (q::qs) k=Jg qs k:=by simp[Jg,xk,e']
     rw[GE e,b];exact ih
theorem KV.any(r:KV kvs vs)(k:κ):(kvs.any λkv=>decide (kv.1=k))=vs.any λkv=>decide (kv.1=k):=by
 unfold KV at r
 induction r with
 |nil=>rfl
 |cons h t ih=>rw[yb,yb,ih,h.1]
theorem KV.repl(r:KV kvs vs)(k:κ)(ry:K4 y u):
 KV (kvs.map λkv=>if kv.1=k then (kv.1,y)else kv) (vs.map λkv=>if kv.1=k then (kv.1,u)else kv):=by
 unfold KV at r ⊢
 induction r with
 |nil=>exact .nil
 |@cons p q ps qs h t ih=>
   rw[zL,zL]
   refine .cons ?_ ih
   obtain⟨h1,h2⟩:=h
   by_cases e:p.1=k
   ·rw[if_pos e,if_pos (h1.symm.trans e)];exact⟨h1,ry⟩
   ·rw[if_neg e,if_neg (λz=>e (h1.trans z))];exact⟨h1,h2⟩
theorem KV.put(r:KV kvs vs)(k:κ)(ry:K4 y u):KV (C2 kvs k y) (stored vs k u):=by
 unfold C2 stored
 rw[r.any k]
 by_cases e:(vs.any λkv=>decide (kv.1=k))=true
 ·rw[if_pos e,if_pos e];exact r.repl k ry
 ·rw[if_neg e,if_neg e];exact Paired.snoc r ⟨rfl,ry⟩
theorem KV.length(r:KV kvs vs):kvs.length=vs.length:=yN r
end
theorem sB(r:K4 (kV k) u):(Q9 P w).is k u=true:=by
 cases k with
 |inl i=>obtain⟨t,e⟩:=(show ∃t,u=Value.int i t from r);subst e;exact vm P w i t
 |inr x=>obtain⟨t,e⟩:=(show ∃t,u=Value.str x t from r);subst e;exact Fq P w x t
theorem FM:∀ {ks} {us},J1 (ks.map kV) us->ItemsAre (Q9 P w) ks us
 |[],_,r=>by rw[xX]at r;cases r;exact .nil
 |k::ks,_,r=>by
   rw[zL]at r
   cases r with
   |cons h t=>exact .cons (sB h) (FM t)
abbrev KT(H:Hp):List (List Key×V)->List (List Key×Addr×zj)->Prop:=Paired λp q=>p.1=q.1/\H q.2.1=some (.tup (p.1.map kV))/\K4 p.2 q.2.2
theorem KT.val{H:Hp}(r:KT H kvs xs)(k:List Key):B8 (Q2 kvs k) ((atKey xs k).map (·.2)):=by
 induction r with
 |nil=>exact True.intro
 |@cons p q ps qs h t ih=>
   obtain⟨h1,_,h2⟩:=h
   by_cases e:p.1=k
   · have e':q.1=k:=h1.symm.trans e
     have b:atKey (q::qs) k=some q.2:=by simp[atKey,xk,e']
     rw[bH e,b];exact h2
   · have e':¬q.1=k:=λz=>e (h1.trans z)
     have b:atKey (q::qs) k=atKey qs k:=by simp[atKey,xk,e']
     rw[GE e,b];exact ih
theorem KT.repl(r:KT H kvs xs)(k:List Key)(ry:K4 y u):
 KT H (kvs.map λkv=>if kv.1=k then (kv.1,y)else kv) (xs.map (putAt k u)):=by
 induction r with
 |nil=>exact .nil
 |@cons p q ps qs h t ih=>
   rw[zL,zL]
   refine .cons ?_ ih
   obtain⟨h1,h2,h3⟩:=h
   unfold putAt
   by_cases e:p.1=k
   ·rw[if_pos e,if_pos (h1.symm.trans e)];exact⟨h1,h2,ry⟩
   ·rw[if_neg e,if_neg (λz=>e (h1.trans z))];exact⟨h1,h2,h3⟩
theorem KT.put(r:KT H kvs xs)(k:List Key)(hb:H b=some (.tup (k.map kV)))(ry:K4 y u):
 KT H (C2 kvs k y) (storedH xs k b u):=by
 have e:(kvs.any λkv=>decide (kv.1=k))= (atKey xs k).isSome:=by
  rw[PN,(r.val k).isSome_eq,Yw]
 unfold C2 storedH
 rw[e]
 by_cases q:(atKey xs k).isSome=true
 ·rw[if_pos q,if_pos q];exact r.repl k ry
 ·rw[if_neg q,if_neg q];exact Paired.snoc r ⟨rfl,hb,ry⟩
theorem KT.keeps(r:KT H kvs xs)(ht:∀b ys,H b=some (.tup ys)->H' b=some (.tup ys)):KT H' kvs xs:=
 Paired.mapP r λ_ _ z=>⟨z.1,ht _ _ z.2.1,z.2.2⟩
section
theorem AI(ok:HOk P w H h)(e:Rd H a u):R0 P w H h a u:=e.ok ok
theorem qE(ok:HOk P w H h)(e:Rd H a (.dK kvs)):kvs.length<=zg/\(a==yR)=false/\∃vs,KV kvs vs/\h.DictOf (Q9 P w) a vs:=
 show R0 P w H h a (.dK kvs)from AI ok e
theorem CB(ok:HOk P w H h)(e:H a=some (.dK kvs)):kvs.length<=zg/\(a==yR)=false/\∃vs,KV kvs vs/\h.DictOf (Q9 P w) a vs:=qE ok (.inl e)
theorem eG(ok:HOk P w H h)(e:H a=some (.tup (ks.map kV))):(XF (Q9 P w)).is h ks a:=by
 obtain⟨_,its,r,o,h1,h2,n,h3⟩:=(show R0 P w H h a (.tup (ks.map kV))from ok a _ e)
 exact⟨o,its.toArray,n,h1,h2,(yV h3).1,by simpa using FM r⟩
theorem CJ(ok:HOk P w H h)(e:Rd H a (.dT kvs)):kvs.length<=zg/\(a==yR)=false/\
 ∃xs,KT H kvs xs/\h.DictOfH (XF (Q9 P w)) a xs:=by
 obtain⟨z,y,xs,r,o,es,ep,h1,h2,h3,h4,h5⟩:=(show R0 P w H h a (.dT kvs)from AI ok e)
 refine⟨z,y,xs,r,o,es,ep,h1,h2,h3,h4,λx hx=>?_,h5⟩
 have all:∀ {l:List (List Key×V)} {m:List (List Key×Addr×zj)},KT H l m->∀x∈m,(XF (Q9 P w)).is h x.1 x.2.1:=by
  intro l m q
  induction q with
  |nil=>intro x hx;exact nomatch hx
  |@cons p q ps qs hq t ih=>
    intro x hx
    rcases zp.mp hx with e|hx
    · subst e
      exact eG ok (by rw[<-hq.1];exact hq.2.1)
    ·exact ih x hx
 exact all r x hx
theorem IZ(ok:HOk P w H h)(e:H a=some (.dT kvs)):kvs.length<=zg/\(a==yR)=false/\
 ∃xs,KT H kvs xs/\h.DictOfH (XF (Q9 P w)) a xs:=CJ ok (.inl e)
end
def aC(H:Hp)(a:Addr)(y:V)(r:Option V):Prop:=
 (∃kvs k,Rd H a (.dK kvs)/\y=kV k/\r=Q2 kvs k)\/∃kvs k b,Rd H a (.dT kvs)/\y= .ref b/\H b=some (.tup (k.map kV))/\r=Q2 kvs k
def aG(H:Hp)(a:Addr)(y v:V)(H':Hp):Prop:=
 (∃kvs k,H a=some (.dK kvs)/\y=kV k/\kvs.length<zg/\H'=upd H a (.dK (C2 kvs k v)))\/
 ∃kvs k b,H a=some (.dT kvs)/\y= .ref b/\H b=some (.tup (k.map kV))/\kvs.length<zg/\H'=upd H a (.dT (C2 kvs k v))
theorem aC.k{k:Key}(e:H a=some (.dK kvs)):aC H a (kV k) (Q2 kvs k):=.inl ⟨kvs,k,.inl e,rfl,rfl⟩
theorem aG.k{k:Key}(e:H a=some (.dK kvs))(hl:kvs.length<zg):aG H a (kV k) v (upd H a (.dK (C2 kvs k v))):=.inl ⟨kvs,k,e,rfl,hl,rfl⟩
section
theorem Inv.big(I:Inv X pins σ H s):yR<s.heap.objs.size:=by
 have h:jv<s.heap.objs.size:=(I.mod.glob.keeps I.bk).lt
 exact xF (by decide) h
theorem Qx(hu:A.units+1<xn)(I:Inv X pins σ H s)(g:aC H a y o)(ry:K4 y u)(h:∀s',Inv X pins σ H s'->Q (.bool o.isSome) s'):
 zC (zH X.prog X.w) A (zT .In u (.ref a)) Q E s:=by
 rcases g with⟨kvs,k,e,ey,l⟩|⟨kvs,k,b,e,ey,eb,l⟩
 · subst ey
   obtain⟨z,hd,vs,rel,dd⟩:=qE I.hok e
   refine wpAny_in_of (sB ry) hd dd.mapOf ?_
   rw[<-(rel.val k).isSome_eq,<-l]
   exact h _ (I.tok _)
 · subst ey
   cases (show u=Value.ref b from ry)
   obtain⟨z,hd,xs,rel,dd⟩:=CJ I.hok e
   refine wpAny_in_heap (Xb hu) (eG I.hok eb) hd dd ?_
   have q:=(rel.val k).isSome_eq
   rw[Yw]at q
   rw[<-q,<-l]
   exact h _ (I.tok _)
theorem Qg(hu:A.units+1<xn)(I:Inv X pins σ H s)(g:aC H a y o)(ry:K4 y u)(h:∀s',Inv X pins σ H s'->Q (.bool (!o.isSome)) s'):
 zC (zH X.prog X.w) A (zT .NotIn u (.ref a)) Q E s:=by
 rcases g with⟨kvs,k,e,ey,l⟩|⟨kvs,k,b,e,ey,eb,l⟩
 · subst ey
   obtain⟨z,hd,vs,rel,dd⟩:=qE I.hok e
   refine wpAny_notIn_of (sB ry) hd dd.mapOf ?_
   rw[<-(rel.val k).isSome_eq,<-l]
   exact h _ (I.tok _)
 · subst ey
   cases (show u=Value.ref b from ry)
   obtain⟨z,hd,xs,rel,dd⟩:=CJ I.hok e
   refine wpAny_notIn_heap (Xb hu) (eG I.hok eb) hd dd ?_
   have q:=(rel.val k).isSome_eq
   rw[Yw]at q
   rw[<-q,<-l]
   exact h _ (I.tok _)
theorem iP(I:Inv X pins σ H s)(mu:Mut (H a))(hs:xu a s.heap h')(he:∃q,h'.get? a=some q)(new:R0 X.prog X.w (upd H a ob) h' a ob):
 Inv X pins σ (upd H a ob) {s with heap:=h',toks:=t'}:=
 I.write mu (.inl rfl) (λb q hb z=>(hs.2 b hb).trans z) he new
theorem VP(z:kvs.length<=zg)(hd:(a==yR)=false)(rel:KV kvs vs)(dd:h'.DictOf (Q9 P w) a vs):
 R0 P w H' h' a (.dK kvs):=⟨z,hd,vs,rel,dd⟩
theorem MS(hu:A.units+1<xn)(I:Inv X pins σ H s)(g:aG H a y v H')(ry:K4 y u)(rv:K4 v r)(h:∀s',Inv X pins σ H' s'->Q () s'):
 zC (zH X.prog X.w) A (setItem (.ref a) u r) Q E s:=by
 rcases g with⟨kvs,k,e,ey,l,eH⟩|⟨kvs,k,b,e,ey,eb,l,eH⟩
 · subst ey eH
   obtain⟨z,hd,vs,rel,dd⟩:=CB I.hok e
   have hz:vs.length<=zg:=by rw[<-rel.length];exact z
   have hl:(C2 kvs k v).length<=zg:=by have:=UQ kvs k v;lia
   refine wpAny_setItem_pairs (sB ry) dd λh' dd' hs=>h _ ?_
   have he:∃q,h'.get? a=some q:=let ⟨q,_,_,hq,_⟩:=dd';⟨q,hq⟩
   exact iP I (by rw[e];exact True.intro) hs he (VP hl hd (rel.put k rv) dd')
 · subst ey eH
   cases (show u=Value.ref b from ry)
   obtain⟨z,hd,xs,rel,dd⟩:=IZ I.hok e
   have hz:xs.length<=zg:=by rw[<-yN rel];exact z
   have hl:(C2 kvs k v).length<=zg:=by have:=UQ kvs k v;lia
   refine wpAny_setItem_heap (Xb hu) (eG I.hok eb) dd λh' dd' hs=>h _ ?_
   obtain⟨q,es,ep,hq,h2,h3,h4,_,h5⟩:=dd'
   refine iP I (by rw[e];exact True.intro) hs ⟨q,hq⟩ ⟨hl,hd,_,(rel.put k eb rv).keeps λc ys ec=>?_,q,es,ep,hq,h2,h3,h4,h5⟩
   rw[v7 (oW ec e (λz=>nomatch z))]
   exact ec
end
section
theorem VR(I:Inv X pins σ H s)(e:Rd H a (.dK kvs))(h:∀t s',Inv X pins σ H s'->Q (.int kvs.length t) s'):zC (zH X.prog X.w) A (call (.builtin "len") [.ref a]) Q E s:=by
 obtain⟨z,hd,vs,rel,dd⟩:=qE I.hok e
 refine call_len_dict hd dd (by rw[<-rel.length];rw[jH]at z;lia) ?_
 rw[<-rel.length]
 exact h _ _ (I.tok _)
end
section
end
theorem Kz(h:Heap)(hb:yR<h.objs.size):R0 P w H (h.push {cls:=.type "dict",data:=.dict #[]}) h.objs.size (.dK []):=
 ⟨zY _,beq_eq_false_iff_ne.mpr (Ne.symm (zF hb)), [],.nil,Jj h⟩
def Pb:TE:=λ_ H Q=>∀p,H p=none->Q (.ref p) (upd H p (.dK []))
section
theorem qj:PE X (.Dict [] [] pos) Pb:=λpins s σ H Q I h=>
 wpAny_Dict_empty ⟨.ref s.heap.objs.size,_,I.laid (λ_ _ q=>zd _ q) (zo _) (Kz s.heap I.big),rfl,h _ (I.hok.fresh (zo _))⟩
end
structure M1(X:Cx)(o:Expr)(m:Str)(apos:Pos)(e:Expr)(cpos:Pos):Prop where
 base:yY o m X.env (eval o X.env)=eval o X.env
 few:((yS cpos (zP [e] X.env)).all (λx=> !x.1)&&(Jo cpos (Yy [] X.env)).all (λx=>x.1.isSome)
  && decide (([e]:List Expr).length+([]:List Keyword).length+(if ([]:List Keyword).isEmpty then 0 else 1)<30))=true
 line:(apos.endLine==cpos.line)=true
 trees:yS cpos (zP [e] X.env)= [(false,eval e X.env)]
structure M2(X:Cx)(o:Expr)(m:Str)(apos:Pos)(e f:Expr)(cpos:Pos):Prop where
 base:yY o m X.env (eval o X.env)=eval o X.env
 few:((yS cpos (zP [e,f] X.env)).all (λx=> !x.1)&&(Jo cpos (Yy [] X.env)).all (λx=>x.1.isSome)
  && decide (([e,f]:List Expr).length+([]:List Keyword).length+(if ([]:List Keyword).isEmpty then 0 else 1)<30))=true
 line:(apos.endLine==cpos.line)=true
 trees:yS cpos (zP [e,f] X.env)= [(false,eval e X.env),(false,eval f X.env)]
section
end
section
end
section
end
section
end
section
theorem Qb:L1 X (.builtin "len") (λxs H Q=>∃a kvs,xs= [V.ref a]/\H a=some (.dK kvs)/\Q (.int kvs.length) H):=by
 intro pins s σ H xs us Q I r h
 obtain⟨a,kvs,rfl,ha,q⟩:=h
 obtain⟨u,rfl,ru⟩:=U1 r
 cases ru
 exact VR I (.inl ha) λt s' I'=>⟨.int kvs.length,H,I',⟨t,rfl⟩,q⟩
end
section
variable[DecidableEq κ]
end
end L2
namespace DL
open PySem PySem.Spec L2
open PyProof.Rows hiding St
inductive D where
 |non|bl (b:Bool)|int (i:Int)|str (x:Str)|tup (l:List D)|ref (i:Nat)|fn (x:Str)|ty (n:String)
inductive DO where
 |lst (l:List D)|rol (l:List D)|dct (l:List (Key×D))|rod (l:List (Key×D))
abbrev DH:=List DO
abbrev DPP:=D->DH->Prop
abbrev DSt:=List (Option D)
structure Wc where
 K:zh
 mg:Str->Option zj
abbrev wc(X:Cx):Wc:=⟨X.K,X.mg⟩
mutual
def f9(c:Wc)(μ:List Addr)(H:Hp):D->V->Prop
 | .non,v=>v= .non
 | .bl b,v=>v= .bl b
 | .int i,v=>v= .int i
 | .str x,v=>v= .str x
 | .ty n,v=>v= .ty n
 | .fn x,v=>∃a,c.mg x=some (.ref a)/\v= .ref a
 | .ref i,v=>∃a,μ[i]? =some a/\v= .ref a
 | .tup l,v=>∃a vs,v= .ref a/\SqT c.K H a vs/\u9 c μ H l vs
def u9(c:Wc)(μ:List Addr)(H:Hp):List D->List V->Prop
 |[],vs=>vs= []
 |d::ds,vs=>∃v r,vs=v::r/\f9 c μ H d v/\u9 c μ H ds r
end
def z0(c:Wc)(μ:List Addr)(H:Hp):List (Key×D)->List (Key×V)->Prop
 |[],kvs=>kvs= []
 |(k,d)::r,kvs=>∃v t,kvs= (k,v)::t/\f9 c μ H d v/\z0 c μ H r t
structure Ext(μ:List Addr)(H:Hp)(X9:List Addr)(H':Hp):Prop where
 pre:μ <+:X9
 new:∀a∈X9,a∉μ->H a=none
 oth:∀b o,H b=some o->b∉μ->H' b=some o
 tup:∀b xs,H b=some (.tup xs)->H' b=some (.tup xs)
 frz:∀b o u,H b=some (.frz o u)->H' b=some (.frz o u)
theorem Ext.refl(μ:List Addr)(H:Hp):Ext μ H μ H:=⟨YV _,λa h n=>absurd h n,λ_ _ h _=>h,λ_ _ h=>h,λ_ _ _ h=>h⟩
theorem Ext.trans(a:Ext μ H X1 H1)(b:Ext X1 H1 WZ H2):Ext μ H WZ H2 where
 pre:=a.pre.trans b.pre
 new:=λx h n=>by
  by_cases h1:x∈X1
  ·exact a.new x h1 n
  · have e1:=b.new x h h1
    rcases e:H x with _|o
    ·rfl
    ·rw[a.oth x o e n]at e1;exact kF e1
 oth:=λx o e n=>by
  refine b.oth x o (a.oth x o e n) λh1=>?_
  have:=a.new x h1 n
  rw[e]at this;exact kF this
 tup:=λx xs e=>b.tup x xs (a.tup x xs e)
 frz:=λx o u e=>b.frz x o u (a.frz x o u e)
theorem Ext.lay(h:H p=none)(o:HO):Ext μ H μ (upd H p o):=
 ⟨YV _,λa h n=>absurd h n,λb o' q _=>by rw[v7 (v6 q h)];exact q,λb xs q=>by rw[v7 (v6 q h)];exact q,λb o' u q=>by rw[v7 (v6 q h)];exact q⟩
theorem Ext.add(h:H p=none)(o:HO):Ext μ H (μ++[p]) (upd H p o):=
 ⟨List.prefix_append _ _,λa ha n=>by
  rcases zJ.mp ha with z|z
  ·exact absurd z n
  ·rw[zk.mp z];exact h,λb o' q _=>by rw[v7 (v6 q h)];exact q,λb xs q=>by rw[v7 (v6 q h)];exact q,λb o' u q=>by rw[v7 (v6 q h)];exact q⟩
theorem Ext.mut(hp:p∈μ)(h:H p=some o')(n1:∀xs,o'≠ .tup xs)(n2:∀o u,o'≠ .frz o u)(o:HO):Ext μ H μ (upd H p o):=
 ⟨YV _,λa h n=>absurd h n,λb o2 q n=>by rw[v7 (λe=>n (by rw[e];exact hp))];exact q,λb xs q=>by
  rw[v7 (λe=>by subst e;rw[h]at q;cases q;exact n1 _ rfl)];exact q,
  λb oo u q=>by
   rw[v7 (λe=>by subst e;rw[h]at q;cases q;exact n2 _ _ rfl)];exact q⟩
theorem Ext.sqT{K:zh}(k:Ext μ H X9 H')(h:SqT K H a xs):SqT K H' a xs:=by
 rcases h with(h|⟨o,h⟩)|h
 ·exact .inl (.inl (k.tup _ _ h))
 ·exact .inl (.inr ⟨o,k.frz _ _ _ h⟩)
 ·exact .inr h
def RoL(K:zh)(H:Hp)(a:Addr)(xs:List V):Prop:=(∃o,H a=some (.frz o (.lst xs)))\/(SqL K (λ_=>none) a xs)
theorem aY{K:zh}(h:SqL K (λ_=>none) a xs):SqL K H a xs:=by
 rcases h with(h|⟨o,h⟩)|h
 ·exact J7 h
 ·exact J7 h
 ·exact .inr h
theorem RoL.sq{K:zh}(h:RoL K H a xs):SqL K H a xs:=by
 rcases h with⟨o,h⟩|h
 ·exact .inl (.inr ⟨o,h⟩)
 ·exact aY h
theorem Ext.roL{K:zh}(k:Ext μ H X9 H')(h:RoL K H a xs):RoL K H' a xs:=by
 rcases h with⟨o,h⟩|h
 ·exact .inl ⟨o,k.frz _ _ _ h⟩
 ·exact .inr h
section
variable{μ X9:List Addr}
theorem MH(h:μ <+:X9){i:Nat}(e:μ[i]? =some a):X9[i]? =some a:=by
 obtain⟨t,rfl⟩:=h
 have:i<μ.length:=by
  rcases ZE i μ.length with q|q
  ·exact q
  ·rw[zO q]at e;exact J7 e
 rw[zK this];exact e
mutual
theorem f9.mono(x:Ext μ H X9 H'):∀ {d} {v},f9 c μ H d v->f9 c X9 H' d v
 | .non,_,h=>h
 | .bl _,_,h=>h
 | .int _,_,h=>h
 | .str _,_,h=>h
 | .ty _,_,h=>h
 | .fn _,_,h=>h
 | .ref i,v,h=>by
   unfold f9 at h ⊢
   obtain⟨a,e,r⟩:=h
   exact⟨a,MH x.pre e,r⟩
 | .tup l,v,h=>by
   unfold f9 at h ⊢
   obtain⟨a,vs,e,q,r⟩:=h
   exact⟨a,vs,e,x.sqT q,u9.mono x r⟩
theorem u9.mono(x:Ext μ H X9 H'):∀ {l} {vs},u9 c μ H l vs->u9 c X9 H' l vs
 |[],_,h=>h
 |d::ds,vs,h=>by
   unfold u9 at h ⊢
   obtain⟨v,r,e,q,t⟩:=h
   exact⟨v,r,e,f9.mono x q,u9.mono x t⟩
end
theorem z0.mono(x:Ext μ H X9 H'):∀ {l} {vs},z0 c μ H l vs->z0 c X9 H' l vs
 |[],_,h=>h
 |(_,d)::ds,vs,h=>by
  obtain⟨v,r,e,q,t⟩:=h
  exact⟨v,r,e,f9.mono x q,z0.mono x t⟩
theorem u9.nil:u9 c μ H [] []:=rfl
theorem u9.cons(h:f9 c μ H d v)(t:u9 c μ H ds vs):u9 c μ H (d::ds) (v::vs):=⟨v,vs,rfl,h,t⟩
theorem u9.length:∀ {l} {vs},u9 c μ H l vs->l.length=vs.length
 |[],_,h=>by cases h;rfl
 |_::_,_,h=>by obtain⟨v,r,rfl,_,t⟩:=h;simp[u9.length t]
theorem u9.get:∀ {l} {vs} {i:Nat} {d},u9 c μ H l vs->l[i]? =some d->∃v,vs[i]? =some v/\f9 c μ H d v
 |[],_,_,_,_,e=>by simp at e
 |_::_,_,0,_,h,e=>by
   obtain⟨v,r,rfl,q,t⟩:=h
   simp at e;subst e
   exact⟨v,rfl,q⟩
 |_::_,_,i+1,_,h,e=>by
   obtain⟨v,r,rfl,q,t⟩:=h
   simp at e
   obtain⟨w,h1,h2⟩:=u9.get t e
   exact⟨w,by simpa using h1,h2⟩
theorem u9.append:∀ {l l'} {vs vs'},u9 c μ H l vs->u9 c μ H l' vs'->u9 c μ H (l++l') (vs++vs')
 |[],_,_,_,h,t=>by cases h;exact t
 |_::_,_,_,_,h,t=>by
   obtain⟨v,r,rfl,q,u⟩:=h
   exact⟨v,r++_,rfl,q,u9.append u t⟩
theorem u9.take:∀n {l} {vs},u9 c μ H l vs->u9 c μ H (l.take n) (vs.take n)
 |0,_,_,_=>rfl
 |_+1, [],_,h=>by cases h;rfl
 |n+1,_::_,_,h=>by
   obtain⟨v,r,rfl,q,u⟩:=h
   exact⟨v,r.take n,rfl,q,u9.take n u⟩
theorem u9.drop:∀n {l} {vs},u9 c μ H l vs->u9 c μ H (l.drop n) (vs.drop n)
 |0,_,_,h=>h
 |_+1, [],_,h=>by cases h;rfl
 |n+1,_::_,_,h=>by
   obtain⟨v,r,rfl,q,u⟩:=h
   exact u9.drop n u
theorem u9.set(hv:f9 c μ H d v):∀n {l} {vs},u9 c μ H l vs->u9 c μ H (l.set n d) (vs.set n v)
 |_, [],_,h=>by cases h;rfl
 |0,_::_,_,h=>by
   obtain⟨w,r,rfl,q,u⟩:=h
   exact⟨v,r,rfl,hv,u⟩
 |n+1,_::_,_,h=>by
   obtain⟨w,r,rfl,q,u⟩:=h
   exact⟨w,r.set n v,rfl,q,u9.set hv n u⟩
theorem u9.reverse:∀ {l} {vs},u9 c μ H l vs->u9 c μ H l.reverse vs.reverse
 |[],_,h=>by cases h;rfl
 |_::_,_,h=>by
   obtain⟨w,r,rfl,q,u⟩:=h
   simp only[YG]
   exact u9.append (u9.reverse u) ⟨w, [],rfl,q,rfl⟩
theorem u9.dropLast(h:u9 c μ H l vs):u9 c μ H l.dropLast vs.dropLast:=by
 rw[Jy,Jy,h.length]
 exact h.take _
def F4:Option DO->Prop
 |some (.rol _)=>True
 |some (.rod _)=>True
 |_=>False
def C6(c:Wc)(μ:List Addr)(H:Hp)(a:Addr):DO->Prop
 | .lst l=>∃vs,H a=some (.lst vs)/\u9 c μ H l vs
 | .rol l=>∃vs,RoL c.K H a vs/\u9 c μ H l vs
 | .dct l=>∃kvs,H a=some (.dK kvs)/\z0 c μ H l kvs
 | .rod l=>∃kvs o,H a=some (.frz o (.dK kvs))/\z0 c μ H l kvs
structure J0(c:Wc)(μ:List Addr)(G:DH)(H:Hp):Prop where
 len:μ.length=G.length
 inj:∀(i j:Nat) (a:Addr),μ[i]? =some a->μ[j]? =some a->i=j\/F4 G[i]? \/F4 G[j]?
 obj:∀(i:Nat) (o:DO) (a:Addr),G[i]? =some o->μ[i]? =some a->C6 c μ H a o
theorem lt_of_get{α:Type}{l:List α}{x:α}(e:l[i]? =some x):i<l.length:=by
 rcases ZE i l.length with q|q
 ·exact q
 ·rw[zO q]at e;exact J7 e
theorem C6.mono(x:Ext μ H X9 H')(h:C6 c μ H a o)(e:H' a=H a\/F4 (some o)):C6 c X9 H' a o:=by
 rcases o with l|l|l|l
 ·
   obtain⟨vs,q,r⟩:=h
   rcases e with e|e
   ·exact⟨vs,e.trans q,r.mono x⟩
   ·exact e.elim
 ·obtain⟨vs,q,r⟩:=h;exact⟨vs,x.roL q,r.mono x⟩
 ·
   obtain⟨vs,q,r⟩:=h
   rcases e with e|e
   ·exact⟨vs,e.trans q,r.mono x⟩
   ·exact e.elim
 ·obtain⟨vs,o,q,r⟩:=h;exact⟨vs,o,x.frz _ _ _ q,r.mono x⟩
theorem C6.some_of(h:C6 c μ H a o)(n:¬F4 (some o)):∃u,H a=some u/\(∀xs,u≠ .tup xs)/\∀o' u',u≠ .frz o' u':=by
 rcases o with l|l|l|l
 ·obtain⟨vs,q,_⟩:=h;exact⟨_,q,(λ_ z=>nomatch z),(λ_ _ z=>nomatch z)⟩
 ·exact(n trivial).elim
 ·obtain⟨vs,q,_⟩:=h;exact⟨_,q,(λ_ z=>nomatch z),(λ_ _ z=>nomatch z)⟩
 ·exact(n trivial).elim
theorem J0.same(h:J0 c μ G H)(k:Ext μ H μ H')(e:∀a o,H a=some o->(∀xs,o≠ .tup xs)->H' a=some o):J0 c μ G H':=
 ⟨h.len,h.inj,λi o a g m=>by
  have q:=h.obj i o a g m
  by_cases hr:F4 (some o)
  ·exact q.mono k (.inr hr)
  · obtain⟨u,e1,n1,n2⟩:=q.some_of hr
    exact q.mono k (.inl ((e a u e1 n1).trans e1.symm))⟩
theorem J0.new{p:Addr}(h:J0 c μ G H)(hp:H p=none)(ho:C6 c (μ++[p]) (upd H p u) p o):J0 c (μ++[p]) (G++[o]) (upd H p u):=by
 have k:Ext μ H (μ++[p]) (upd H p u):=Ext.add hp u
 have old:∀(i:Nat) (a:Addr),i<μ.length->(μ++[p])[i]? =some a->μ[i]? =some a:=λi a hi e=>by
  rw[zK hi]at e;exact e
 refine⟨by simp[h.len],λi j a ei ej=>?_,λi o' a g m=>?_⟩
 · have li:=lt_of_get ei
   have lj:=lt_of_get ej
   simp only[zA,jc]at li lj
   by_cases hi:i<μ.length
   · have mi:=old i a hi ei
     have gi:(G++[o])[i]? =G[i]? :=zK (by rw[<-h.len];exact hi)
     by_cases hj:j<μ.length
     · have mj:=old j a hj ej
       have gj:(G++[o])[j]? =G[j]? :=zK (by rw[<-h.len];exact hj)
       rw[gi,gj]
       exact h.inj i j a mi mj
     · -- j is the new one:a=p
       have ej':j=μ.length:=by lia
       subst ej'
       have ea:a=p:=by simpa using ej.symm
       subst ea
       right;left
       rw[gi]
       have hg:i<G.length:=by rw[<-h.len];exact hi
       have q:=h.obj i G[i] a (ze hg) mi
       rw[ze hg]
       refine je λn=>?_
       obtain⟨u',e1,_⟩:=q.some_of n
       rw[hp]at e1;exact J7 e1
   · have ei':i=μ.length:=by lia
     by_cases hj:j<μ.length
     · have mj:=old j a hj ej
       have gj:(G++[o])[j]? =G[j]? :=zK (by rw[<-h.len];exact hj)
       subst ei'
       have ea:a=p:=by simpa using ei.symm
       subst ea
       right;right
       rw[gj]
       have hg:j<G.length:=by rw[<-h.len];exact hj
       have q:=h.obj j G[j] a (ze hg) mj
       rw[ze hg]
       refine je λn=>?_
       obtain⟨u',e1,_⟩:=q.some_of n
       rw[hp]at e1;exact J7 e1
     ·left;lia
 · have li:=lt_of_get m
   simp only[zA,jc]at li
   by_cases hi:i<μ.length
   · have mi:=old i a hi m
     rw[zK (by rw[<-h.len];exact hi)]at g
     have q:=h.obj i o' a g mi
     by_cases hr:F4 (some o')
     ·exact q.mono k (.inr hr)
     · obtain⟨u',e1,_⟩:=q.some_of hr
       exact q.mono k (.inl (v7 (v6 e1 hp)))
   · have ei':i=μ.length:=by lia
     subst ei'
     have ea:a=p:=by simpa using m.symm
     subst ea
     rw[h.len]at g
     have eo:o'=o:=by simpa using g.symm
     subst eo
     exact ho
theorem J0.set{o o':DO}{u:HO}(h:J0 c μ G H)(g:G[i]? =some o)(n:¬F4 (some o))(m:μ[i]? =some a)(k:Ext μ H μ (upd H a u))(n':¬F4 (some o'))(ho:C6 c μ (upd H a u) a o'):J0 c μ (G.set i o') (upd H a u):=by
 have hi:i<G.length:=lt_of_get g
 have get:∀j,(G.set i o')[j]? =if i=j then some o' else G[j]? :=λj=>by
  rw[YI]
  by_cases e:i=j
  ·subst e;simp[hi]
  ·simp[e]
 refine⟨by simp[h.len],λj l b ej el=>?_,λj o2 b gj mj=>?_⟩
 · rcases h.inj j l b ej el with e|e|e
   ·exact .inl e
   · by_cases ij:i=j
     ·subst ij;rw[g]at e;exact(n e).elim
     ·right;left;rw[get,if_neg ij];exact e
   · by_cases ij:i=l
     ·subst ij;rw[g]at e;exact(n e).elim
     ·right;right;rw[get,if_neg ij];exact e
 · rw[get]at gj
   by_cases ij:i=j
   · subst ij
     rw[if_pos rfl]at gj
     cases gj
     rw[m]at mj
     cases mj
     exact ho
   · rw[if_neg ij]at gj
     have q:=h.obj j o2 b gj mj
     by_cases hr:F4 (some o2)
     ·exact q.mono k (.inr hr)
     · have nb:b≠a:=λe=>by
        subst e
        rcases h.inj i j b m mj with e|e|e
        ·exact ij e
        ·rw[g]at e;exact n e
        ·rw[gj]at e;exact hr e
       exact q.mono k (.inl (v7 nb))
def M6(c:Wc)(μ:List Addr)(H:Hp)(Z6:DSt)(σ:St):Prop:=Z6.length=σ.length/\∀(i:Nat) (d:D),Z6[i]? =some (some d)->∃v,σ[i]? =some (some v)/\f9 c μ H d v
theorem M6.mono(x:Ext μ H X9 H')(h:M6 c μ H Z6 σ):M6 c X9 H' Z6 σ:=
 ⟨h.1,λi d e=>let ⟨v,a,b⟩:=h.2 i d e;⟨v,a,b.mono x⟩⟩
theorem M6.put(h:M6 c μ H Z6 σ)(r:f9 c μ H d v)(i:Nat):M6 c μ H (Z6.set i (some d)) (σ.set i (some v)):=by
 refine⟨by simp[h.1],λj d' e=>?_⟩
 rw[YI]at e ⊢
 by_cases ij:i=j
 · subst ij
   rw[if_pos rfl]at e ⊢
   rw[<-h.1]
   split at e
   · rename_i hl
     rw[if_pos hl]
     cases e
     exact⟨v,rfl,r⟩
   ·exact J7 e
 · rw[if_neg ij]at e ⊢
   exact h.2 j d' e
end
def M(α:Type):=DH->Option (Except Str α×DH)
namespace M
def pure{α:Type}(a:α):M α:=λG=>some (.ok a,G)
def bind{α β:Type}(m:M α)(f:α->M β):M β:=λG=>match m G with
 |none=>none
 |some (.ok a,G1)=>f a G1
 |some (.error x,G1)=>some (.error x,G1)
def stuck{α:Type}:M α:=λ_=>none
end M
instance:Monad M:={pure:=M.pure,bind:=M.bind}
theorem M.bind_eq(m:M α)(f:α->M β)(G:DH):(m >>= f) G=match m G with
 |none=>none
 |some (.ok a,G1)=>f a G1
 |some (.error x,G1)=>some (.error x,G1):=rfl
theorem M.bind_ok{f:α->M β}(h:m G=some (.ok a,G1)):(m >>= f) G=f a G1:=by rw[M.bind_eq,h]
theorem M.bind_assoc(m:M α)(f:α->M β)(g:β->M γ):((m >>= f) >>= g)= (m >>= λa=>f a >>= g):=by
 funext G
 simp only[M.bind_eq]
 rcases m G with _|p
 ·rfl
 ·obtain⟨r,G1⟩:=p;cases r<;>rfl
abbrev XC:=Str->List Addr->DH->Hp->Prop
def ZF:XC:=λ_ _ _ _=>False
def d9{α:Type}(c:Wc)(Z:XC)(μ:List Addr)(H:Hp)(r:Option (Except Str α×DH))(K:α->List Addr->DH->Hp->Prop):Prop:=
 match r with
 |none=>False
 |some (.ok a,G')=>∀ X9 H',Ext μ H X9 H'->J0 c X9 G' H'->K a X9 G' H'
 |some (.error x,G')=>∀ X9 H',Ext μ H X9 H'->J0 c X9 G' H'->Z x X9 G' H'
section
theorem d9.mono{K K':α->List Addr->DH->Hp->Prop}(h:d9 c Z μ H r K)
 (k:∀a X9 G' H',Ext μ H X9 H'->J0 c X9 G' H'->K a X9 G' H'->K' a X9 G' H'):d9 c Z μ H r K':=by
 match r,h with
 |some (.ok a,G'),h=>exact λX9 H' p e=>k a X9 G' H' p e (h X9 H' p e)
 |some (.error x,G'),h=>exact h
theorem d9.from{K:α->List Addr->DH->Hp->Prop}(h:d9 c Z μ H r K)(p:Ext μ H X9 H'):d9 c Z X9 H' r K:=by
 match r,h with
 |some (.ok a,G'),h=>exact λWZ H2 p2 e=>h WZ H2 (p.trans p2) e
 |some (.error x,G'),h=>exact λWZ H2 p2 e=>h WZ H2 (p.trans p2) e
theorem d9.bind{m:M α}{K:β->List Addr->DH->Hp->Prop}(h:d9 c Z μ H ((m >>= f) G) K):
 d9 c Z μ H (m G) (λa X9 G' H'=>d9 c Z X9 H' (f a G') K):=by
 rw[M.bind_eq]at h
 match m G,h with
 |some (.ok a,G'),h=>exact λX9 H' p e=>d9.from h p
 |some (.error x,G'),h=>exact h
theorem d9.ok{K:α->List Addr->DH->Hp->Prop}(h:d9 c Z μ H (some (.ok a,G)) K)(e:J0 c μ G H):K a μ G H:=h μ H (Ext.refl _ _) e
end
inductive Fl where
 |nx (σ:DSt)|rt (d:D)|bk (σ:DSt)|ct (σ:DSt)
section
variable(c:Wc)(Z:XC)
def D5(f:DSt->M D):TE:=λσ H Q=>∃Z6 μ G,M6 c μ H Z6 σ/\J0 c μ G H/\d9 c Z μ H (f Z6 G) λd X9 _ H'=>∀v,f9 c X9 H' d v->Q v H'
def FA(f:DSt->M Bool):TT:=λσ H Q=>∃Z6 μ G,M6 c μ H Z6 σ/\J0 c μ G H/\d9 c Z μ H (f Z6 G) λb X9 _ H'=>Q b H'
def MD(f:DSt->M (List D)):TA:=λσ H Q=>∃Z6 μ G,M6 c μ H Z6 σ/\J0 c μ G H/\d9 c Z μ H (f Z6 G) λds X9 _ H'=>∀vs,u9 c X9 H' ds vs->Q vs H'
def oA(E:eA)(fl:Fl)(μ:List Addr)(H:Hp):Prop:=match fl with
 | .nx Z6=>∀ σ,M6 c μ H Z6 σ->E.nx σ H
 | .rt d=>∀v,f9 c μ H d v->E.rt v H
 | .bk Z6=>∀ σ,M6 c μ H Z6 σ->E.bk σ H
 | .ct Z6=>∀ σ,M6 c μ H Z6 σ->E.ct σ H
def pA(f:DSt->M Fl):TS:=λE σ H=>∃Z6 μ G,M6 c μ H Z6 σ/\J0 c μ G H/\d9 c Z μ H (f Z6 G) λfl X9 _ H'=>oA c E fl X9 H'
end
theorem D5.elim{P:Prop}{H:Hp}{Q:VK}(h:D5 c Z f σ H Q)(k:∀Z6 μ G,M6 c μ H Z6 σ->J0 c μ G H->d9 c Z μ H (f Z6 G) (λd X9 _ H'=>∀v,f9 c X9 H' d v->Q v H')->P):P:=by
 obtain⟨e0,e1,e2,e3,e4,e5⟩:=h
 exact k e0 e1 e2 e3 e4 e5
theorem FA.elim{P:Prop}{σ:St}{H:Hp}(h:FA c Z f σ H Q)(k:∀Z6 μ G,M6 c μ H Z6 σ->J0 c μ G H->d9 c Z μ H (f Z6 G) (λb X9 _ H'=>Q b H')->P):P:=by
 obtain⟨e0,e1,e2,e3,e4,e5⟩:=h
 exact k e0 e1 e2 e3 e4 e5
theorem MD.elim{P:Prop}{σ:St}{H:Hp}(h:MD c Z f σ H Q)(k:∀Z6 μ G,M6 c μ H Z6 σ->J0 c μ G H->d9 c Z μ H (f Z6 G) (λds X9 _ H'=>∀vs,u9 c X9 H' ds vs->Q vs H')->P):P:=by
 obtain⟨e0,e1,e2,e3,e4,e5⟩:=h
 exact k e0 e1 e2 e3 e4 e5
theorem pA.elim{P:Prop}{σ:St}{H:Hp}(h:pA c Z f E σ H)(k:∀Z6 μ G,M6 c μ H Z6 σ->J0 c μ G H->d9 c Z μ H (f Z6 G) (λfl X9 _ H'=>oA c E fl X9 H')->P):P:=by
 obtain⟨e0,e1,e2,e3,e4,e5⟩:=h
 exact k e0 e1 e2 e3 e4 e5
structure DE(X:Cx)(Z:XC)(e:Expr)(f:DSt->M D):Prop where
 h:PE X e (D5 (wc X) Z f)
structure DT(X:Cx)(Z:XC)(e:Expr)(f:DSt->M Bool):Prop where
 h:PT X e (FA (wc X) Z f)
structure DA(X:Cx)(Z:XC)(e:List Expr)(f:DSt->M (List D)):Prop where
 h:PA X e (MD (wc X) Z f)
structure DS(X:Cx)(Z:XC)(e:Stmt)(f:DSt->M Fl):Prop where
 h:PS X e (pA (wc X) Z f)
structure DB(X:Cx)(Z:XC)(e:List Stmt)(f:DSt->M Fl):Prop where
 h:PSs X e (pA (wc X) Z f)
theorem PE.mono(h:PE X e t)(k:∀ σ H Q,t' σ H Q->t σ H Q):PE X e t':=λpins s σ H Q I q=>h pins s σ H Q I (k σ H Q q)
theorem PT.mono(h:PT X e t)(k:∀ σ H Q,t' σ H Q->t σ H Q):PT X e t':=λpins s σ H Q I q=>h pins s σ H Q I (k σ H Q q)
theorem PW.mono(h:PW X e t)(k:∀ σ H Q,t' σ H Q->t σ H Q):PW X e t':=λwh pins s σ H Q I q=>h wh pins s σ H Q I (k σ H Q q)
theorem PA.mono(h:PA X e t)(k:∀ σ H Q,t' σ H Q->t σ H Q):PA X e t':=λpos pins s σ H Q I q=>h pos pins s σ H Q I (k σ H Q q)
theorem PS.mono(h:PS X e t)(k:∀E σ H,t' E σ H->t E σ H):PS X e t':=λpins s σ H E I q=>h pins s σ H E I (k E σ H q)
theorem PSs.mono(h:PSs X e t)(k:∀E σ H,t' E σ H->t E σ H):PSs X e t':=λpins s σ H E I q=>h pins s σ H E I (k E σ H q)
theorem DE.of(h:PE X e t)(k:∀ σ H Q,D5 (wc X) Z f σ H Q->t σ H Q):DE X Z e f:=⟨PE.mono h k⟩
theorem DT.of(h:PT X e t)(k:∀ σ H Q,FA (wc X) Z f σ H Q->t σ H Q):DT X Z e f:=⟨PT.mono h k⟩
theorem DA.of(h:PA X e t)(k:∀ σ H Q,MD (wc X) Z f σ H Q->t σ H Q):DA X Z e f:=⟨PA.mono h k⟩
theorem DS.of(h:PS X e t)(k:∀E σ H,pA (wc X) Z f E σ H->t E σ H):DS X Z e f:=⟨PS.mono h k⟩
theorem DB.of(h:PSs X e t)(k:∀E σ H,pA (wc X) Z f E σ H->t E σ H):DB X Z e f:=⟨PSs.mono h k⟩
end DL
namespace DL
open PySem PySem.Spec L2
open PyProof.Rows hiding St
def Z4:Expr->Bool
 | .Starred ..=>false
 |_=>true
theorem B5(h:Z4 e=true):zP (e::es) env= (false,eval e env)::zP es env:=by
 cases e<;>first
  |rfl
  |exact kE h
theorem rA(h:Z4 e=true):zP [e] env= [(false,eval e env)]:=B5 h
theorem Mb(h:Z4 a=true)(h':Z4 b=true):zP [a,b] env= [(false,eval a env),(false,eval b env)]:=by rw[B5 h,rA h']
abbrev Fe:=DSt->M D
def b8(i:Nat):Fe:=λσ G=>match σ[i]? with
 |some (some d)=>some (.ok d,G)
 |_=>none
def cE(d:D):Fe:=λ_=>pure d
def c7(o:D->D->M D)(a b:Fe):Fe:=λσ=>do o (<-a σ) (<-b σ)
def unE(o:D->M D)(a:Fe):Fe:=λσ=>do o (<-a σ)
def g0:DSt->M (List D):=λ_=>pure []
def d0(a:Fe)(r:DSt->M (List D)):DSt->M (List D):=λσ=>do
 let x <-a σ
 let xs <-r σ
 pure (x::xs)
def x0(F:List D->M D)(a:DSt->M (List D)):Fe:=λσ=>do F (<-a σ)
def tD:D->M Bool
 | .bl b=>pure b
 |_=>M.stuck
def cO(a:Fe):Fe:=λσ=>do pure (.bl (!(<-tD (<-a σ))))
def ifE(t:DSt->M Bool)(a b:Fe):Fe:=λσ=>do if <-t σ then a σ else b σ
section
variable(c:Wc)(Z:XC)
def t9(o:D->D->M D):R2:=λx y H Q=>∃dx dy μ G,f9 c μ H dx x/\f9 c μ H dy y/\J0 c μ G H/\d9 c Z μ H (o dx dy G) λd X9 _ H'=>∀v,f9 c X9 H' d v->Q v H'
def gG(o:D->M D):V->Hp->VK->Prop:=λx H Q=>∃dx μ G,f9 c μ H dx x/\J0 c μ G H/\d9 c Z μ H (o dx G) λd X9 _ H'=>∀v,f9 c X9 H' d v->Q v H'
def SD(F:List D->M D):List V->Hp->VK->Prop:=λxs H Q=>∃ds μ G,u9 c μ H ds xs/\J0 c μ G H/\d9 c Z μ H (F ds G) λd X9 _ H'=>∀v,f9 c X9 H' d v->Q v H'
end
theorem t9.elim{P:Prop}{x:V}{y:V}{Q:VK}(h:t9 c Z o x y H Q)(k:∀dx dy μ G,f9 c μ H dx x->f9 c μ H dy y->J0 c μ G H->d9 c Z μ H (o dx dy G) (λd X9 _ H'=>∀v,f9 c X9 H' d v->Q v H')->P):P:=by
 obtain⟨e0,e1,e2,e3,e4,e5,e6,e7⟩:=h
 exact k e0 e1 e2 e3 e4 e5 e6 e7
theorem gG.elim{P:Prop}{x:V}{Q:VK}(h:gG c Z o x H Q)(k:∀dx μ G,f9 c μ H dx x->J0 c μ G H->d9 c Z μ H (o dx G) (λd X9 _ H'=>∀v,f9 c X9 H' d v->Q v H')->P):P:=by
 obtain⟨e0,e1,e2,e3,e4,e5⟩:=h
 exact k e0 e1 e2 e3 e4 e5
theorem SD.elim{P:Prop}{H:Hp}{Q:VK}(h:SD c Z F xs H Q)(k:∀ds μ G,u9 c μ H ds xs->J0 c μ G H->d9 c Z μ H (F ds G) (λd X9 _ H'=>∀v,f9 c X9 H' d v->Q v H')->P):P:=by
 obtain⟨e0,e1,e2,e3,e4,e5⟩:=h
 exact k e0 e1 e2 e3 e4 e5
structure OpD(X:Cx)(Z:XC)(f:zj->zj->Sem zj)(o:D->D->M D):Prop where
 h:OpR X f (t9 (wc X) Z o)
structure UnD(X:Cx)(Z:XC)(f:zj->Sem zj)(o:D->M D):Prop where
 h:UnR X f (gG (wc X) Z o)
structure C1(X:Cx)(Z:XC)(f:zj)(F:List D->M D):Prop where
 h:L1 X f (SD (wc X) Z F)
theorem OpR.mono(h:OpR X f r)(k:∀x y H Q,r' x y H Q->r x y H Q):OpR X f r':=λpins s σ H x y v u Q I rx ry q=>h pins s σ H x y v u Q I rx ry (k x y H Q q)
theorem L1.mono(h:L1 X f r)(k:∀xs H Q,r' xs H Q->r xs H Q):L1 X f r':=λpins s σ H xs us Q I rx q=>h pins s σ H xs us Q I rx (k xs H Q q)
theorem OpD.of(h:OpR X f r)(k:∀x y H Q,t9 (wc X) Z o x y H Q->r x y H Q):OpD X Z f o:=⟨OpR.mono h k⟩
theorem C1.of(h:L1 X f r)(k:∀xs H Q,SD (wc X) Z F xs H Q->r xs H Q):C1 X Z f F:=⟨L1.mono h k⟩
section
variable{X:Cx}{Z:XC}{a b c e:Expr}{pos:Pos}
theorem IF(σ:St)(H:Hp)(Q:VK)(h:D5 cc Z (c7 o fa fb) σ H Q):tOp (t9 cc Z o) (D5 cc Z fa) (D5 cc Z fb) σ H Q:=by
 obtain⟨Z6,μ,G,s,h,p⟩:=h
 exact⟨Z6,μ,G,s,h,(d9.bind p).mono λx X1 G1 H1 x' h1 p1 v rv=>⟨Z6,X1,G1,s.mono x',h1,(d9.bind p1).mono λy WZ G2 H2 x2 h2 p2 u ru=>⟨x,y,WZ,G2,rv.mono x2,ru,h2,p2⟩⟩⟩
theorem wf(h:PE X e (bL i)):DE X Z e (b8 i):=DE.of h λσ H Q hE0=>hE0.elim λZ6 μ G s h p=>by
 delta b8 at p
 rcases he:Z6[i]? with _|_|d
 ·rw[he]at p;exact p.elim
 ·rw[he]at p;exact p.elim
 · rw[he]at p
   obtain⟨v,e1,r⟩:=s.2 i d he
   exact⟨v,e1,d9.ok p h v r⟩
theorem GD(h:PE X e (tC v))(r:∀ μ H,f9 (wc X) μ H d v):DE X Z e (cE d):=DE.of h λσ H Q hE0=>hE0.elim λZ6 μ G s h p=>d9.ok p h v (r _ _)
theorem Mf{i j pos}:DE X Z (.Constant (.int i) j pos) (cE (.int i)):=GD dR λ_ _=>by unfold f9;rfl
theorem Rh{i j pos}:DE X Z (.Constant (.bool i) j pos) (cE (.bl i)):=GD Cj λ_ _=>by unfold f9;rfl
theorem HZ{j pos}:DE X Z (.Constant .none j pos) (cE .non):=GD Dh λ_ _=>by unfold f9;rfl
theorem Rq{i j pos}:DE X Z (.Constant (.str i) j pos) (cE (.str i)):=GD lS λ_ _=>by unfold f9;rfl
theorem Lg(i:Nat)(hN:X.N[i]? =some x)(hv:Vis X.env.scope x)(hd:(x==("__debug__" :Str))=false)
 (hcd:(x==("__classdict__" :Str))=false):DE X Z (.Name x pos) (b8 i):=wf (kT hN hv hd hcd)
theorem eS(ho:OpD X Z (jL op) o)(ha:DE X Z a fa)(hb:DE X Z b fb):DE X Z (.BinOp a op b pos) (c7 o fa fb):=
 DE.of (RH ho.h ha.h hb.h) IF
theorem ER(ho:OpD X Z (zT op) o)(ha:DE X Z a fa)(hb:DE X Z b fb)(hm:YR op b=false):DE X Z (.Compare a [op] [b] pos) (c7 o fa fb):=
 DE.of (Gh ho.h ha.h hb.h hm) IF
theorem nW(ho:UnD X Z (unaryOp op) o)(ha:DE X Z a fa):DE X Z (.UnaryOp op a pos) (unE o fa):=
 DE.of (qh ho.h ha.h) λσ H Q hE0=>hE0.elim λZ6 μ G s h p=>⟨Z6,μ,G,s,h,(d9.bind p).mono λx X1 G1 H1 x' h1 p1 v rv=>⟨x,X1,G1,rv,h1,p1⟩⟩
theorem uI{H:Hp}{d:D}{f:Bool->M α}{G:DH}{K:α->List Addr->DH->Hp->Prop}(p:d9 cc Z μ H ((tD d >>= f) G) K):∃k,d= .bl k/\d9 cc Z μ H (f k G) K:=by
 cases d with
 |bl k=>exact⟨k,rfl,p⟩
 |_=>exact p.elim
theorem lZ{op}(h:DE X Z a f):DE X Z (.BoolOp op [a] pos) f:=⟨KR h.h⟩
theorem Qv(ha:DE X Z a fa):DE X Z (.UnaryOp .Not a pos) (cO fa):=
 DE.of (dZ ha.h) λσ H Q hE0=>hE0.elim λZ6 μ G s h p=>⟨Z6,μ,G,s,h,(d9.bind p).mono λx X1 G1 H1 x' h1 p1 v rv=>by
  obtain⟨k',rfl,p2⟩:=uI p1
  unfold f9 at rv
  exact⟨k',rv,d9.ok p2 h1 _ (by unfold f9;rfl)⟩⟩
def m6(f:Fe):DSt->M Bool:=λσ=>do tD (<-f σ)
def S0(a b:DSt->M Bool):DSt->M Bool:=λσ=>do if <-a σ then b σ else pure false
def orT(a b:DSt->M Bool):DSt->M Bool:=λσ=>do if <-a σ then pure true else b σ
def c8(a:DSt->M Bool):DSt->M Bool:=λσ=>do pure (!(<-a σ))
structure DW(X:Cx)(Z:XC)(e:Expr)(f:DSt->M Bool):Prop where
 h:PW X e (FA (wc X) Z f)
theorem DW.of(h:PW X e t)(k:∀ σ H Q,FA (wc X) Z f σ H Q->t σ H Q):DW X Z e f:=⟨PW.mono h k⟩
variable{ta tb:DSt->M Bool}{T6:List Expr}
theorem DW.dt(h:DW X Z a ta):DT X Z a ta:=⟨λpins s σ H Q I q=>h.h _ pins s σ H Q I q⟩
theorem Ww(ho:OpD X Z (zT op) o)(ha:DE X Z a fa)(hb:DE X Z b fb)(hm:YR op b=false):DT X Z (.Compare a [op] [b] pos) (m6 (c7 o fa fb)):=
 DT.of (eU ho.h ha.h hb.h hm) λσ H Q hE0=>hE0.elim λZ6 μ G s h p=>IF σ H _ ⟨Z6,μ,G,s,h,(d9.bind p).mono λx X1 G1 H1 x' h1 p1 v rv=>by
  cases x with
  |bl k'=>unfold f9 at rv;exact⟨k',rv,d9.ok p1 h1⟩
  |_=>exact p1.elim⟩
theorem Sb(ha:DT X Z a ta):DW X Z (.BoolOp .And [a] pos) ta:=⟨MY ha.h⟩
theorem Vd(ha:DT X Z a ta):DW X Z (.BoolOp .Or [a] pos) ta:=⟨Pk ha.h⟩
theorem DX(ha:DT X Z a ta)(hb:DW X Z (.BoolOp .And (b::T6) pos) tb):DW X Z (.BoolOp .And (a::b::T6) pos) (S0 ta tb):=
 DW.of (Kv ha.h hb.h) λσ H Q hE0=>hE0.elim λZ6 μ G s h p=>⟨Z6,μ,G,s,h,(d9.bind p).mono λx X1 G1 H1 x' h1 p1=>by
  cases x with
  |true=>exact⟨Z6,X1,G1,s.mono x',h1,p1⟩
  |false=>exact d9.ok p1 h1⟩
theorem Cz(ha:DT X Z a ta)(hb:DW X Z (.BoolOp .Or (b::T6) pos) tb):DW X Z (.BoolOp .Or (a::b::T6) pos) (orT ta tb):=
 DW.of (Qd ha.h hb.h) λσ H Q hE0=>hE0.elim λZ6 μ G s h p=>⟨Z6,μ,G,s,h,(d9.bind p).mono λx X1 G1 H1 x' h1 p1=>by
  cases x with
  |false=>exact⟨Z6,X1,G1,s.mono x',h1,p1⟩
  |true=>exact d9.ok p1 h1⟩
theorem KZ(ha:DT X Z a ta):DT X Z (.UnaryOp .Not a pos) (c8 ta):=
 DT.of (pS ha.h) λσ H Q hE0=>hE0.elim λZ6 μ G s h p=>⟨Z6,μ,G,s,h,(d9.bind p).mono λx X1 G1 H1 x' h1 p1=>d9.ok p1 h1⟩
theorem RY(hc:DT X Z c ta)(ha:DE X Z a fa)(hb:DE X Z b fb):DE X Z (.IfExp c a b pos) (ifE ta fa fb):=
 DE.of (dO5 hc.h ha.h hb.h) λσ H Q hE0=>hE0.elim λZ6 μ G s h p=>⟨Z6,μ,G,s,h,(d9.bind p).mono λx X1 G1 H1 x' h1 p1=>by
  cases x with
  |true=>exact⟨Z6,X1,G1,s.mono x',h1,p1⟩
  |false=>exact⟨Z6,X1,G1,s.mono x',h1,p1⟩⟩
theorem tI:DA X Z [] g0:=DA.of Fm λσ H Q hE0=>hE0.elim λZ6 μ G s h p=>d9.ok p h [] rfl
theorem LJ(ha:DE X Z e fa)(hr:DA X Z es fs)(hs:zP (e::es) X.env= (false,eval e X.env)::zP es X.env):DA X Z (e::es) (d0 fa fs):=
 DA.of (Rj ha.h hr.h hs) λσ H Q hE0=>hE0.elim λZ6 μ G s h p=>⟨Z6,μ,G,s,h,(d9.bind p).mono λx X1 G1 H1 x' h1 p1 v rv=>
  ⟨Z6,X1,G1,s.mono x',h1,(d9.bind p1).mono λxs WZ G2 H2 x2 h2 p2 vs rvs=>d9.ok p2 h2 (v::vs) ⟨v,vs,rfl,rv.mono x2,rvs⟩⟩⟩
def J9(fs:DSt->M (List D)):Fe:=λσ=>do
 let xs <-fs σ
 if xs.length<=zg then pure (.tup xs)else M.stuck
def N7(o:DO):M D:=λG=>some (.ok (.ref G.length),G++[o])
def T7(fs:DSt->M (List D)):Fe:=λσ=>do
 let xs <-fs σ
 if xs.length<=zg then N7 (.lst xs)else M.stuck
theorem dE{G:DH}{Q:VK}(h:J0 cc μ G H)(r:u9 cc μ H xs vs)
 (p:d9 cc Z μ H (some (Except.ok (.tup xs),G)) λd X9 _ H'=>∀v,f9 cc X9 H' d v->Q v H') (q:Addr) (hq:H q=none):Q (.ref q) (upd H q (.tup vs)):=by
 have k:Ext μ H μ (upd H q (.tup vs)):=Ext.lay hq _
 refine p μ _ k (h.same k λa o e n=>?_) _ ?_
 ·rw[v7 (v6 e hq)];exact e
 · unfold f9
   exact⟨q,vs,rfl,SqT.of N8,r.mono k⟩
theorem V3{G:DH}{Q:VK}(h:J0 cc μ G H)(r:u9 cc μ H xs vs)
 (p:d9 cc Z μ H (N7 (.lst xs) G) λd X9 _ H'=>∀v,f9 cc X9 H' d v->Q v H') (q:Addr) (hq:H q=none):Q (.ref q) (upd H q (.lst vs)):=by
 have k:Ext μ H (μ++[q]) (upd H q (.lst vs)):=Ext.add hq _
 refine p (μ++[q]) _ k (h.new hq ⟨vs,N8,r.mono k⟩) _ ?_
 unfold f9
 exact⟨q,by rw[<-h.len];simp,rfl⟩
theorem vh{x1}(h:DA X Z es fs):DE X Z (.Tuple es x1 pos) (J9 fs):=
 DE.of (ww h.h) λσ H Q hE0=>hE0.elim λZ6 μ G s h p=>⟨Z6,μ,G,s,h,(d9.bind p).mono λxs X1 G1 H1 x' h1 p1 vs rv=>by
  split at p1
  · rename_i hz
    exact⟨by rw[<-rv.length];exact hz,λq hq=>dE h1 rv p1 q hq⟩
  ·exact p1.elim⟩
theorem iU(h:DA X Z es fs):DE X Z (.List es pos) (T7 fs):=
 DE.of (eQ8 h.h) λσ H Q hE0=>hE0.elim λZ6 μ G s h p=>⟨Z6,μ,G,s,h,(d9.bind p).mono λxs X1 G1 H1 x' h1 p1 vs rv=>by
  split at p1
  · rename_i hz
    exact⟨by rw[<-rv.length];exact hz,λq hq=>V3 h1 rv p1 q hq⟩
  ·exact p1.elim⟩
theorem kP(σ:St)(H:Hp)(Q:VK)(h:D5 cc Z (x0 F fs) σ H Q):tCB (SD cc Z F) (MD cc Z fs) σ H Q:=by
 obtain⟨Z6,μ,G,s,h,p⟩:=h
 exact⟨Z6,μ,G,s,h,(d9.bind p).mono λx X1 G1 H1 x' h1 p1 vs rv=>⟨x,X1,G1,rv,h1,p1⟩⟩
theorem iT{id:String}(hc:C1 X Z (.builtin id) F)(hg:Gl X x)(hm:X.mg x=none)(hv:zV x=some (.builtin id))(ha:DA X Z (e::es) fs)(hn:x≠ "__name__")(hdb:(x==("__debug__" :Str))=false)
 (he:zP (e::es) X.env= (false,eval e X.env)::zP es X.env) (hpl:(yS pos (zP es X.env)).any (·.1)=false):DE X Z (.Call (.Name x p) (e::es) [] pos) (x0 F fs):=
 DE.of (Df hc.h hg hm hv ha.h hn hdb he hpl) kP
theorem IW(hc:C1 X Z (.type T) F)(hg:Gl X x)(hm:X.mg x=none)(hv:zV x=some (.type T))(ha:DA X Z (e::es) fs)(hn:x≠ "__name__")(hdb:(x==("__debug__" :Str))=false)
 (he:zP (e::es) X.env= (false,eval e X.env)::zP es X.env) (hpl:(yS pos (zP es X.env)).any (·.1)=false):DE X Z (.Call (.Name x p) (e::es) [] pos) (x0 F fs):=
 DE.of (Tw hc.h hg hm hv ha.h hn hdb he hpl) kP
def spD(c:Wc)(n:Nat)(F:List D->M D):Sp:=λvs H Q _=>vs.length=n/\∃ds μ G,u9 c μ H ds vs/\J0 c μ G H/\d9 c ZF μ H (F ds G) λd X9 _ H'=>∀v,f9 c X9 H' d v->Q v H'
def noX{α:Type}(m:M α):M α:=λG=>match m G with
 |some (.ok a,G1)=>some (.ok a,G1)
 |_=>none
theorem NA{H:Hp}{G:DH}{K:α->List Addr->DH->Hp->Prop}(p:d9 cc Z μ H (noX m G) K):d9 cc ZF μ H (m G) K:=by
 unfold noX at p
 match m G,p with
 |some (.ok a,G1),p=>exact p
 |some (.error x,G1),p=>exact p.elim
 |none,p=>exact p.elim
def fnX(n:Nat)(F:List D->M D):List D->M D:=λds=>if ds.length=n then noX (F ds)else M.stuck
theorem rP{H:Hp}{n:Nat}{G:DH}{K:D->List Addr->DH->Hp->Prop}(p:d9 cc Z μ H (fnX n F ds G) K):ds.length=n/\d9 cc ZF μ H (F ds G) K:=by
 unfold fnX at p
 split at p
 ·rename_i h;exact⟨h,NA p⟩
 ·exact p.elim
theorem Qk(hF:M0 X.prog X.w X.K X.mg X.base CX0 k f fd ps (spD (wc X) n F))(hr:U4 k X.A)(hg:Gl X x)(hm:X.mg x=some (.ref f))(hk:ya X.K (.ref f)=true)(hb:n4 X.K fd ps [])
 (ha:DA X Z (e::es) fs)
 (hdb:(x==("__debug__" :Str))=false) (he:zP (e::es) X.env= (false,eval e X.env)::zP es X.env) (hpl:(yS pos (zP es X.env)).any (·.1)=false):
 DE X Z (.Call (.Name x p) (e::es) [] pos) (x0 (fnX n F) fs):=
 DE.of (aS hF hr hg hm hk hb .nil RD ha.h hdb he hpl) λσ H Q hE0=>hE0.elim λZ6 μ G s h p=>by
  refine⟨Z6,μ,G,s,h,(d9.bind p).mono λds' X1 G1 H1 x' h1 p1 vs rv=>?_⟩
  obtain⟨hl,p2⟩:=rP p1
  show spD (wc X) n F (vs++[]) H1 Q E0
  rw[yz]
  exact⟨by rw[<-rv.length];exact hl,ds',X1,G1,rv,h1,p2⟩
end
abbrev Fs:=DSt->M Fl
def m9:Fs:=λσ=>pure (.nx σ)
def j6(a b:Fs):Fs:=λσ=>do
 match <-a σ with
 | .nx X2=>b X2
 |r=>pure r
def t6(f:Fe):Fs:=λσ=>do pure (.rt (<-f σ))
def C7(f:Fe):Fs:=λσ=>do
 let _ <-f σ
 pure (.nx σ)
def ifS(t:DSt->M Bool)(a b:Fs):Fs:=λσ=>do if <-t σ then a σ else b σ
abbrev Fg:=D->DSt->M DSt
abbrev Fgs:=List D->DSt->M DSt
def y0(i:Nat):Fg:=λd σ=>pure (σ.set i (some d))
def S4:Fgs:=λds σ=>match ds with
 |[]=>pure σ
 |_=>M.stuck
def W9(g:Fg)(r:Fgs):Fgs:=λds σ=>match ds with
 |d::t=>do r t (<-g d σ)
 |[]=>M.stuck
def A5(n:Nat)(g:Fgs):Fg:=λd σ=>match d with
 | .tup l=>if l.length=n then g l σ else M.stuck
 |_=>M.stuck
def v8(f:Fe)(g:Fg):Fs:=λσ=>do
 let d <-f σ
 let X2 <-g d σ
 pure (.nx X2)
section
variable(c:Wc)(Z:XC)
def qB(g:Fg):TG:=λv σ H Q=>∃d Z6 μ G,f9 c μ H d v/\M6 c μ H Z6 σ/\J0 c μ G H/\d9 c Z μ H (g d Z6 G) λWW X9 _ H'=>∀ X2,M6 c X9 H' WW X2->Q X2 H'
def WE(g:Fgs):TGs:=λvs σ H Q=>∃ds Z6 μ G,u9 c μ H ds vs/\M6 c μ H Z6 σ/\J0 c μ G H/\d9 c Z μ H (g ds Z6 G) λWW X9 _ H'=>∀ X2,M6 c X9 H' WW X2->Q X2 H'
end
theorem qB.elim{P:Prop}{v:V}{σ:St}{H:Hp}(h:qB c Z g v σ H Q)(k:∀d Z6 μ G,f9 c μ H d v->M6 c μ H Z6 σ->J0 c μ G H->d9 c Z μ H (g d Z6 G) (λWW X9 _ H'=>∀ X2,M6 c X9 H' WW X2->Q X2 H')->P):P:=by
 obtain⟨e0,e1,e2,e3,e4,e5,e6,e7⟩:=h
 exact k e0 e1 e2 e3 e4 e5 e6 e7
theorem WE.elim{Z:XC}{P:Prop}{σ:St}{H:Hp}(h:WE c Z g vs σ H Q)(k:∀ds Z6 μ G,u9 c μ H ds vs->M6 c μ H Z6 σ->J0 c μ G H->d9 c Z μ H (g ds Z6 G) (λWW X9 _ H'=>∀ X2,M6 c X9 H' WW X2->Q X2 H')->P):P:=by
 obtain⟨e0,e1,e2,e3,e4,e5,e6,e7⟩:=h
 exact k e0 e1 e2 e3 e4 e5 e6 e7
structure DG(X:Cx)(Z:XC)(tg:Expr)(g:Fg):Prop where
 h:PG X tg (qB (wc X) Z g)
structure DGs(X:Cx)(Z:XC)(tgs:List Expr)(g:Fgs):Prop where
 h:PGs X tgs (WE (wc X) Z g)
theorem PG.mono(h:PG X e t)(k:∀v σ H Q,t' v σ H Q->t v σ H Q):PG X e t':=λpins s σ H v u Q I r q=>h pins s σ H v u Q I r (k v σ H Q q)
theorem PGs.mono(h:PGs X e t)(k:∀v σ H Q,t' v σ H Q->t v σ H Q):PGs X e t':=λpins s σ H v u Q I r q=>h pins s σ H v u Q I r (k v σ H Q q)
theorem DG.of(h:PG X e t)(k:∀v σ H Q,qB (wc X) Z g v σ H Q->t v σ H Q):DG X Z e g:=⟨PG.mono h k⟩
theorem DGs.of(h:PGs X e t)(k:∀v σ H Q,WE (wc X) Z g v σ H Q->t v σ H Q):DGs X Z e g:=⟨PGs.mono h k⟩
section
variable{X:Cx}{Z:XC}{st:Stmt}{T6 sa sb:List Stmt}{f g:Fs}
theorem eO3:DB X Z [] m9:=DB.of eI4 λE σ H hE0=>hE0.elim λZ6 μ G s h p=>d9.ok p h σ s
theorem GX(h:J0 cc μ G H)
 (p:d9 cc Z μ H ((match fl with| .nx X2=>g X2|r=>pure r:M Fl) G) λfl X9 _ H'=>oA cc E fl X9 H'):oA cc {E with nx:=pA cc Z g E} fl μ H:=by
 cases fl with
 |nx Z6=>exact λσ s=>⟨Z6,μ,G,s,h,p⟩
 |rt d=>exact d9.ok p h
 |bk Z6=>exact d9.ok p h
 |ct Z6=>exact d9.ok p h
theorem UK(h1:DS X Z st f)(h2:DB X Z T6 g):DB X Z (st::T6) (j6 f g):=
 DB.of (Bw h1.h h2.h) λE σ H hE0=>hE0.elim λZ6 μ G s h p=>⟨Z6,μ,G,s,h,(d9.bind p).mono λfl X1 G1 H1 x' h1 p1=>GX h1 p1⟩
theorem fM(h1:DS X Z st f):DB X Z [st] f:=⟨eT h1.h⟩
theorem Kc(he:DE X Z e fa)(hs:JY e none pos.line X.env=pure false):DS X Z (.Expr e pos) (C7 fa):=
 DS.of (dZ6 he.h hs) λE σ H hE0=>hE0.elim λZ6 μ G s h p=>⟨Z6,μ,G,s,h,(d9.bind p).mono λd X1 G1 H1 x' h1 p1 v rv=>d9.ok p1 h1 σ (s.mono x')⟩
theorem gZ(he:DE X Z e fa):DS X Z (.Return (some e) pos) (t6 fa):=
 DS.of (rV he.h) λE σ H hE0=>hE0.elim λZ6 μ G s h p=>⟨Z6,μ,G,s,h,(d9.bind p).mono λd X1 G1 H1 x' h1 p1 v rv=>d9.ok p1 h1 v rv⟩
theorem CV(hc:DT X Z c t)(ha:DB X Z sa f)(hb:DB X Z sb g):DS X Z (.If c sa sb pos) (ifS t f g):=
 DS.of (Pg hc.h ha.h hb.h) λE σ H hE0=>hE0.elim λZ6 μ G s h p=>⟨Z6,μ,G,s,h,(d9.bind p).mono λx X1 G1 H1 x' h1 p1=>by
  cases x with
  |true=>exact⟨Z6,X1,G1,s.mono x',h1,p1⟩
  |false=>exact⟨Z6,X1,G1,s.mono x',h1,p1⟩⟩
theorem pO{x:Str}(hN:X.N.Nodup)(hi:X.N[i]? =some x)(hx:Loc X.env.scope x)(hf:X.fn x=true\/X.env.scope.names.lookup x=some .local):DG X Z (.Name x pos) (y0 i):=
 DG.of (kY hN hi hx hf) λv σ H Q hE0=>hE0.elim λd Z6 μ G r s h p=>d9.ok p h _ (s.put r i)
theorem mR:DGs X Z [] S4:=DGs.of vd λvs σ H Q hE0=>hE0.elim λds Z6 μ G r s h p=>by
 cases ds with
 |nil=>cases r;exact⟨rfl,d9.ok p h _ s⟩
 |cons _ _=>exact p.elim
theorem EV(h1:DG X Z e gg)(h2:DGs X Z es gr)(hs:(yT (e::es) X.env).map (·.2)=ZW e X.env::(yT es X.env).map (·.2)):DGs X Z (e::es) (W9 gg gr):=
 DGs.of (wz h1.h h2.h hs) λvs σ H Q hE0=>hE0.elim λds Z6 μ G r s h p=>by
  cases ds with
  |nil=>exact p.elim
  |cons d t=>
    obtain⟨v,vr,rfl,rv,rt⟩:=r
    exact⟨v,vr,rfl,d,Z6,μ,G,rv,s,h,(d9.bind p).mono λdσ1 X1 G1 H1 x' h1 p1 WY s1=>⟨t,dσ1,X1,G1,rt.mono x',s1,h1,p1⟩⟩
theorem cS{gs:Fgs}(hc:X.calm=true)(h:DGs X Z es gs)(hn:(yT es X.env).length=n)(hst:(yT es X.env).findIdx? (·.1)=none):DG X Z (.Tuple es k pos) (A5 n gs):=
 DG.of (CY hc h.h hn hst) λv σ H Q hE0=>hE0.elim λd Z6 μ G r s h p=>by
  cases d with
  |tup l=>
    unfold f9 at r
    obtain⟨a,vs,rfl,q,rl⟩:=r
    have p':d9 (wc X) Z μ H ((if l.length=n then gs l Z6 else M.stuck:M DSt) G) λWW X9 _ H'=>∀ X2,M6 (wc X) X9 H' WW X2->Q X2 H':=p
    split at p'
    · rename_i hl
      exact⟨a,vs,rfl,q,by rw[<-rl.length];exact hl,l,Z6,μ,G,rl,s,h,p'⟩
    ·exact p'.elim
  |_=>exact p.elim
theorem Qf(he:DE X Z e fa)(hg:DG X Z tg gg)(hs:swapsWithSole [tg] e pos.line X.env=pure false)(hw:swappedStores [tg] e X.env=pure none)
 (h1:(yT [tg] X.env).map (·.2)= [ZW tg X.env]):DS X Z (.Assign [tg] e pos) (v8 fa gg):=
 DS.of (VY he.h hg.h hs hw h1) λE σ H hE0=>hE0.elim λZ6 μ G s h p=>⟨Z6,μ,G,s,h,(d9.bind p).mono λd X1 G1 H1 x' h1 p1 v rv=>
  ⟨d,Z6,X1,G1,rv,s.mono x',h1,(d9.bind p1).mono λdσ2 WZ G2 H2 x2 h2 p2 σ2 s2=>d9.ok p2 h2 σ2 s2⟩⟩
end
def W0:Nat->(DSt->M Bool)->Fs->Fs
 |0,_,_=>λ_=>M.stuck
 |n+1,t,b=>λσ=>do
   if <-t σ then
    match <-b σ with
    | .nx X2=>W0 n t b X2
    | .ct X2=>W0 n t b X2
    | .bk X2=>pure (.nx X2)
    | .rt d=>pure (.rt d)
   else pure (.nx σ)
open Classical in
def bB(t:DSt->M Bool)(b:Fs):Fs:=λσ G=>if h:∃n,(W0 n t b σ G).isSome=true then W0 (Yu h) t b σ G else none
theorem M.bind_mono{f g:α->M β}{r:Except Str β×DH}(h:(m >>= f) G=some r)(k:∀a G',f a G'=some r->g a G'=some r):(m >>= g) G=some r:=by
 rw[M.bind_eq]at h ⊢
 match m G,h with
 |some (.ok a,G'),h=>exact k a G' h
 |some (.error x,G'),h=>exact h
theorem WI{t:DSt->M Bool}:∀ {n} {σ} {G:DH} {r:Except Str Fl×DH},W0 n t b σ G=some r->W0 (n+1) t b σ G=some r
 |0,_,_,_,h=>by exact J7 h
 |n+1,σ,G,r,h=>by
   unfold W0 at h ⊢
   refine M.bind_mono h λc G1 h1=>?_
   cases c with
   |true=>
     refine M.bind_mono h1 λfl G2 h2=>?_
     cases fl with
     |nx X2=>exact WI h2
     |ct X2=>exact WI h2
     |bk X2=>exact h2
     |rt d=>exact h2
   |false=>exact h1
theorem gP(hm:n<=m)(h:W0 n t b σ G=some r):W0 m t b σ G=some r:=by
 induction hm with
 |refl=>exact h
 |step _ ih=>exact WI ih
section
theorem KU(hp:PassesOwn (zH X.prog X.w) X.A X.env X.xe)(hc:DT X Z c t)(hb:DB X Z body f):DS X Z (.While c body [] pos) (bB t f):=
 DS.of (UX hp hc.h hb.h) λE σ H hE0=>hE0.elim λZ6 μ G s h p=>by
  unfold bB at p
  split at p
  · rename_i ex
    refine⟨λm σ H=>∃Z6 μ G,M6 (wc X) μ H Z6 σ/\J0 (wc X) μ G H/\d9 (wc X) Z μ H (W0 m t f Z6 G) λfl X9 _ H'=>oA (wc X) E fl X9 H',⟨_,Z6,μ,G,s,h,p⟩,?_⟩
    rintro m σ H ⟨Z6,μ,G,s,h,p⟩
    cases m with
    |zero=>exact p.elim
    |succ m=>
      refine⟨Z6,μ,G,s,h,(d9.bind p).mono λx X1 G1 H1 x' h1 p1=>?_⟩
      cases x with
      |false=>exact d9.ok p1 h1 σ (s.mono x')
      |true=>
        refine⟨λX2 H'=>∃Z6 μ G,M6 (wc X) μ H' Z6 X2/\J0 (wc X) μ G H'/\d9 (wc X) Z μ H' (W0 m t f Z6 G) λfl X9 _ H'=>oA (wc X) E fl X9 H',λX2 H' w=>⟨m,xP _,w⟩,Z6,X1,G1,s.mono x',h1,(d9.bind p1).mono λfl WZ G2 H2 x2 h2 p2=>?_⟩
        cases fl with
        |nx WW=>exact λX2 s'=>⟨WW,WZ,G2,s',h2,p2⟩
        |ct WW=>exact λX2 s'=>⟨WW,WZ,G2,s',h2,p2⟩
        |bk WW=>exact λX2 s'=>d9.ok p2 h2 X2 s'
        |rt d=>exact λv r=>d9.ok p2 h2 v r
  ·exact p.elim
end
def H0(g:Fg)(b:Fs)(ck:DH->Bool):List D->Fs
 |[]=>λσ G=>if ck G then some (.ok (.nx σ),G)else none
 | d :: r => λσ G => if ck G then (do
    match <-b (<-g d σ) with
    | .nx X2=>H0 g b ck r X2
    | .ct X2=>H0 g b ck r X2
    | .bk X2=>pure (.nx X2)
    | .rt d=>pure (.rt d):M Fl) G else none
structure Src where
 items:List D
 ck:DH->Bool
def S1(it:DSt->M Src)(g:Fg)(b:Fs):Fs:=λσ=>do
 let s <-it σ
 H0 g b s.ck s.items σ
def ItD(c:Wc)(μ:List Addr)(H:Hp)(J:It)(s:Src):Prop:=∀ X9 G' H',Ext μ H X9 H'->J0 c X9 G' H'->s.ck G'=true->∀i:Nat,
 (∀d,s.items[i]? =some d->J.go i H'/\∀x H2,J.yld i H' x H2->Ext X9 H' X9 H2/\J0 c X9 G' H2/\f9 c X9 H2 d x)/\(s.items.length<=i->J.stop i H')
def BG(c:Wc)(Z:XC)(it:DSt->M Src):TI:=λσ H R=>∃Z6 μ G,M6 c μ H Z6 σ/\J0 c μ G H/\d9 c Z μ H (it Z6 G) λs X9 _ H'=>∀J,ItD c X9 H' J s->R J H'
theorem BG.elim{P:Prop}{σ:St}{H:Hp}(h:BG c Z it σ H R)(k:∀Z6 μ G,M6 c μ H Z6 σ->J0 c μ G H->d9 c Z μ H (it Z6 G) (λs X9 _ H'=>∀J,ItD c X9 H' J s->R J H')->P):P:=by
 obtain⟨e0,e1,e2,e3,e4,e5⟩:=h
 exact k e0 e1 e2 e3 e4 e5
structure DI(X:Cx)(Z:XC)(tg e:Expr)(it:DSt->M Src):Prop where
 h:PI X tg e (BG (wc X) Z it)
theorem PI.mono(h:PI X tg e t)(k:∀ σ H R,t' σ H R->t σ H R):PI X tg e t':=λpins s σ H R I q=>h pins s σ H R I (k σ H R q)
theorem DI.of(h:PI X tg e t)(k:∀ σ H R,BG (wc X) Z it σ H R->t σ H R):DI X Z tg e it:=⟨PI.mono h k⟩
section
def lY(c:Wc)(E:eA)(fl:Fl)(μ:List Addr)(_:DH)(H:Hp):Prop:=oA c E fl μ H
inductive NO(c:Wc)(Z:XC)(gg:Fg)(f:Fs)(sr:Src)(E:eA)(X1:List Addr)(H1:Hp)(i:Nat)(σ:St)(H:Hp):Prop
 |mk (Z6:DSt) (μ:List Addr) (G:DH) (k:Ext X1 H1 μ H) (s:M6 c μ H Z6 σ) (h:J0 c μ G H) (p:d9 c Z μ H (H0 gg f sr.ck (sr.items.drop i) Z6 G) (lY c E))
theorem aV(hp:PassesOwn (zH X.prog X.w) X.A X.env X.xe)(hc:X.calm=true)(hi:DI X Z tg iter it)(hg:DG X Z tg gg)(hb:DB X Z body f)(hs:∀x,yG iter X.env x=pure x):
 DS X Z (.For tg iter body [] pos) (S1 it gg f):=
 DS.of (Gw hp hc hi.h hg.h hb.h hs) λE σ H hE0=>hE0.elim λZ6 μ G s h p=>⟨Z6,μ,G,s,h,(d9.bind p).mono λsr X1 G1 H1 x' h1 p1 J hJ=>by
  refine⟨λi m X2 H'=>m=sr.items.length-i/\i<=sr.items.length/\NO (wc X) Z gg f sr E X1 H1 i X2 H',
   ⟨sr.items.length,rfl,zY _,Z6,X1,G1,Ext.refl _ _,s.mono x',h1,p1⟩,?_⟩
  rintro i m X2 H' ⟨rfl,hi',WW,X9,G',k',s',h',p'⟩
  by_cases hlt:i<sr.items.length
  · rw[xg hlt]at p'
    unfold H0 at p'
    split at p'
    · rename_i ck
      obtain⟨q1,_⟩:=hJ X9 G' H' k' h' ck i
      obtain⟨go,yl⟩:=q1 _ (ze hlt)
      refine .inr ⟨go,λσ2 H2=>NO (wc X) Z gg f sr E X1 H1 (i+1) σ2 H2,λσ2 H2 w=>⟨sr.items.length-(i+1),Yb _ _ hlt,rfl,hlt,w⟩,λx H2 y=>?_⟩
      obtain⟨k2,h2,rx⟩:=yl x H2 y
      have p2:=d9.bind (p'.from k2)
      refine⟨_,WW,X9,G',rx,s'.mono k2,h2,p2.mono λdσ3 WP G3 H3 x3 h3 p3 WR s3=>?_⟩
      refine⟨dσ3,WP,G3,s3,h3,(d9.bind p3).mono λfl WM G4 H4 x4 h4 p4=>?_⟩
      cases fl with
      |nx dσ4=>exact λσ4 s4=>⟨dσ4,WM,G4,k'.trans (k2.trans (x3.trans x4)),s4,h4,p4⟩
      |ct dσ4=>exact λσ4 s4=>⟨dσ4,WM,G4,k'.trans (k2.trans (x3.trans x4)),s4,h4,p4⟩
      |bk dσ4=>exact λσ4 s4=>d9.ok p4 h4 σ4 s4
      |rt d=>exact λv r=>d9.ok p4 h4 v r
    ·exact p'.elim
  · have e:i=sr.items.length:=Nat.le_antisymm hi' (Nat.le_of_not_lt hlt)
    subst e
    rw[List.drop_length]at p'
    unfold H0 at p'
    split at p'
    · rename_i ck
      obtain⟨_,q2⟩:=hJ X9 G' H' k' h' ck sr.items.length
      exact .inl ⟨q2 (zo _),d9.ok p' h' X2 s'⟩
    ·exact p'.elim⟩
end
def E4(env:Env):List (Str×NameKind)->List (Str×Addr)->List (Str×Addr)
 |[],cs=>cs
 |(n,k)::r,cs=>E4 env r (if k == .free then (match env.cells.lookup n with|some c=>(n,c)::cs|none=>cs)else cs)
theorem fN:∀l cs,(∀p∈l,p.2= .free->∃c,env.cells.lookup p.1=some c)->
 (forIn l cs (fun(x:Str×NameKind) (cs:List (Str×Addr))=>(match x with|(name,kind)=>if (kind==NameKind.free)=true then do let c <-cellOf env name;pure (ForInStep.yield ((name,c)::cs))else pure (ForInStep.yield cs):Sem (ForInStep (List (Str×Addr))))):Sem (List (Str×Addr)))=pure (E4 env l cs)
 |[],cs,_=>rfl
 |(n,k)::r,cs,h=>by
  have ih:=λcs'=>fN r cs' λp hp=>h p (zn _ hp)
  rw[ZH]
  unfold E4
  rcases hk:(k==NameKind.free)with _|_
  ·
    have e:(match ((n,k):Str×NameKind) with|(name,kind)=>if (kind==NameKind.free)=true then do let c <-cellOf env name;pure (ForInStep.yield ((name,c)::cs))else pure (ForInStep.yield cs):Sem (ForInStep (List (Str×Addr))))=pure (ForInStep.yield cs):=by
     show (if (k==NameKind.free)=true then _ else _)=_
     rw[hk];rfl
    rw[e]
    exact ih cs
  ·
    obtain⟨c,hc⟩:=h (n,k) zt (by simpa using hk)
    have hcell:cellOf env n=pure c:=by unfold cellOf;rw[hc]
    have e:(match ((n,k):Str×NameKind) with|(name,kind)=>if (kind==NameKind.free)=true then do let c <-cellOf env name;pure (ForInStep.yield ((name,c)::cs))else pure (ForInStep.yield cs):Sem (ForInStep (List (Str×Addr))))=pure (ForInStep.yield ((n,c)::cs)):=by
     show (if (k==NameKind.free)=true then (do let c <-cellOf env n;pure (ForInStep.yield ((n,c)::cs)))else _)=_
     rw[hk,hcell];rfl
    rw[e,hc]
    exact ih ((n,c)::cs)
theorem NZ(h:∀p∈scope.names,p.2= .free->∃c,env.cells.lookup p.1=some c):closureFor scope env=pure (E4 env scope.names []):=by
 have q:=fN scope.names [] h
 unfold closureFor
 dsimp only
 rw[q]
 rfl
theorem TN:∀l cs,(cs.lookup x=some c->env.cells.lookup x=some c)->(E4 env l cs).lookup x=some c->env.cells.lookup x=some c
 |[],cs,h,e=>h e
 |(n,k)::r,cs,h,e=>by
  unfold E4 at e
  refine TN r _ (λe1=>?_) e
  split at e1
  · split at e1
    · rename_i c' hc
      rw[yn]at e1
      split at e1
      · rename_i hx
        have hx':x=n:=by simpa using hx
        subst hx'
        cases e1
        exact hc
      ·exact h e1
    ·exact h e1
  ·exact h e1
theorem P9(h:(E4 env l []).lookup x=some c):env.cells.lookup x=some c:=TN l [] (λz=>by exact J7 z) h
theorem EM:∀l cs,(∃c,cs.lookup x=some c)->∃c,(E4 env l cs).lookup x=some c
 |[],cs,h=>h
 |(n,k)::r,cs,h=>by
  unfold E4
  refine EM r _ ?_
  split
  · split
    · rename_i c' hc
      rw[yn]
      split
      ·exact⟨_,rfl⟩
      ·exact h
    ·exact h
  ·exact h
theorem dJ(hc:env.cells.lookup x=some c):∀l cs,(x,NameKind.free)∈l->∃c,(E4 env l cs).lookup x=some c
 |[],cs,h=>by simp at h
 |(n,k)::r,cs,h=>by
  unfold E4
  rcases zp.mp h with e|h
  · cases e
    refine EM r _ ?_
    rw[hc]
    simp
  ·exact dJ hc r _ h
section
theorem Nj(I:Nat->zv->Prop)
 (turn:∀n s,I n s->zC (zH prog w) A (ZV it) (λr X0=>match r with
   |none=>R (.ok .next) X0
   | some v => zC (zH prog w) A (xp target it v) (λ_ s₁' => zC (zH prog w) A (ZW target env v) (λ_ s₂ =>
      zC (zH prog w) A (forIn ifs true λc r=>if r=true then do let ok <-isTrue c env (eval c env);pure (ForInStep.yield ok)else pure (ForInStep.yield r)) (λok s₃=>
       if ok=true then zC (zH prog w) A (eval elt env) (λx s₄=>
        zC (zH prog w) A (call (.builtin "list.append") [acc,x]) (λ_ s₅=>∃m,m<n/\I m s₅) (λ_ _=>False) s₄) (λ_ _=>False) s₃
       else ∃m,m<n/\I m s₃) (λ_ _=>False) s₂) (λ_ _=>False) s₁') (λ_ _=>False) X0) (λ_ _=>False) s)
 (n:Nat) (h:I n s):
 Zw (zH prog w) A (.compLoop (.ListComp elt [⟨target,iter,ifs,0⟩] scope pos) 0 it acc env) R s:=by
 refine codeAny_loop rfl I (λn s hI=>?_) n h
 show zC _ A ((compTurn (.ListComp elt [⟨target,iter,ifs,0⟩] scope pos) 0 it acc env).onRaise (λx=>do noteFrame x env;theTreesLotGoes x)) _ _ s
 refine wpAny_noted ?_
 rw[compTurn_list]
 refine za (ZC (za (jE (turn n s hI) (λr X0 h₁=>?_) λ_ _ h'=>h'.elim)))
 rcases r with _|v
 ·exact zq h₁
 ·
   refine za (jE h₁ (λ_ s₁' h₁'=>?_) λ_ _ h'=>h'.elim)
   refine za (jE h₁' (λ_ s₂ h₂=>za (jE h₂ (λok s₃ h₃=>?_) λ_ _ h'=>h'.elim)) λ_ _ h'=>h'.elim)
   rcases ok with _|_
   ·
     exact zq ⟨rfl,h₃⟩
   ·
     exact za (za (jE h₃ (λx s₄ h₄=>za (jE h₄ (λ_ s₅ h₅=>zq (zq ⟨rfl,h₅⟩)) λ_ _ h'=>h'.elim)) λ_ _ h'=>h'.elim))
end
def U0(X:Cx)(scope:Scope)(N:List Str)(C:Addr)(s:zv)(H:Hp)(ex:List Addr):Cx where
 prog:=X.prog
 w:=X.w
 K:=X.K
 mg:=X.mg
 base:=X.base
 A:=X.A
 N:=N
 WX:=s
 H₀:=H
 env:=compEnvC scope (E4 X.env scope.names []) C X.env
 outer:=X.stack
 stack:=X.stack
 ex:=ex
 fn:=λ_=>false
 calm:=X.calm
 pn:= []
 xe:=λ_ _=>False
structure A4(X:Cx)(scope:Scope)(N:List Str)(caps:List (Option Nat)):Prop where
 kind:scope.kind= .function
 cell:∀y∈scope.names,y.2≠ .cell
 names:∀y∈scope.names,y.2= .local->scope.names.lookup y.1=some .local
 free:∀y∈scope.names,y.2= .free->X.env.kindOf y.1=some .cell\/X.env.kindOf y.1=some .free
 frees:∀y∈scope.names,y.2= .free->scope.names.lookup y.1=some .free
 len:caps.length=N.length
 caps:∀(i j:Nat),caps[i]? =some (some j)->∃x,N[i]? =some x/\X.N[j]? =some x/\(x,NameKind.free)∈scope.names
def T1{α:Type}(caps:List (Option Nat))(σ:List (Option α)):List (Option α):=caps.map λo=>o.bind λj=>(σ[j]?).join
theorem FJ{env:Env}:∀names:List (Str×NameKind),(names.map fun(n,k)=>if (k==NameKind.free&&env.scope.kind == .function&&env.kindOf n==some .cell)then (n,NameKind.cell)else (n,k)).lookup x=
 (names.lookup x).map λk=>if (k==NameKind.free&&env.scope.kind == .function&&env.kindOf x==some .cell)then NameKind.cell else k
 |[]=>rfl
 |(n,k)::r=>by
  have ih:=FJ (env:=env) (x:=x) r
  rw[zL]
  by_cases hx:x=n
  · subst hx
    dsimp only
    split
    ·rename_i h;simp[yn];simp at h;simp[h]
    ·rename_i h;simp[yn];simp at h;intro a b c;exact absurd c (h a b)
  · have hb:(x==n)=false:=by simpa using hx
    dsimp only
    split
    ·rw[yn,yn,hb];exact ih
    ·rw[yn,yn,hb];exact ih
section
variable{X:Cx}{scope:Scope}{N:List Str}{caps:List (Option Nat)}
theorem A4.isFree(k:A4 X scope N caps){x:Str}(h:(relabel scope X.env).names.lookup x=some .cell\/(relabel scope X.env).names.lookup x=some .free):(x,NameKind.free)∈scope.names:=by
 have e:(relabel scope X.env).names.lookup x= (scope.names.lookup x).map λk=>if (k==NameKind.free&&X.env.scope.kind == .function&&X.env.kindOf x==some .cell)then NameKind.cell else k:=FJ scope.names
 rw[e]at h
 rcases hl:scope.names.lookup x with _|kd
 ·rw[hl]at h;rcases h with h|h<;>exact J7 h
 ·
   rw[hl]at h
   have hm:=yE hl
   have hn:=k.cell _ hm
   simp only[Zu]at h
   cases kd with
   |free=>exact hm
   |cell=>exact absurd rfl hn
   |_=>rcases h with h|h<;>simp at h
theorem A4.cells(k:A4 X scope N caps)(ok:X.Ok):∀p∈scope.names,p.2= .free->∃c,X.env.cells.lookup p.1=some c:=λp hp e=>ok.has p.1 (k.free p hp e)
theorem aU(I:Inv X pins σ H s)(k:A4 X scope N caps)(hC:s.heap.objs.size<=C)(hex:∀b∈ex,D0 X pins H b)(hlt:∀b∈ex,b<s.heap.objs.size):(U0 X scope N C s H ex).Ok where
 mod:=I.ok.mod
 kind:=k.kind
 glob:=I.ok.glob
 blt:=I.ok.blt
 above:=hC
 inj:=λx y c h1 h2=>I.ok.inj x y c (P9 h1) (P9 h2)
 has:=λx hx=>by
  have hm:=k.isFree hx
  obtain⟨c,hc⟩:=k.cells I.ok _ hm rfl
  exact dJ hc _ _ hm
 cab:=λx c h=>by exact kE h
 hd:=I.ok.hd
 frames:=I.ok.frames
 stk:=.inl rfl
 exf:=λb hb=>⟨zF (ji (hlt b hb) hC),λx c e=>(hex b hb).2.2.2.2.1 x c (P9 e)⟩
 bs:=I.bs
 bsz:=zI I.ok.bsz I.sz
 noex:=λb o e hb=>by
  rcases (hex b hb).2.2.2.1 with z|z
  ·exact I.ok.noex b o e z
  ·exact absurd (ji (zu (I.ok.bs b o e).1) z) (yc _)
 exfs:=λb hb z=>by
  rcases zp.mp (I.stkSub b z)with e|e
  ·exact(hex b hb).2.1 e
  ·exact(hex b hb).2.2.1 e
 funs:=I.stack
 frf:=I.stkFree
 gd:=I.ok.gd
theorem iN{σ:List (Option α)}{i:Nat}(h:(T1 caps σ)[i]? =some (some v)):∃j,caps[i]? =some (some j)/\σ[j]? =some (some v):=by
 unfold T1 at h
 rw[zB]at h
 rcases e:caps[i]? with _|o
 ·rw[e]at h;exact J7 h
 ·
   rw[e]at h
   rcases o with _|j
   ·cases h
   ·
     refine⟨j,rfl,?_⟩
     simp only[Zu,Option.bind_some,zZ]at h
     rcases e2:σ[j]? with _|w
     ·rw[e2]at h;exact J7 h
     ·rw[e2]at h;simp at h;rw[h]
theorem Rv{h₁:Heap}{tk:Nat}(I:Inv X pins σ H s)(k:A4 X scope N caps)(hC:s.heap.objs.size<C)(hex:∀b∈ex,D0 X pins H b)(hlt:∀b∈ex,b<s.heap.objs.size)
 (old:∀b o,s.heap.get? b=some o->h₁.get? b=some o) (hns:h₁.Ns C λ_=>none) (hacc:h₁.get? s.heap.objs.size=some {cls:=.type "list",data:=.seq ([]:List zj).toArray 0}):
 Inv (U0 X scope N C s H ex) [] (T1 caps σ) (upd H s.heap.objs.size (.lst [])) {s with heap:=h₁,toks:=tk}:=by
 have hD:H s.heap.objs.size=none:=I.hok.fresh (zo _)
 refine⟨aU I k (ym hC) hex hlt,rfl,I.bare,Un.laid old (zo _) hD,⟨_,hns,λi x v h1 h2 h3=>?_⟩,λx c e=>?_,?_,λx c e=>?_,λp hp=>absurd (show p∈([]:PNS)from hp) (by simp),?_,?_⟩
 · obtain⟨j,e1,e2⟩:=iN h2
   obtain⟨y,e3,e4,e5⟩:=k.caps i j e1
   have exy:y=x:=by
    have:some y=some x:=e3.symm.trans h1
    exact jl this
   subst exy
   have hk:=k.free _ e5 rfl
   obtain⟨m,hn,hl⟩:=I.loc
   obtain⟨u,r,l⟩:=hl j y v e4 e2 (by rcases hk with z|z;exact .inr (.inl z);exact .inr (.inr z))
   refine⟨u,r,.inr ?_⟩
   rcases l with⟨z,_⟩|⟨_,c,ec,hc⟩
   ·rcases hk with z'|z'<;>(rw[z]at z';cases z')
   · refine⟨?_,c,?_,?_⟩
     · rcases h3 with h3|h3|h3
       · exfalso
         have e:(relabel scope X.env).names.lookup y= (scope.names.lookup y).map λk=>if (k==NameKind.free&&X.env.scope.kind == .function&&X.env.kindOf y==some .cell)then NameKind.cell else k:=FJ scope.names
         have h3':(relabel scope X.env).names.lookup y=some .local:=h3
         rw[e]at h3'
         rw[k.frees _ e5 rfl]at h3'
         simp only[Zu]at h3'
         split at h3'<;>cases h3'
       ·exact .inl h3
       ·exact .inr h3
     · obtain⟨c',ec'⟩:=dJ ec scope.names [] e5
       have:=P9 ec'
       rw[ec]at this
       cases this
       exact ec'
     · obtain⟨o,ho,hd⟩:=hc
       exact⟨o,old _ _ ho,hd⟩
 · obtain⟨v,o,ho,hd⟩:=I.cell x c (P9 e)
   exact⟨v,o,old _ _ ho,hd⟩
 · show upd H s.heap.objs.size (.lst []) C=none
   rw[v7 (xf hC)]
   exact I.hok.fresh (ym hC)
 · obtain⟨v,o,ho,hd⟩:=I.cell x c (P9 e)
   rw[v7 (zF (zu ho))]
   exact I.freeC x c (P9 e)
 ·exact I.hok.laid old (zo _) ⟨zY _, [],0,.nil,hacc⟩
 · show (T1 caps σ).length=N.length
   unfold T1
   rw[zc];exact k.len
theorem Ch(I:Inv X pins σ H s)(hex:∀b∈ex,D0 X pins H b)(hC:s.heap.objs.size<C)
 (I':Inv (U0 X scope N C s H ex) pins' X2 H' s') (sb:xu C s'.heap h'):Inv X pins σ H' {s' with heap:=h'}:=by
 have hos:s'.os=s.os:=I'.os
 have hfree:H' C=none:=I'.free
 have neC:∀b o,s.heap.get? b=some o->b≠C:=λb o e z=>by
  have:=zu e
  rw[z]at this
  exact absurd (xF hC this) (yc _)
 have hun:Un (frs X.stack) ex H H' s.heap s'.heap:=I'.base
 have hun2:Un (frs X.stack) ex H H' s.heap h':=by
  refine⟨λb o e n hb hx=>(sb.2 b (neC b o e)).trans (hun.keep b o e n hb hx),λb o e n hb hx=>?_,hun.free,λb o e hx=>?_,hun.tups,hun.frzs,hun.tbls⟩
  · obtain⟨sl,q⟩:=hun.slot b o e n hb hx
    exact⟨sl,(sb.2 b (neC b o e)).trans q⟩
  · obtain⟨o',q⟩:=hun.there b o e hx
    exact⟨o',(sb.2 b (neC b o e)).trans q⟩
 have hok2:HOk X.prog X.w H' h':=λa o e=>by
  have nc:∀c u,H' c=some u->c≠C:=λc u q z=>by rw[z,hfree]at q;exact J7 q
  refine(I'.hok a o e).stay (λb u hb q=>?_) (λ_ q=>q) λ_ _ q=>q
  rcases hb with rfl|hb
  ·exact(sb.2 b (nc b o e)).trans q
  ·exact(sb.2 b (nc b _ hb)).trans q
 obtain⟨hh,g,d,t,os'⟩:=s'
 obtain rfl:os'=s.os:=hos
 have fin:=I.call (d':=d) (t':=t) hun2 hok2 I'.bare λb hb=>⟨(hex b hb).2.2.2.1,(hex b hb).2.1,(hex b hb).2.2.2.2.1,(hex b hb).2.2.2.2.2⟩
 exact fin
end
def hide(q:Addr)(H:Hp):Hp:=λb=>if b=q then none else H b
theorem rB:hide q H q=none:=by unfold hide;rw[if_pos rfl]
theorem W4(h:b≠q):hide q H b=H b:=by unfold hide;rw[if_neg h]
theorem S6(h:hide q H b=some o):b≠q/\H b=some o:=by
 by_cases e:b=q
 ·rw[e,rB]at h;exact J7 h
 ·rw[W4 e]at h;exact⟨e,h⟩
theorem dT0(h:H q=some o):upd (hide q H) q o=H:=by
 funext b
 by_cases e:b=q
 ·rw[e,N8,h]
 ·rw[v7 e,W4 e]
theorem WD:hide q (upd H q o)=hide q H:=by
 funext b
 by_cases e:b=q
 ·rw[e,rB,rB]
 ·rw[W4 e,W4 e,v7 e]
theorem oE(h:H q=none):hide q H=H:=by
 funext b
 by_cases e:b=q
 ·rw[e,rB,h]
 ·rw[W4 e]
section
mutual
theorem f9.sq(k:∀a xs,SqT c.K H a xs->SqT c.K H' a xs):∀ {d} {v},f9 c μ H d v->f9 c μ H' d v
 | .non,_,h=>h
 | .bl _,_,h=>h
 | .int _,_,h=>h
 | .str _,_,h=>h
 | .ty _,_,h=>h
 | .fn _,_,h=>h
 | .ref i,v,h=>by unfold f9 at h ⊢;exact h
 | .tup l,v,h=>by
   unfold f9 at h ⊢
   obtain⟨a,vs,e,q,r⟩:=h
   exact⟨a,vs,e,k _ _ q,u9.sq k r⟩
theorem u9.sq(k:∀a xs,SqT c.K H a xs->SqT c.K H' a xs):∀ {l} {vs},u9 c μ H l vs->u9 c μ H' l vs
 |[],_,h=>h
 |d::ds,vs,h=>by
   unfold u9 at h ⊢
   obtain⟨v,r,e,q,t⟩:=h
   exact⟨v,r,e,f9.sq k q,u9.sq k t⟩
end
theorem z0.sq(k:∀a xs,SqT c.K H a xs->SqT c.K H' a xs):∀ {l} {vs},z0 c μ H l vs->z0 c μ H' l vs
 |[],_,h=>h
 |(_,d)::ds,vs,h=>by
  obtain⟨v,r,e,q,t⟩:=h
  exact⟨v,r,e,f9.sq k q,z0.sq k t⟩
theorem OA(hq:H q=some (.lst vs)){K:zh}(a:Addr)(xs:List V)(h:SqT K H a xs):SqT K (hide q H) a xs:=by
 rcases h with(h|⟨o,h⟩)|h
 ·exact .inl (.inl (by rw[W4 (λe=>by rw[e,hq]at h;cases h)];exact h))
 ·exact .inl (.inr ⟨o,by rw[W4 (λe=>by rw[e,hq]at h;cases h)];exact h⟩)
 ·exact .inr h
theorem bD{K:zh}(a:Addr)(xs:List V)(h:SqT K (hide q H) a xs):SqT K H a xs:=by
 rcases h with(h|⟨o,h⟩)|h
 ·exact .inl (.inl (S6 h).2)
 ·exact .inl (.inr ⟨o,(S6 h).2⟩)
 ·exact .inr h
theorem M6.sq(k:∀a xs,SqT c.K H a xs->SqT c.K H' a xs)(h:M6 c μ H Z6 σ):M6 c μ H' Z6 σ:=⟨h.1,λi d e=>let ⟨v,a,b⟩:=h.2 i d e;⟨v,a,b.sq k⟩⟩
theorem Ext.hide(x:Ext μ H X9 H')(n:q∉μ)(hq:H q=some (.lst vs)):H' q=some (.lst vs)/\q∉X9/\Ext μ (DL.hide q H) X9 (DL.hide q H'):=by
 refine⟨x.oth q _ hq n,λh=>?_,x.pre,λa h1 h2=>?_,λb o e nb=>?_,λb xs e=>?_,λb o u e=>?_⟩
 ·have:=x.new q h n;rw[hq]at this;exact kF this
 · by_cases e:a=q
   ·rw[e,rB]
   ·rw[W4 e];exact x.new a h1 h2
 ·obtain⟨e1,e2⟩:=S6 e;rw[W4 e1];exact x.oth b o e2 nb
 ·obtain⟨e1,e2⟩:=S6 e;rw[W4 e1];exact x.tup b xs e2
 ·obtain⟨e1,e2⟩:=S6 e;rw[W4 e1];exact x.frz b o u e2
theorem Ext.unhide(x:Ext μ H X9 (DL.hide q H')):Ext μ H X9 H':=
 ⟨x.pre,x.new,λb o e n=>(S6 (x.oth b o e n)).2,λb xs e=>(S6 (x.tup b xs e)).2,λb o u e=>(S6 (x.frz b o u e)).2⟩
theorem J0.hide(h:J0 c μ G H)(n:q∉μ)(hq:H q=some (.lst vs)):J0 c μ G (DL.hide q H):=
 ⟨h.len,h.inj,λi o a g m=>by
  have na:a≠q:=λe=>n (by rw[<-e];exact js m)
  have r:=h.obj i o a g m
  cases o with
  |lst l=>obtain⟨ws,e,r⟩:=r;exact⟨ws,by rw[W4 na];exact e,r.sq (OA hq)⟩
  |dct l=>obtain⟨ws,e,r⟩:=r;exact⟨ws,by rw[W4 na];exact e,r.sq (OA hq)⟩
  |rod l=>obtain⟨ws,o,e,r⟩:=r;exact⟨ws,o,by rw[W4 na];exact e,r.sq (OA hq)⟩
  |rol l=>
    obtain⟨ws,e,r⟩:=r
    refine⟨ws,?_,r.sq (OA hq)⟩
    rcases e with⟨o,e⟩|e
    ·exact .inl ⟨o,by rw[W4 na];exact e⟩
    ·exact .inr e⟩
theorem J0.unhide(h:J0 c μ G (DL.hide q H)):J0 c μ G H:=
 ⟨h.len,h.inj,λi o a g m=>by
  have r:=h.obj i o a g m
  cases o with
  |lst l=>obtain⟨ws,e,r⟩:=r;exact⟨ws,(S6 e).2,r.sq bD⟩
  |dct l=>obtain⟨ws,e,r⟩:=r;exact⟨ws,(S6 e).2,r.sq bD⟩
  |rod l=>obtain⟨ws,o,e,r⟩:=r;exact⟨ws,o,(S6 e).2,r.sq bD⟩
  |rol l=>
    obtain⟨ws,e,r⟩:=r
    refine⟨ws,?_,r.sq bD⟩
    rcases e with⟨o,e⟩|e
    ·exact .inl ⟨o,(S6 e).2⟩
    ·exact .inr e⟩
inductive UH{α:Type}(c:Wc)(q:Addr)(vs:List V)(μ:List Addr)(H:Hp)(K:α->List Addr->DH->Hp->Prop)(a:α)(X9:List Addr)(G':DH)(H':Hp):Prop
 |mk (e:H' q=some (.lst vs)) (n:q∉X9) (h:J0 c X9 G' (DL.hide q H')) (x:Ext μ (DL.hide q H) X9 (DL.hide q H')) (k:K a X9 G' (DL.hide q H'))
theorem d9.unhide{r:Option (Except Str α×DH)}{K:α->List Addr->DH->Hp->Prop}(n:q∉μ)(hq:H q=some (.lst vs))(p:d9 c ZF μ (DL.hide q H) r K):
 d9 c Z μ H r (UH c q vs μ H K):=by
 match r,p with
 |some (.ok a,G'),p=>
   intro X9 H' x h
   obtain⟨e1,e2,e3⟩:=x.hide n hq
   have h2:=h.hide e2 e1
   exact⟨e1,e2,h2,e3,p X9 _ e3 h2⟩
 |some (.error z,G'),p=>
   intro X9 H' x h
   obtain⟨e1,e2,e3⟩:=x.hide n hq
   exact(p X9 _ e3 (h.hide e2 e1)).elim
theorem J0.mem_lt(I:Inv X pins σ H s)(h:J0 (wc X) μ G H)(ha:a∈μ):a<s.heap.objs.size:=by
 obtain⟨i,hi⟩:=JI ha
 have hl:i<G.length:=by rw[<-h.len];exact lt_of_get hi
 have r:=h.obj i G[i] a (ze hl) hi
 rcases e:G[i]with l|l|l|l
 ·rw[e]at r;obtain⟨_,e,_⟩:=r;exact I.hok.lt e
 ·
   rw[e]at r
   obtain⟨ws,e,_⟩:=r
   rcases e with⟨o,e⟩|e
   ·exact I.hok.lt e
   · rcases e with(e|⟨o,e⟩)|⟨o,its,n,e,_⟩
     ·exact J7 e
     ·exact J7 e
     ·exact zu (I.kIn a o e)
 ·rw[e]at r;obtain⟨_,e,_⟩:=r;exact I.hok.lt e
 ·rw[e]at r;obtain⟨_,_,e,_⟩:=r;exact I.hok.lt e
end
def PTs(X:Cx)(ifs:List Expr)(t:TT):Prop:=
 ∀(pins:PNS) (s:zv) (σ:St) (H:Hp) (Q:Bool->Hp->Prop),Inv X pins σ H s->t σ H Q->
  zC (zH X.prog X.w) X.A (forIn ifs true λc r=>if r=true then do let ok <-isTrue c X.env (eval c X.env);pure (ForInStep.yield ok)else pure (ForInStep.yield r)) (TP X pins σ Q) X.xe s
structure DTs(X:Cx)(Z:XC)(ifs:List Expr)(f:DSt->M Bool):Prop where
 h:PTs X ifs (FA (wc X) Z f)
def O7:DSt->M Bool:=λ_=>pure true
theorem uV:DTs X Z [] O7:=⟨λpins s σ H Q I hE0=>hE0.elim λZ6 μ G sr h p=>wpAny_tests_nil ⟨H,I,d9.ok p h⟩⟩
theorem Nh(h:DT X Z c t):DTs X Z [c] t:=⟨λpins s σ H Q I q=>wpAny_tests_one (h.h pins s σ H Q I q)⟩
def M9(g:Fg)(t:DSt->M Bool)(e:Fe)(ck:DH->Bool):List D->DSt->M (List D)
 |[]=>λ_ G=>if ck G then some (.ok [],G)else none
 | d :: r => λσ G => if ck G then (do
    let WY <-g d σ
    if <-t WY then do
     let y <-e WY
     let ys <-M9 g t e ck r WY
     pure (y::ys)
    else M9 g t e ck r WY:M (List D)) G else none
def N6(it:DSt->M Src)(caps:List (Option Nat))(g:Fg)(t:DSt->M Bool)(e:Fe):Fe:=λσ=>do
 let s <-it σ
 if s.items.length<=zg then do
  let ys <-noX (M9 g t e s.ck s.items (T1 caps σ))
  N7 (.lst ys)
 else M.stuck
theorem Dc(h:M6 c μ H Z6 σ):M6 c μ H (T1 caps Z6) (T1 caps σ):=by
 refine⟨by simp[T1],λi d e=>?_⟩
 obtain⟨j,e1,e2⟩:=iN e
 obtain⟨v,e3,r⟩:=h.2 j d e2
 refine⟨v,?_,r⟩
 unfold T1
 rw[zB,e1]
 simp[e3]
section
set_option maxHeartbeats 1000000 in
def CKV(c:Wc)(Q:VK)(d:D)(X9:List Addr)(_:DH)(H':Hp):Prop:=∀v,f9 c X9 H' d v->Q v H'
def CKR(c:Wc)(Z:XC)(Q:VK)(ys T6:List D)(μ:List Addr)(G:DH)(H:Hp):Prop:=d9 c Z μ H (N7 (.lst (ys++T6)) G) (CKV c Q)
def MQ(gg:Fg)(tt:DSt->M Bool)(fe:Fe)(ck:DH->Bool)(items:List D)(σ:DSt)(y:D):M (List D):=do let ys <-M9 gg tt fe ck items σ;pure (y::ys)
def iO(gg:Fg)(tt:DSt->M Bool)(fe:Fe)(ck:DH->Bool)(items:List D)(σ:DSt)(b:Bool):M (List D):=if b=true then (do let y <-fe σ;let ys <-M9 gg tt fe ck items σ;pure (y::ys))else M9 gg tt fe ck items σ
def eW9(gg:Fg)(tt:DSt->M Bool)(fe:Fe)(ck:DH->Bool)(items:List D)(σ:DSt):M (List D):=do if <-tt σ then do {let y <-fe σ;let ys <-M9 gg tt fe ck items σ;pure (y::ys)}else M9 gg tt fe ck items σ
inductive CG(X:Cx)(Z:XC)(Q:VK)(vs:List V)(DD:Addr)(ys:List D)(X9:List Addr)(H5:Hp)(m:DSt->M (List D))(WQ:St)(H6:Hp):Prop
 |mk (WU:DSt) (μ6:List Addr) (G6:DH) (s:M6 (wc X) μ6 H6 WU WQ) (h:J0 (wc X) μ6 G6 H6) (u:UH (wc X) DD vs X9 H5 (λZ6 μ G H=>d9 (wc X) ZF μ H (m Z6 G) (CKR (wc X) Z Q ys)) WU μ6 G6 H6)
inductive CT(X:Cx)(Z:XC)(Q:VK)(vs:List V)(DD:Addr)(ys:List D)(WU:DSt)(WQ:St)(μ6:List Addr)(H6:Hp)(m:Bool->M (List D))(b:Bool)(H7:Hp):Prop
 |mk (WL:List Addr) (G7:DH) (s:M6 (wc X) WL H7 WU WQ) (h:J0 (wc X) WL G7 H7) (u:UH (wc X) DD vs μ6 H6 (λb μ G H=>d9 (wc X) ZF μ H (m b G) (CKR (wc X) Z Q ys)) b WL G7 H7)
inductive CE(X:Cx)(Z:XC)(Q:VK)(vs:List V)(DD:Addr)(ys:List D)(WU:DSt)(WQ:St)(WL:List Addr)(H7:Hp)(m:D->M (List D))(v:V)(H8:Hp):Prop
 |mk (y:D) (μ8:List Addr) (G8:DH) (r:f9 (wc X) μ8 H8 y v) (s:M6 (wc X) μ8 H8 WU WQ) (h:J0 (wc X) μ8 G8 H8) (u:UH (wc X) DD vs WL H7 (λy μ G H=>d9 (wc X) ZF μ H (m y G) (CKR (wc X) Z Q ys)) y μ8 G8 H8)
inductive EH(Y:Cx)(Z:XC)(Q:VK)(gg:Fg)(tt:DSt->M Bool)(fe:Fe)(src:Src)(fp:List Addr)(tn:Nat->Heap->Prop)(DD:Addr)(WZ:List Addr)(H2:Hp)(n:Nat)(s':zv):Prop
 |mk (i:Nat) (ys:List D) (vs:List V) (X2:St) (H':Hp) (WW:DSt) (X9:List Addr) (G':DH) (e:n=src.items.length-i) (hi:i<=src.items.length) (hv:vs.length<=i)
    (I:Inv Y [] X2 H' s') (st:tn i s'.heap) (fr:∀b∈fp,H' b=none) (hs:H' DD=some (.lst vs)) (nD:DD∉X9)
    (x:Ext WZ H2 X9 (hide DD H')) (h:J0 (wc Y) X9 G' (hide DD H')) (sr:M6 (wc Y) X9 (hide DD H') WW X2) (rl:u9 (wc Y) X9 (hide DD H') ys vs)
    (p:d9 (wc Y) ZF X9 (hide DD H') (M9 gg tt fe src.ck (src.items.drop i) WW G') (CKR (wc Y) Z Q ys))
theorem wT{Y:Cx}{Q:VK}{src:Src}{tn:Nat->Heap->Prop}{DD it:Addr}{H2:Hp}{J:It}{R:Result->zv->Prop}(hcX:Y.calm=true)(hg:DG Y ZF tg gg)(ht:DTs Y ZF ifs tt)(he:DE Y ZF elt fe)(T:L6 Y.prog Y.w Y.K tg J fp it tn)
 (fpX:∀(H':Hp) (b:Addr),b∈fp->H' b=none->D0 Y [] H' b) (hJ:ItD (wc Y) WZ H2 J src) (hlen:src.items.length<=zg) (fin:∀(H':Hp) (X2:St) (s4:zv),Inv Y [] X2 H' s4->Q (.ref DD) H'->R (.ok .next) s4) (n:Nat) (s':zv) (h:EH Y Z Q gg tt fe src fp tn DD WZ H2 n s') {NX:zv->Prop} (nx:∀m s,m<n->EH Y Z Q gg tt fe src fp tn DD WZ H2 m s->NX s):
 zC (zH Y.prog Y.w) Y.A (ZV (.ref it)) (λr X0=>match r with
  |none=>R (.ok .next) X0
  | some v => zC (zH Y.prog Y.w) Y.A (xp tg (.ref it) v) (λ_ s₁' => zC (zH Y.prog Y.w) Y.A (ZW tg Y.env v) (λ_ s₂ =>
     zC (zH Y.prog Y.w) Y.A (forIn ifs true λc r=>if r=true then do let ok <-isTrue c Y.env (eval c Y.env);pure (ForInStep.yield ok)else pure (ForInStep.yield r)) (λok s₃=>
      if ok=true then zC (zH Y.prog Y.w) Y.A (eval elt Y.env) (λx s₄=>
       zC (zH Y.prog Y.w) Y.A (call (.builtin "list.append") [.ref DD,x]) (λ_ s₅=>NX s₅) Y.xe s₄) Y.xe s₃
      else NX s₃) Y.xe s₂) Y.xe s₁') Y.xe X0) Y.xe s':=by
 obtain⟨i,ys,vs,X2,H',WW,X9,G',rfl,hi',hvl,I',st',fr',hvs,nD',x',h',sr',rl,p'⟩:=h
 by_cases hlt:i<src.items.length
 · rw[xg hlt]at p'
   unfold M9 at p'
   split at p'
   case isFalse=>exact p'.elim
   rename_i ck
   obtain⟨q1,_⟩:=hJ X9 G' H' x'.unhide h'.unhide ck i
   obtain⟨go,yl⟩:=q1 _ (ze hlt)
   refine thn (T.item (Y) rfl rfl rfl hcX i [] s' X2 H' Y.xe I' (λb hb=>fpX H' b hb (fr' b hb)) st' go) λr s4 z4=>?_
   obtain⟨u,rfl,h4⟩:=z4
   refine thn h4 λ_ s5 z5=>?_
   obtain⟨x,H5,I5,r5,y5,st5,fr5⟩:=z5
   obtain⟨k5,h5,rx5⟩:=yl x H5 y5
   obtain⟨e5,n5,k5'⟩:=k5.hide nD' hvs
   have I5':=I5.pinned (λb hb=>fpX H5 b hb (fr5 b hb)) (T.obj _ _ st5)
   have keepIt:∀ {WN:St} {H7:Hp} {s7:zv},Inv (Y) ([]++UD fp s5.heap) WN H7 s7->Inv (Y) [] WN H7 s7/\tn (i+1) s7.heap/\∀b∈fp,H7 b=none:=λ{WN H7 s7} I7=>by
    refine⟨I7.unpinned,T.keep _ _ _ st5 λb hb o e=>(I7.pin (b,o) (zE _ (zE _ (R4 hb e)))).1,λb hb=>?_⟩
    obtain⟨o,e,d⟩:=T.obj _ _ st5 b hb
    exact(I7.pin (b,o) (zE _ (zE _ (R4 hb e)))).2.1
   have p5:=d9.unhide (Z:=ZF) n5 e5 (d9.bind (p'.from k5'))
   refine thn (hg.h _ s5 X2 H5 x u _ I5' r5 ⟨_,WW,X9,G',rx5,(sr'.mono k5').sq bD,h5,p5.mono λWU μ6 G6 H6 x6 h6 q6 WQ sr6=>(⟨WU,μ6,G6,sr6,h6,q6⟩:CG Y Z Q vs DD ys X9 H5 (eW9 gg tt fe src.ck (src.items.drop (i+1))) WQ H6)⟩) λ_ s6 z6=>?_
   obtain⟨WQ,H6,I6,WU,μ6,G6,sr6,h6,e6,n6,hh6,x6,p6⟩:=z6
   have p6':=d9.unhide (Z:=ZF) n6 e6 (d9.bind p6)
   refine thn (ht.h _ s6 WQ H6 (CT Y Z Q vs DD ys WU WQ μ6 H6 (iO gg tt fe src.ck (src.items.drop (i+1)) WU)) I6 ⟨WU,μ6,G6,sr6,h6,p6'.mono λb WL G7 H7 x7 h7 q7=>⟨WL,G7,sr6.mono x7,h7,q7⟩⟩) λb s7 z7=>?_
   obtain⟨H7,I7,WL,G7,sr7,h7,e7,n7,hh7,x7,p7⟩:=z7
   unfold iO at p7
   have x27:Ext WZ H2 WL (hide DD H7):=x'.trans (k5'.trans (x6.trans x7))
   have rl7:u9 (wc Y) WL (hide DD H7) ys vs:=rl.mono (k5'.trans (x6.trans x7))
   rcases b with _|_
   ·
     rw[if_neg ja]at p7 ⊢
     obtain⟨I8,st8,fr8⟩:=keepIt I7
     exact nx _ _ (Yb _ _ hlt) ⟨i+1,ys,vs,WQ,H7,WU,WL,G7,rfl,hlt,Nat.le_succ_of_le hvl,I8,st8,fr8,e7,n7,x27,hh7,sr7.sq (OA e7),rl7,p7⟩
   ·
     rw[if_pos rfl]at p7 ⊢
     have p7':=d9.unhide (Z:=ZF) n7 e7 (d9.bind p7)
     refine thn (he.h _ s7 WQ H7 (CE Y Z Q vs DD ys WU WQ WL H7 (MQ gg tt fe src.ck (src.items.drop (i+1)) WU)) I7 ⟨WU,WL,G7,sr7,h7,p7'.mono λy μ8 G8 H8 x8 h8 q8 v rv=>⟨y,μ8,G8,rv,sr7.mono x8,h8,q8⟩⟩) λyu s8 z8=>?_
     obtain⟨yv,H8,I8,ry,y,μ8,G8,ryd,sr8,h8,e8,n8,hh8,x8,p8⟩:=z8
     unfold MQ at p8
     refine thn (OP _ s8 WQ H8 (.ref DD) [yv] (.ref DD) [yu] (λ_ H9=>H9=upd H8 DD (.lst (vs++[yv]))) I8 rfl (.cons ry .nil) ⟨DD,vs,yv,rfl,rfl,e8,by lia,rfl⟩) λ_ s9 z9=>?_
     obtain⟨_,H9,I9,_,rfl⟩:=z9
     obtain⟨I10,st10,fr10⟩:=keepIt I9
     have hd9:hide DD (upd H8 DD (.lst (vs++[yv])))=hide DD H8:=WD
     refine nx _ _ (Yb _ _ hlt) ⟨i+1,ys++[y],vs++[yv],WQ,_,WU,μ8,G8,rfl,hlt,by rw[zA];exact Nat.succ_le_succ hvl,I10,st10,fr10,N8,n8,?_,?_,?_,?_,?_⟩
     ·rw[hd9];exact x27.trans x8
     ·rw[hd9];exact hh8
     ·rw[hd9];exact sr8.sq (OA e8)
     ·rw[hd9];exact(rl7.mono x8).append ⟨yv, [],rfl,ryd.sq (OA e8),rfl⟩
     · rw[hd9]
       refine(d9.bind p8).mono λT6 μ'' G'' H'' x'' h'' q''=>?_
       have q3:=d9.ok q'' h''
       show d9 (wc Y) Z μ'' H'' (N7 (.lst (ys++[y]++T6)) G'') (CKV (wc Y) Q)
       rw[xA]
       exact q3
 · have e:i=src.items.length:=by lia
   subst e
   rw[List.drop_length]at p'
   unfold M9 at p'
   split at p'
   case isFalse=>exact p'.elim
   rename_i ck
   obtain⟨_,q2⟩:=hJ X9 G' H' x'.unhide h'.unhide ck src.items.length
   refine thn (T.done (Y) rfl rfl rfl hcX src.items.length [] s' X2 H' Y.xe I' (λb hb=>fpX H' b hb (fr' b hb)) st' (q2 (zo _))) λr s4 ⟨hr,I4⟩=>?_
   subst hr
   have p9:d9 (wc Y) Z X9 (hide DD H') (N7 (.lst (ys++[])) G') (CKV (wc Y) Q):=d9.ok p' h'
   rw[yz]at p9
   have q9:=V3 (q:=DD) h' rl p9 rB
   rw[dT0 hvs]at q9
   exact fin H' X2 s4 I4 q9
theorem iM{use:Option (zj->Sem Unit)}{Q:VK}{ps:Pos}{pins:PNS}{s:zv}{σ:St}{H:Hp}{Z6:DSt}{G:DH}(hc:X.calm=true)(hi:DI X Z tg iter it)(k:A4 X scope N caps)
 (hg:∀C s H ex,DG (U0 X scope N C s H ex) ZF tg gg) (ht:∀C s H ex,DTs (U0 X scope N C s H ex) ZF ifs tt) (he:∀C s H ex,DE (U0 X scope N C s H ex) ZF elt fe)
 (hs:∀x,yG iter X.env x=pure x) (I:Inv X pins σ H s) (sr:M6 (wc X) μ H Z6 σ) (hr:J0 (wc X) μ G H) (p:d9 (wc X) Z μ H (N6 it caps gg tt fe Z6 G) λd X9 _ H'=>∀v,f9 (wc X) X9 H' d v->Q v H')
 (fin:∀(DD C:Addr) (s4:zv) (H':Hp) m (o:Flow),s4.heap.Ns C m->(∀h'',xu C s4.heap h''->Inv X pins σ H' {s4 with heap:=h''})->H' C=none->(∀H9:Hp,H9 C=none->D0 X pins H9 C)->Q (.ref DD) H'->compPost (zH X.prog X.w) X.A X.xe use PQ (.ref DD) C (.ok o) s4):
 zC (zH X.prog X.w) X.A (comprehension (.ListComp elt [⟨tg,iter,ifs,0⟩] scope pos) scope X.env ps (newList []) false (eval iter X.env) use) PQ X.xe s:=by
 replace p:d9 (wc X) Z μ H (N6 it caps gg tt fe Z6 G) (CKV (wc X) Q):=p
 have p1:=d9.bind p
 refine wpAny_comprehension_free rfl hs (NZ (k.cells I.ok)) k.kind k.names ?_
 refine thn (hi.h pins s σ H (λJ H1=>∃src X1 G1,Ext μ H X1 H1/\J0 (wc X) X1 G1 H1/\ItD (wc X) X1 H1 J src/\
  d9 (wc X) Z X1 H1 ((if src.items.length<=zg then (do let ys <-noX (M9 gg tt fe src.ck src.items (T1 caps Z6));N7 (.lst ys))else M.stuck:M D) G1) (CKV (wc X) Q))
  I ⟨Z6,μ,G,sr,hr,p1.mono λsrc X1 G1 H1 x1 h1 p1 J hJ=>⟨src,X1,G1,x1,h1,hJ,p1⟩⟩) λv s1 q1=>thn q1 λitv s2 q2=>?_
 obtain⟨itA,fp,tn,J,H2,rfl,I2,T,st2,f2,src,WZ,G2,x2,h2,hJ,p2⟩:=q2
 split at p2
 case isFalse=>exact p2.elim
 rename_i hlen
 have hfp:∀b∈fp,b<s2.heap.objs.size:=λb hb=>by obtain⟨o,e,_⟩:=T.obj _ _ st2 b hb;exact zu e
 refine yF (wpAny_newFunctionEnv k.cell (by intro y hy;simp at hy) (λh₁ hns₁ hsb₁=>?_) k.kind)
 dsimp only at hns₁ hsb₁ ⊢
 generalize hHP:s2.heap.push {cls:=.type "list",dict:=none,data:=.seq ([]:List zj).toArray}=HP at hns₁ hsb₁ ⊢
 have hC:HP.objs.size=s2.heap.objs.size+1:=by rw[<-hHP,yo]
 have hCl:s2.heap.objs.size<HP.objs.size:=by rw[hC];exact xP _
 have hDC:s2.heap.objs.size≠HP.objs.size:=zF hCl
 have old:∀b o,s2.heap.get? b=some o->h₁.get? b=some o:=λb o e=>hsb₁.extBut b o (by have:=zu e;exact zF (xF this hCl)) (zd _ (hHP▸zd _ e))
 have hacc:h₁.get? s2.heap.objs.size=some {cls:=.type "list",data:=.seq ([]:List zj).toArray 0}:=hsb₁.extBut _ _ hDC (zd _ (hHP▸zw _ rfl))
 have hD:H2 s2.heap.objs.size=none:=I2.hok.fresh (zo _)
 have nD:s2.heap.objs.size∉WZ:=λz=>yc _ (h2.mem_lt I2 z)
 have st1:tn 0 h₁:=T.keep _ _ _ st2 λb _ o e=>old b o e
 have fpX:∀(H':Hp) (b:Addr),b∈fp->H' b=none->D0 (U0 X scope N HP.objs.size s2 H2 fp) [] H' b:=λH' b hb hn=>
  ⟨hn,zF (xF (hfp b hb) hCl),λz=>by
   rcases zp.mp (I2.stkSub b z)with e|e
   ·exact(f2 b hb).2.1 e
   ·exact(f2 b hb).2.2.1 e,.inl hb,λx c e=>(f2 b hb).2.2.2.2.1 x c (P9 e),λp hp=>absurd (show p∈([]:PNS)from hp) (by simp)⟩
 have hcX:(U0 X scope N HP.objs.size s2 H2 fp).calm=true:=hc
 have p3:=NA (d9.bind p2)
 generalize hDD:s2.heap.objs.size=DD at *
 have loop:∀s₃:zv,s₃= {s2 with heap:=h₁,toks:=s2.toks+([]:List (Str×zj)).length}->
  Zw (zH X.prog X.w) X.A (.compLoop (.ListComp elt [⟨tg,iter,ifs,0⟩] scope pos) 0 (.ref itA) (.ref DD) (compEnvC scope (E4 X.env scope.names []) HP.objs.size X.env))
   (compPost (zH X.prog X.w) X.A X.xe use PQ (.ref DD) HP.objs.size) s₃:=by
  rintro s₃ rfl
  refine Nj (EH (U0 X scope N HP.objs.size s2 H2 fp) Z Q gg tt fe src fp tn DD WZ H2) (λn s' h=>wT hcX (hg _ _ _ _) (ht _ _ _ _) (he _ _ _ _) T fpX hJ hlen (λH' X2 s4 I4 q9=>?_) n s' h λm s h1 h2=>⟨m,h1,h2⟩) src.items.length
   ⟨0, [], [],T1 caps σ,upd H2 DD (.lst []),T1 caps Z6,WZ,G2,rfl,zY _,zo _,?_,st1,λb hb=>?_,N8,nD,?_,?_,?_,rfl,?_⟩
  · obtain⟨m,hn,_⟩:=I4.loc
    exact fin DD HP.objs.size s4 H' m _ hn (λh'' sb=>Ch I2 (λb hb=>f2 b hb) (by rw[hDD];exact hCl) I4 sb) I4.free (λH9 hn9=>I2.fpOk (by rw[hDD];exact ym hCl) hn9) q9
  · have:=Rv (tk:=s2.toks+([]:List (Str×zj)).length) I2 k (by rw[hDD];exact hCl) f2 (λb hb=>by rw[hDD];exact hfp b hb) old hns₁ (by rw[hDD];exact hacc)
    rw[hDD]at this
    exact this
  ·rw[v7 (zF (hfp b hb))];exact(f2 b hb).1
  ·rw[WD,oE hD];exact Ext.refl _ _
  ·rw[WD,oE hD];exact h2
  ·rw[WD,oE hD];exact Dc (sr.mono x2)
  · rw[WD,oE hD,XD]
    exact p3
 exact codeAny_compStart_list (loop _ rfl) (T.self _ 0 _ _ _ st1 (loop _ rfl))
theorem ET(hc:X.calm=true)(hi:DI X Z tg iter it)(k:A4 X scope N caps)
 (hg:∀C s H ex,DG (U0 X scope N C s H ex) ZF tg gg) (ht:∀C s H ex,DTs (U0 X scope N C s H ex) ZF ifs tt) (he:∀C s H ex,DE (U0 X scope N C s H ex) ZF elt fe)
 (hs:∀x,yG iter X.env x=pure x):DE X Z (.ListComp elt [⟨tg,iter,ifs,0⟩] scope pos) (N6 it caps gg tt fe):=⟨by
 intro pins s σ H Q I hE0
 refine hE0.elim λZ6 μ G sr hr p=>?_
 rw[eval_ListComp]
 exact iM hc hi k hg ht he hs I sr hr p λDD C s4 H' m o hn fin _ _ q9=>⟨m,hn,λh'' sb=>⟨.ref DD,H',fin h'' sb,rfl,q9⟩⟩⟩
end
def O4(r:Nat):M DO:=λG=>match G[r]? with
 |some o=>some (.ok o,G)
 |none=>none
def listOf:DO->M (List D)
 | .lst l=>pure l
 | .rol l=>pure l
 | .dct _=>M.stuck
 | .rod _=>M.stuck
def kZ:D->M (List D)
 | .tup l=>pure l
 | .ref r=>O4 r >>= listOf
 |_=>M.stuck
def K0{α:Type}:Option α->M α
 |some a=>pure a
 |none=>M.stuck
section
theorem IxR.mono(h:IxR X r)(k:∀x y H Q,r' x y H Q->r x y H Q):IxR X r':=λva sl pins s σ H x y v u Q I rx ry q hs=>h va sl pins s σ H x y v u Q I rx ry (k x y H Q q) hs
theorem M7{f:DO->M α}{K:α->List Addr->DH->Hp->Prop}(p:d9 c Z μ H ((O4 r >>= f) G) K):∃o,G[r]? =some o/\d9 c Z μ H (f o G) K:=by
 rw[M.bind_eq]at p
 unfold O4 at p
 rcases e:G[r]? with _|o
 ·rw[e]at p;exact p.elim
 ·rw[e]at p;exact⟨o,rfl,p⟩
theorem V2{r:Option β}{f:β->M α}{K:α->List Addr->DH->Hp->Prop}(p:d9 c Z μ H ((K0 r >>= f) G) K):∃o,r=some o/\d9 c Z μ H (f o G) K:=by
 rcases r with _|o
 ·exact p.elim
 ·exact⟨o,rfl,p⟩
theorem IG{f:List D->M α}{K:α->List Addr->DH->Hp->Prop}(h:J0 c μ G H)(r:f9 c μ H d v)(p:d9 c Z μ H ((kZ d >>= f) G) K):
 ∃l a vs,v= .ref a/\u9 c μ H l vs/\d9 c Z μ H (f l G) K/\((d= .tup l/\SqT c.K H a vs)\/(∃i,d= .ref i/\μ[i]? =some a/\((G[i]? =some (.lst l)/\H a=some (.lst vs))\/(G[i]? =some (.rol l)/\RoL c.K H a vs)))):=by
 rcases d with _|_|_|_|l|i|_|_<;>try (exact p.elim;done)
 ·
   unfold f9 at r
   obtain⟨a,vs,e,q,rl⟩:=r
   exact⟨l,a,vs,e,rl,p,.inl ⟨rfl,q⟩⟩
 ·
   unfold f9 at r
   obtain⟨a,m,e⟩:=r
   have p':d9 c Z μ H ((O4 i >>= λo=>listOf o >>= f) G) K:=by rw[<-M.bind_assoc];exact p
   obtain⟨o,g,p2⟩:=M7 p'
   have ro:=h.obj i o a g m
   rcases o with l|l|l|l
   ·obtain⟨vs,q,rl⟩:=ro;exact⟨l,a,vs,e,rl,p2,.inr ⟨i,rfl,m,.inl ⟨g,q⟩⟩⟩
   ·obtain⟨vs,q,rl⟩:=ro;exact⟨l,a,vs,e,rl,p2,.inr ⟨i,rfl,m,.inr ⟨g,q⟩⟩⟩
   ·exact p2.elim
   ·exact p2.elim
theorem L0(r:f9 c μ H (.int i) v):v= .int i:=by unfold f9 at r;exact r
theorem A1(r:f9 c μ H (.str i) v):v= .str i:=by unfold f9 at r;exact r
theorem c6(r:f9 c μ H (.bl i) v):v= .bl i:=by unfold f9 at r;exact r
theorem fD(r:f9 c μ H .non v):v= .non:=by unfold f9 at r;exact r
theorem ofI:f9 c μ H (.int i) (.int i):=by unfold f9;rfl
theorem ofS:f9 c μ H (.str i) (.str i):=by unfold f9;rfl
theorem ofB:f9 c μ H (.bl i) (.bl i):=by unfold f9;rfl
theorem ofN:f9 c μ H .non .non:=by unfold f9;rfl
def wA(g:Int->Int->M D):D->D->M D:=λx y=>match x,y with
 | .int i,.int j=>g i j
 |_,_=>M.stuck
theorem nK[∀i j,Decidable (C i j)]{g:Int->Int->Int}(h:OpR X f (rI C λi j=>.int (g i j))):OpD X Z f (wA λi j=>if C i j then pure (.int (g i j))else M.stuck):=
 OpD.of h λx y H Q hE0=>hE0.elim λdx dy μ G rx ry hr p=>by
  rcases dx with _|_|_|_|_|_|_|_<;>rcases dy with _|_|_|_|_|_|_|_<;>first
   |exact p.elim
   |skip
  rename_i i j
  unfold wA at p
  dsimp only at p
  split at p
  · rename_i hc
    exact⟨i,j,L0 rx,L0 ry,hc,d9.ok p hr _ ofI⟩
  ·exact p.elim
theorem TX{g:Int->Int->Int}(h:OpR X f (E8 λi j=>.int (g i j))):OpD X Z f (wA λi j=>pure (.int (g i j))):=
 OpD.of h λx y H Q hE0=>hE0.elim λdx dy μ G rx ry hr p=>by
  rcases dx with _|_|_|_|_|_|_|_<;>rcases dy with _|_|_|_|_|_|_|_<;>first
   |exact p.elim
   |exact⟨_,_,L0 rx,L0 ry,d9.ok p hr _ ofI⟩
def Q1:D->D->M D:=wA λi j=>pure (.int (i-j))
theorem eO1:OpD X Z (jL .Sub) Q1:=TX dN
instance (i j:Int):Decidable (L3 i j):=by unfold L3;infer_instance
def fB(_ j:Int):Prop:=0<j/\j<2 ^ 100
instance (i j:Int):Decidable (fB i j):=by unfold fB;infer_instance
theorem qR:OpR X (jL .FloorDiv) (rI fB λi j=>.int (i / j)):=opI λi j _ _ _ _ _ hc q=>by
 have h1:(0:Int)<j:=hc.1
 have h2:j<2 ^ 100:=hc.2
 refine floordiv_int (by lia) (by rw[Int.fdiv_eq_ediv_of_nonneg i (by lia)];exact q) (.inl (PyProof.noPylong_of_log2 ?_))
 have h3:j.natAbs<2 ^ 100:=by lia
 have h4:j.natAbs≠0:=by lia
 have:=(Nat.log2_lt h4).mpr h3
 lia
def M4:D->D->M D:=wA λi j=>if fB i j then pure (.int (i / j))else M.stuck
theorem OR:OpD X Z (jL .FloorDiv) M4:=nK qR
def K1:D->D->M D:=wA λi j=>if 0<j then pure (.int (i % j))else M.stuck
theorem tZ:OpD X Z (jL .Mod) K1:=nK CU
instance (i j:Int):Decidable (cA i j):=by unfold cA;infer_instance
def F6:D->D->M D:=wA λi j=>if cA i j then pure (.int (i ^ j.toNat))else M.stuck
theorem Vx:OpD X Z (jL .Pow) F6:=nK gR
theorem Rc{w:jk}{s:zv}{t b:Addr}{ws:List zj}(ht:Yk s.heap t #[])(hb:Yk s.heap b ws.toArray)
 (h1:Q (.ref b) s):zC (zH prog w) A (jL .Add (.ref t) (.ref b)) Q E s:=by
 obtain⟨⟨cls,dd,data,sl⟩,ho,hc,n,hd⟩:=id ht
 obtain⟨⟨cls2,dd2,data2,sl2⟩,ho2,hc2,n2,hd2⟩:=id hb
 simp only at hc hd hc2 hd2
 subst hc hd hc2 hd2
 exact concat_meets ⟨_,ho,rfl⟩ ⟨_,ho2,rfl⟩ XH JL Zo Zl (Zd _ _)
  (tuple_addW0 t b #[] ws.toArray n n2 dd dd2 sl sl2 (by simp)) ⟨ho,ho2,h1⟩
def Sg(K:zh):R2:=λx y H Q=>∃a b ys,x= .ref a/\y= .ref b/\SqT K H a []/\SqT K H b ys/\Q (.ref b) H
theorem Mg:OpR X (jL .Add) (Sg X.K):=by
 intro pins s σ H x y v u Q I rx ry h
 obtain⟨a,b,ys,rfl,rfl,ha,hb,q⟩:=h
 cases rx
 cases ry
 obtain⟨its,r,p,_⟩:=I.tuple ha
 obtain⟨its2,r2,p2,_⟩:=I.tuple hb
 cases r
 exact Rc p p2 ⟨.ref b,H,I,rfl,q⟩
def O6:D->D->M D:=λx y=>match x,y with
 | .int i,.int j=>pure (.int (i+j))
 | .str a,.str b=>if a.length+b.length<=zg then pure (.str (a++b))else M.stuck
 | .tup a,.tup b=>if a.length+b.length<=zg then pure (.tup (a++b))else M.stuck
 | .ref i,.ref j=>do
   match <-O4 i,<-O4 j with
   | .lst a,.lst b=>if a.length+b.length<=zg then N7 (.lst (a++b))else M.stuck
   |_,_=>M.stuck
 |_,_=>M.stuck
theorem eF{Q:VK}(h:J0 c μ G H)(q:SqT c.K H a vs)(r:u9 c μ H xs vs)
 (p:d9 c Z μ H (some (Except.ok (.tup xs),G)) λd X9 _ H'=>∀v,f9 c X9 H' d v->Q v H'):Q (.ref a) H:=d9.ok p h _ (by unfold f9;exact⟨a,vs,rfl,q,r⟩)
theorem qS:OpD X Z (jL .Add) O6:=
 OpD.of (OpR.or gU (OpR.or kq (OpR.or lT (OpR.or Mg AT)))) λx y H Q hE0=>hE0.elim λdx dy μ G rx ry hr p=>by
  rcases dx with _|_|_|_|_|_|_|_<;>rcases dy with _|_|_|_|_|_|_|_<;>first
   |exact p.elim
   |skip
  ·exact .inl ⟨_,_,L0 rx,L0 ry,d9.ok p hr _ ofI⟩
  · rename_i a b
    refine .inr (.inl ?_)
    unfold O6 at p
    dsimp only at p
    split at p
    · rename_i hz
      exact⟨a,b,A1 rx,A1 ry,hz,d9.ok p hr _ ofS⟩
    ·exact p.elim
  · rename_i a b
    unfold f9 at rx ry
    obtain⟨ax,vx,rfl,qx,lx⟩:=rx
    obtain⟨ay,vy,rfl,qy,ly⟩:=ry
    unfold O6 at p
    dsimp only at p
    split at p
    · rename_i hz
      by_cases hv:vx= []
      · subst hv
        rcases a with _|⟨_,_⟩
        ·exact .inr (.inr (.inr (.inl ⟨ax,ay,vy,rfl,rfl,qx,qy,eF hr qy ly p⟩)))
        ·obtain⟨_,_,z,_⟩:=lx;cases z
      · refine .inr (.inr (.inl ⟨ax,ay,vx,vy,rfl,rfl,qx,qy,hv,by rw[<-lx.length,<-ly.length];exact hz,?_⟩))
        refine⟨λhy=>?_,λhy q hq=>dE hr (lx.append ly) p q hq⟩
        subst hy
        refine eF hr qx ?_ p
        rcases b with _|⟨_,_⟩
        ·rw[yz];exact lx
        ·obtain⟨_,_,z,_⟩:=ly;cases z
    ·exact p.elim
  · rename_i i j
    unfold f9 at rx ry
    obtain⟨ax,mx,rfl⟩:=rx
    obtain⟨ay,my,rfl⟩:=ry
    obtain⟨ox,gx,p⟩:=M7 p
    obtain⟨oy,gy,p⟩:=M7 p
    have hx:=hr.obj i ox ax gx mx
    have hy:=hr.obj j oy ay gy my
    rcases ox with _|_|_|_<;>rcases oy with _|_|_|_<;>first
     |exact p.elim
     |skip
    obtain⟨vx,ex,lx⟩:=hx
    obtain⟨vy,ey,ly⟩:=hy
    dsimp only at p
    split at p
    · rename_i hz
      exact .inr (.inr (.inr (.inr ⟨ax,ay,vx,vy,rfl,rfl,ex,ey,by rw[<-lx.length,<-ly.length];exact hz,λq hq=>V3 hr (lx.append ly) p q hq⟩)))
    ·exact p.elim
end
def C0(G:DH):D->Option (Bool×List D)
 | .tup l=>some (true,l)
 | .ref i=>match G[i]? with
   |some (.lst l)=>some (false,l)
   |some (.rol l)=>some (false,l)
   |_=>none
 |_=>none
def P6:D->Bool
 | .non=>true
 | .bl _=>true
 | .int _=>true
 | .str _=>true
 |_=>false
def eqS:D->D->Option Bool
 | .non,.non=>some true
 | .bl a,.bl b=>some (a==b)
 | .int a,.int b=>some (a==b)
 | .str a,.str b=>some (a==b)
 | .bl a,.int b=>some ((if a then (1:Int)else 0)==b)
 | .int a,.bl b=>some (a==(if b then (1:Int)else 0))
 |x,y=>if P6 x&&P6 y then some false else none
def eqL(f:D->D->Option Bool):List D->List D->Option Bool
 |[], []=>some true
 |[],_::_=>some false
 |_::_, []=>some false
 |x::xs,y::ys=>match f x y,eqL f xs ys with
   |some e,some r=>some (e&&r)
   |_,_=>none
def eqN:Nat->DH->D->D->Option Bool
 |0,_,_,_=>none
 |n+1,G,x,y=>match C0 G x,C0 G y with
   |some (k1,a),some (k2,b)=>if k1=k2 then (if k1=false/\a.length≠b.length then some false else eqL (eqN n G) a b)else some false
   |some _,none=>if P6 y then some false else none
   |none,some _=>if P6 x then some false else none
   |none,none=>eqS x y
theorem FB:eqN (n+1) G x y=match C0 G x,C0 G y with
 |some (k1,a),some (k2,b)=>if k1=k2 then (if k1=false/\a.length≠b.length then some false else eqL (eqN n G) a b)else some false
 |some _,none=>if P6 y then some false else none
 |none,some _=>if P6 x then some false else none
 |none,none=>eqS x y:=rfl
theorem nG:eqL f (x::xs) (y::ys)=match f x y,eqL f xs ys with
 |some e,some r=>some (e&&r)
 |_,_=>none:=rfl
theorem tL:∀a b r,eqL f a b=some r->(∀j x y,a[j]? =some x->b[j]? =some y->f x y=some (e j))->r= ((jr (min a.length b.length)).all e&&a.length==b.length)
 |[], [],r,h,_=>by cases h;rfl
 |[],_::_,r,h,_=>by cases h;simp
 |_::_, [],r,h,_=>by cases h;simp
 |x::xs,y::ys,r,h,he=>by
   rw[nG]at h
   have h0:=he 0 x y rfl rfl
   rw[h0]at h
   rcases hr:eqL f xs ys with _|r'
   ·rw[hr]at h;exact J7 h
   ·
     rw[hr]at h
     have ih:=tL xs ys r' hr λj x' y' h1 h2=>he (j+1) x' y' (by simpa using h1) (by simpa using h2)
     cases h
     rw[ih]
     have:min (x::xs).length (y::ys).length=min xs.length ys.length+1:=by simp only[zM];lia
     rw[this,Zy,jU,ZB]
     simp[Bool.and_assoc,Ym]
theorem TH:∀a b r,eqL f a b=some r->∀(j:Nat) x y,a[j]? =some x->b[j]? =some y->∃e,f x y=some e
 |[],_,_,_,_,_,_,h,_=>by simp at h
 |_::_, [],_,_,_,_,_,_,h=>by simp at h
 |x::xs,y::ys,r,h,j,x',y',h1,h2=>by
   rw[nG]at h
   rcases hf:f x y with _|e
   ·rw[hf]at h;exact J7 h
   ·
     rcases hr:eqL f xs ys with _|r'
     ·rw[hf,hr]at h;exact J7 h
     ·
       cases j with
       |zero=>simp at h1 h2;subst h1 h2;exact⟨e,hf⟩
       |succ j=>exact TH xs ys r' hr j x' y' (by simpa using h1) (by simpa using h2)
section
def KC(s:zv)(k:Bool)(a:Addr)(its:List zj):Prop:=if k then s.heap.IsTuple a its.toArray else s.heap.IsList a its.toArray
theorem g9(I:Inv X pins σ H s)(h:J0 (wc X) μ G H)(e:C0 G d=some (k,l))(r:f9 (wc X) μ H d x)(rv:K4 x v):
 ∃a vs its,x= .ref a/\v= .ref a/\u9 (wc X) μ H l vs/\J1 vs its/\KC s k a its/\(if k then SqT X.K H a vs else SqL X.K H a vs):=by
 rcases d with _|_|_|_|l'|i|_|_<;>try (cases e;done)
 ·
   unfold C0 at e
   cases e
   unfold f9 at r
   obtain⟨a,vs,rfl,q,rl⟩:=r
   obtain⟨its,rr,p,_⟩:=I.tuple q
   exact⟨a,vs,its,rfl,rv,rl,rr,p,q⟩
 ·
   have e':(match G[i]? with|some (.lst l)=>some (false,l)|some (.rol l)=>some (false,l)|_=>none)=some (k,l):=e
   unfold f9 at r
   obtain⟨a,m,rfl⟩:=r
   have key:∀vs,SqL X.K H a vs->u9 (wc X) μ H l vs->k=false->∃a' vs its,V.ref a= .ref a'/\v= .ref a'/\u9 (wc X) μ H l vs/\J1 vs its/\KC s k a' its/\(if k then SqT X.K H a' vs else SqL X.K H a' vs):=λvs q rl hk=>by
    subst hk
    obtain⟨its,rr,p,_⟩:=I.list q
    exact⟨a,vs,its,rfl,rv,rl,rr,p.isList,q⟩
   generalize g:G[i]? =o at e'
   rcases o with _|l'|l'|_|_<;>cases e'
   · obtain⟨vs,q,rl⟩:=h.obj i _ a g m
     exact key vs (SqL.of q) rl rfl
   · obtain⟨vs,q,rl⟩:=h.obj i _ a g m
     exact key vs q.sq rl rfl
theorem fQ(hs:P6 d=true)(r:f9 c μ H d (.ref a)):False:=by
 cases d<;>first
  |exact absurd (show false=true from hs) ja
  |(unfold f9 at r;cases r)
theorem VQ(h:eqS x y=some b):P6 x=true/\P6 y=true:=by
 rcases x with _|_|_|_|_|_|_|_<;>rcases y with _|_|_|_|_|_|_|_<;>first
  |exact⟨rfl,rfl⟩
  |(cases h;done)
theorem bW(h:eqS x y=some b)(rx:f9 c μ H x v)(ry:f9 c μ H y v):b=true:=by
 obtain⟨s1,s2⟩:=VQ h
 rcases x with _|_|_|_|_|_|_|_<;>rcases y with _|_|_|_|_|_|_|_<;>first
  |(cases s1;done)
  |(cases s2;done)
  |(unfold f9 at rx ry;rw[rx]at ry;cases ry;done)
  |(unfold f9 at rx ry;rw[rx]at ry;cases ry;cases h;first|rfl|simp)
theorem tR(I:Inv X pins σ H s)(h1:KC s k a its)(h2:KC s k' a its'):k=k':=by
 cases k<;>cases k'<;>first
  |rfl
  |exact absurd rfl (Je h1 h2)
  |exact absurd rfl (Je h2 h1)
theorem DN:∀l l' vs b,u9 c μ H l vs->u9 c μ H l' vs->(∀d d' v b,v∈vs->f9 c μ H d v->f9 c μ H d' v->f d d'=some b->b=true)->eqL f l l'=some b->b=true
 |[], [],_,b,_,_,_,e=>by cases e;rfl
 |[],_::_,vs,b,r1,r2,_,_=>by cases r1;obtain⟨_,_,z,_⟩:=r2;exact SF z
 |_::_, [],vs,b,r1,r2,_,_=>by cases r2;obtain⟨_,_,z,_⟩:=r1;cases z
 |d::ds,d'::ds',vs,b,r1,r2,k,e=>by
   obtain⟨v0,vr,rfl,q0,t0⟩:=r1
   obtain⟨v1,vr',e1,q1,t1⟩:=r2
   cases e1
   rw[nG]at e
   rcases hf:f d d' with _|e0
   ·rw[hf]at e;exact J7 e
   ·
     rcases hr:eqL f ds ds' with _|r'
     ·rw[hf,hr]at e;exact J7 e
     ·
       rw[hf,hr]at e
       cases e
       have z1:=k d d' v0 e0 zt q0 q1 hf
       have z2:=DN ds ds' vr r' t0 t1 (λa a' v b hm=>k a a' v b (zn _ hm)) hr
       rw[z1,z2];rfl
theorem eR(I:Inv X pins σ H s)(h:J0 (wc X) μ G H):∀n {dx dy} {x} {v} {b},f9 (wc X) μ H dx x->f9 (wc X) μ H dy x->K4 x v->eqN n G dx dy=some b->b=true
 |0,_,_,_,_,_,_,_,_,e=>by exact J7 e
 |n+1,dx,dy,x,v,b,rx,ry,rv,e=>by
   rw[FB]at e
   rcases hx:C0 G dx with _|p
   ·
     rw[hx]at e
     rcases hy:C0 G dy with _|p
     ·rw[hy]at e;exact bW e rx ry
     ·
       obtain⟨k,l⟩:=p
       rw[hy]at e
       dsimp only at e
       split at e
       · rename_i hs
         obtain⟨a,_,_,rfl,_⟩:=g9 I h hy ry rv
         exact(fQ hs rx).elim
       ·exact J7 e
   ·
     obtain⟨k,l⟩:=p
     rw[hx]at e
     rcases hy:C0 G dy with _|p'
     ·
       rw[hy]at e
       dsimp only at e
       split at e
       · rename_i hs
         obtain⟨a,_,_,rfl,_⟩:=g9 I h hx rx rv
         exact(fQ hs ry).elim
       ·exact J7 e
     ·
       obtain⟨k',l'⟩:=p'
       rw[hy]at e
       dsimp only at e
       obtain⟨a,vs,its,rfl,rfl,rl,rr,sq,q⟩:=g9 I h hx rx rv
       obtain⟨a',vs',its',ea,_,rl',rr',sq',q'⟩:=g9 I h hy ry rv
       cases ea
       have hk:k=k':=tR I sq sq'
       subst hk
       have hvs:vs=vs':=by
        rcases k with _|_
        ·exact I.list_inj q q'
        ·exact I.tuple_inj q q'
       subst hvs
       rw[if_pos rfl,if_neg (by rw[rl.length,rl'.length];simp)]at e
       have hv:∀v∈vs,∃u,K4 v u:=λv hv=>by
        obtain⟨i,hi⟩:=JI hv
        obtain⟨u,_,ru⟩:=rr.get hi
        exact⟨u,ru⟩
       exact DN l l' vs b rl rl' (λd d' v b hm r1 r2 ef=>by
        obtain⟨u,ru⟩:=hv v hm
        exact eR I h n r1 r2 ru ef) e
theorem Qm(rx:f9 c μ H dx x)(ry:f9 c μ H dy y)(rv:K4 x v)(ru:K4 y u)(e:eqS dx dy=some b):
 Yp A s v u b/\Zs A s v u (!b)/\yC A s v u b:=by
 obtain⟨s1,s2⟩:=VQ e
 rcases dx with _|i|i|i|_|_|_|_<;>try (cases s1;done)
 ·
   unfold f9 at rx;subst rx;cases rv
   rcases dy with _|j|j|j|_|_|_|_<;>try (cases s2;done)
   ·unfold f9 at ry;subst ry;cases ru;cases e;exact⟨SeqAt.RcAt.none_none,SeqAt.RcNeAt.none_none,Yv _⟩
   ·unfold f9 at ry;subst ry;cases ru;cases e;exact⟨SeqAt.RcAt.none_bool _,SeqAt.RcNeAt.none_bool _,Xt _⟩
   ·unfold f9 at ry;subst ry;obtain⟨t,rfl⟩:=ru;cases e;exact⟨SeqAt.RcAt.none_int _ _,SeqAt.RcNeAt.none_int _ _,XO _ _⟩
   ·unfold f9 at ry;subst ry;obtain⟨t,rfl⟩:=ru;cases e;exact⟨SeqAt.RcAt.none_str _ _,SeqAt.RcNeAt.none_str _ _,XM _ _⟩
 ·
   unfold f9 at rx;subst rx;cases rv
   rcases dy with _|j|j|j|_|_|_|_<;>try (cases s2;done)
   ·unfold f9 at ry;subst ry;cases ru;cases e;exact⟨SeqAt.RcAt.bool_none _,SeqAt.RcNeAt.bool_none _,Xu _⟩
   ·unfold f9 at ry;subst ry;cases ru;cases e;exact⟨SeqAt.RcAt.bool_bool _ _,SeqAt.RcNeAt.bool_bool _ _,Xv _ _⟩
   ·unfold f9 at ry;subst ry;obtain⟨t,rfl⟩:=ru;cases e;exact⟨SeqAt.RcAt.bool_int _ _ _,SeqAt.RcNeAt.bool_int _ _ _,XT _ _ _⟩
   ·unfold f9 at ry;subst ry;obtain⟨t,rfl⟩:=ru;cases e;exact⟨SeqAt.RcAt.bool_str _ _ _,SeqAt.RcNeAt.bool_str _ _ _,XS _ _ _⟩
 ·
   unfold f9 at rx;subst rx;obtain⟨t,rfl⟩:=rv
   rcases dy with _|j|j|j|_|_|_|_<;>try (cases s2;done)
   ·unfold f9 at ry;subst ry;cases ru;cases e;exact⟨SeqAt.RcAt.int_none _ _,SeqAt.RcNeAt.int_none _ _,XQ _ _⟩
   ·unfold f9 at ry;subst ry;cases ru;cases e;exact⟨SeqAt.RcAt.int_bool _ _ _,SeqAt.RcNeAt.int_bool _ _ _,XR _ _ _⟩
   ·unfold f9 at ry;subst ry;obtain⟨t,rfl⟩:=ru;cases e;exact⟨SeqAt.RcAt.int_int _ _ _ _,SeqAt.RcNeAt.int_int _ _ _ _,XZ _ _ _ _⟩
   ·unfold f9 at ry;subst ry;obtain⟨t,rfl⟩:=ru;cases e;exact⟨SeqAt.RcAt.int_str _ _ _ _,SeqAt.RcNeAt.int_str _ _ _ _,ZJ _ _ _ _⟩
 ·
   unfold f9 at rx;subst rx;obtain⟨t,rfl⟩:=rv
   rcases dy with _|j|j|j|_|_|_|_<;>try (cases s2;done)
   ·unfold f9 at ry;subst ry;cases ru;cases e;exact⟨SeqAt.RcAt.str_none _ _,SeqAt.RcNeAt.str_none _ _,XJ _ _⟩
   ·unfold f9 at ry;subst ry;cases ru;cases e;exact⟨SeqAt.RcAt.str_bool _ _ _,SeqAt.RcNeAt.str_bool _ _ _,XL _ _ _⟩
   ·unfold f9 at ry;subst ry;obtain⟨t,rfl⟩:=ru;cases e;exact⟨SeqAt.RcAt.str_int _ _ _ _,SeqAt.RcNeAt.str_int _ _ _ _,ZI _ _ _ _⟩
   ·unfold f9 at ry;subst ry;obtain⟨t,rfl⟩:=ru;cases e;exact⟨SeqAt.RcAt.str_str _ _ _ _,SeqAt.RcNeAt.str_str _ _ _ _,XY _ _ _ _⟩
theorem aL(hu:A.units<xn)(sq:KC s k a its)(ry:f9 c μ H dy y)(ru:K4 y u)(hs:P6 dy=true):
 (Yp A s (.ref a) u false/\Zs A s (.ref a) u true/\yC A s (.ref a) u false)/\(Yp A s u (.ref a) false/\Zs A s u (.ref a) true/\yC A s u (.ref a) false):=by
 rcases k with _|_
 ·
   rcases dy with _|j|j|j|_|_|_|_<;>try (cases hs;done)
   ·unfold f9 at ry;subst ry;cases ru;exact⟨⟨.list_none sq hu,.list_none sq hu,.list_none sq hu⟩,.none_list sq hu,.none_list sq hu,.none_list sq hu⟩
   ·unfold f9 at ry;subst ry;cases ru;exact⟨⟨.list_bool _ sq hu,.list_bool _ sq hu,.list_bool _ sq hu⟩,.bool_list _ sq hu,.bool_list _ sq hu,.bool_list _ sq hu⟩
   ·unfold f9 at ry;subst ry;obtain⟨t,rfl⟩:=ru;exact⟨⟨.list_int _ _ sq hu,.list_int _ _ sq hu,.list_int _ _ sq hu⟩,.int_list _ _ sq hu,.int_list _ _ sq hu,.int_list _ _ sq hu⟩
   ·unfold f9 at ry;subst ry;obtain⟨t,rfl⟩:=ru;exact⟨⟨.list_str _ _ sq hu,.list_str _ _ sq hu,.list_str _ _ sq hu⟩,.str_list _ _ sq hu,.str_list _ _ sq hu,.str_list _ _ sq hu⟩
 ·
   rcases dy with _|j|j|j|_|_|_|_<;>try (cases hs;done)
   ·unfold f9 at ry;subst ry;cases ru;exact⟨⟨.tuple_none sq hu,.tuple_none sq hu,.tuple_none sq hu⟩,.none_tuple sq hu,.none_tuple sq hu,.none_tuple sq hu⟩
   ·unfold f9 at ry;subst ry;cases ru;exact⟨⟨.tuple_bool _ sq hu,.tuple_bool _ sq hu,.tuple_bool _ sq hu⟩,.bool_tuple _ sq hu,.bool_tuple _ sq hu,.bool_tuple _ sq hu⟩
   ·unfold f9 at ry;subst ry;obtain⟨t,rfl⟩:=ru;exact⟨⟨.tuple_int _ _ sq hu,.tuple_int _ _ sq hu,.tuple_int _ _ sq hu⟩,.int_tuple _ _ sq hu,.int_tuple _ _ sq hu,.int_tuple _ _ sq hu⟩
   ·unfold f9 at ry;subst ry;obtain⟨t,rfl⟩:=ru;exact⟨⟨.tuple_str _ _ sq hu,.tuple_str _ _ sq hu,.tuple_str _ _ sq hu⟩,.str_tuple _ _ sq hu,.str_tuple _ _ sq hu,.str_tuple _ _ sq hu⟩
theorem wG(I:Inv X pins σ H s)(h:J0 (wc X) μ G H):∀n A,A.units+n<xn->∀ {dx dy} {x y:V} {v u} {b:Bool},f9 (wc X) μ H dx x->f9 (wc X) μ H dy y->K4 x v->K4 y u->eqN n G dx dy=some b->
 Yp A s v u b/\Zs A s v u (!b)/\yC A s v u b
 |0,_,_,_,_,_,_,_,_,_,_,_,_,_,e=>by exact J7 e
 |n+1,A,hu,dx,dy,x,y,v,u,b,rx,ry,rv,ru,e=>by
   have hu0:A.units<xn:=by lia
   have hu1:A.in1.units+n<xn:=by show A.units+1+n<xn;lia
   have e0:=e
   rw[FB]at e
   rcases hx:C0 G dx with _|p
   ·
     rw[hx]at e
     rcases hy:C0 G dy with _|p
     ·rw[hy]at e;exact Qm rx ry rv ru e
     ·
       obtain⟨k,l⟩:=p
       rw[hy]at e
       dsimp only at e
       split at e
       · rename_i hs
         cases e
         obtain⟨a,vs,its,rfl,rfl,_,_,sq,_⟩:=g9 I h hy ry ru
         exact(aL hu0 sq rx rv hs).2
       ·exact J7 e
   ·
     obtain⟨k,l⟩:=p
     rw[hx]at e
     obtain⟨a,vs,its,rfl,rfl,rl,rr,sq,q⟩:=g9 I h hx rx rv
     rcases hy:C0 G dy with _|p'
     ·
       rw[hy]at e
       dsimp only at e
       split at e
       · rename_i hs
         cases e
         exact(aL hu0 sq ry ru hs).1
       ·exact J7 e
     ·
       obtain⟨k',l'⟩:=p'
       rw[hy]at e
       dsimp only at e
       obtain⟨a',vs',its',rfl,rfl,rl',rr',sq',q'⟩:=g9 I h hy ry ru
       -- the two at one place
       have main:Yp A s (.ref a) (.ref a') b/\Zs A s (.ref a) (.ref a') (!b):=by
        have len1:its.toArray.size=l.length:=by rw[zi,<-rr.length,rl.length]
        have len2:its'.toArray.size=l'.length:=by rw[zi,<-rr'.length,rl'.length]
        by_cases hk:k=k'
        · subst hk
          rw[if_pos rfl]at e
          by_cases hlen:k=false/\l.length≠l'.length
          · rw[if_pos hlen]at e
            cases e
            obtain⟨rfl,hne⟩:=hlen
            have hz:(its.toArray.size != its'.toArray.size)=true:=by rw[len1,len2];simpa using hne
            exact⟨SeqAt.RcAt.lists_lengths sq sq' hz hu0,SeqAt.RcNeAt.lists_lengths sq sq' hz hu0⟩
          · rw[if_neg hlen]at e
            have items:∀j (h1:j<its.toArray.size) (h2:j<its'.toArray.size),∃e,eqN n G (l.getD j .non) (l'.getD j .non)=some e/\yC A.in1 s its.toArray[j] its'.toArray[j] e:=λj h1 h2=>by
             have j1:j<l.length:=by rw[<-len1];exact h1
             have j2:j<l'.length:=by rw[<-len2];exact h2
             have g1:l[j]? =some l[j]:=ze j1
             have g2:l'[j]? =some l'[j]:=ze j2
             obtain⟨e1,he1⟩:=TH l l' b e j _ _ g1 g2
             obtain⟨v1,hv1,r1⟩:=rl.get g1
             obtain⟨v2,hv2,r2⟩:=rl'.get g2
             obtain⟨u1,hu1',ru1⟩:=rr.get hv1
             obtain⟨u2,hu2',ru2⟩:=rr'.get hv2
             have w1:its.toArray[j]=u1:=by
              have:its.toArray[j]? =some u1:=by simpa using hu1'
              rw[xb h1]at this
              exact jl this
             have w2:its'.toArray[j]=u2:=by
              have:its'.toArray[j]? =some u2:=by simpa using hu2'
              rw[xb h2]at this
              exact jl this
             rw[w1,w2]
             refine⟨e1,?_,(wG I h n A.in1 hu1 r1 r2 ru1 ru2 he1).2.2⟩
             rw[zD,zD,g1,g2]
             exact he1
            have hr:=tL (e:=λj=>(eqN n G (l.getD j .non) (l'.getD j .non)).getD false) l l' b e λj x y g1 g2=>by
             obtain⟨e1,he1⟩:=TH l l' b e j x y g1 g2
             rw[zD,zD,g1,g2]
             simp only[Option.getD_some]
             rw[he1];rfl
            have he:∀j (h1:j<its.toArray.size) (h2:j<its'.toArray.size),yC A.in1 s its.toArray[j] its'.toArray[j] ((eqN n G (l.getD j .non) (l'.getD j .non)).getD false):=λj h1 h2=>by
             obtain⟨e1,he1,hh⟩:=items j h1 h2
             rw[he1];exact hh
            rcases k with _|_
            ·
              have hl:l.length=l'.length:=je λz=>hlen ⟨rfl,z⟩
              have hsz:its.toArray.size=its'.toArray.size:=by rw[len1,len2,hl]
              have z1:=SeqAt.RcAt.lists sq sq' hsz hu0 he
              have z2:=SeqAt.RcNeAt.lists sq sq' hsz hu0 he
              have hr2:b= (jr its.toArray.size).all λj=>(eqN n G (l.getD j .non) (l'.getD j .non)).getD false:=by
               rw[hr,len1,hl];simp
              rw[<-hr2]at z1 z2
              exact⟨z1,z2⟩
            ·
              have z1:=SeqAt.RcAt.tuples sq sq' hu0 he
              have z2:=SeqAt.RcNeAt.tuples sq sq' hu0 he
              rw[len1,len2,<-hr]at z1 z2
              exact⟨z1,z2⟩
        · rw[if_neg hk]at e
          cases e
          cases k<;>cases k'<;>first
           |exact absurd rfl hk
           |exact⟨SeqAt.RcAt.list_tuple sq sq' hu0,SeqAt.RcNeAt.list_tuple sq sq' hu0⟩
           |exact⟨SeqAt.RcAt.tuple_list sq sq' hu0,SeqAt.RcNeAt.tuple_list sq sq' hu0⟩
       refine⟨main.1,main.2,?_⟩
       by_cases ha:a=a'
       · subst ha
         have:b=true:=eR I h (n+1) rx ry rv e0
         rw[this]
         exact Yv _
       ·exact SeqAt.EqAt.of_refs ha main.1
end
section
def eqD:D->D->M D:=λx y G=>match eqN 40 G x y with
 |some b=>some (.ok (.bl b),G)
 |none=>none
def neD:D->D->M D:=λx y G=>match eqN 40 G x y with
 |some b=>some (.ok (.bl (!b)),G)
 |none=>none
theorem eV(hu:X.A.units+64<xn):OpD X Z (zT .Eq) eqD:=⟨by
 intro pins s σ H x y v u Q I rx ry hE0
 refine hE0.elim λdx dy μ G rdx rdy hr p=>?_
 unfold eqD at p
 rcases e:eqN 40 G dx dy with _|b
 ·rw[e]at p;exact p.elim
 ·
   rw[e]at p
   exact(wG I hr 40 X.A (by lia) rdx rdy rx ry e).1 X.prog X.w X.xe _ ⟨.bl b,H,I,rfl,d9.ok p hr _ ofB⟩⟩
theorem Kq(hu:X.A.units+64<xn):OpD X Z (zT .NotEq) neD:=⟨by
 intro pins s σ H x y v u Q I rx ry hE0
 refine hE0.elim λdx dy μ G rdx rdy hr p=>?_
 unfold neD at p
 rcases e:eqN 40 G dx dy with _|b
 ·rw[e]at p;exact p.elim
 ·
   rw[e]at p
   exact(wG I hr 40 X.A (by lia) rdx rdy rx ry e).2.1 X.prog X.w X.xe _ ⟨.bl (!b),H,I,rfl,d9.ok p hr _ ofB⟩⟩
def leD:D->D->M D:=λx y=>match x,y with
 | .int i,.int j=>pure (.bl (decide (i<=j)))
 | .str i,.str j=>pure (.bl (!decide (j.cps.toList<i.cps.toList)))
 |_,_=>M.stuck
def gtD:D->D->M D:=λx y=>match x,y with
 | .int i,.int j=>pure (.bl (decide (j<i)))
 | .str i,.str j=>pure (.bl (decide (j.cps.toList<i.cps.toList)))
 |_,_=>M.stuck
def geD:D->D->M D:=λx y=>match x,y with
 | .int i,.int j=>pure (.bl (decide (j<=i)))
 | .str i,.str j=>pure (.bl (!decide (i.cps.toList<j.cps.toList)))
 |_,_=>M.stuck
theorem QH{op:CmpOp}{fi:Int->Int->Bool}{fs:Str->Str->Bool}(hi:OpR X (zT op) (E8 λi j=>.bl (fi i j)))
 (hs:∀(i j:Str) (t u:Tok) (s:zv) Q E,Q (.bool (fs i j)) s->zC (zH X.prog X.w) X.A (zT op (.str i t) (.str j u)) Q E s)
 (h1:∀i j,o (.int i) (.int j)=pure (.bl (fi i j))) (h2:∀i j,o (.str i) (.str j)=pure (.bl (fs i j)))
 (h3:∀x y,(∀i j,¬(x= .int i/\y= .int j))->(∀i j,¬(x= .str i/\y= .str j))->o x y=M.stuck):OpD X Z (zT op) o:=⟨by
 intro pins s σ H x y v u Q I rx ry hE0
 refine hE0.elim λdx dy μ G rdx rdy hr p=>?_
 by_cases c1:∃i j,dx= .int i/\dy= .int j
 · obtain⟨i,j,rfl,rfl⟩:=c1
   rw[h1]at p
   exact hi pins s σ H x y v u Q I rx ry ⟨i,j,L0 rdx,L0 rdy,d9.ok p hr _ ofB⟩
 · by_cases c2:∃i j,dx= .str i/\dy= .str j
   · obtain⟨i,j,rfl,rfl⟩:=c2
     rw[h2]at p
     have e1:=A1 rdx
     have e2:=A1 rdy
     subst e1 e2
     obtain⟨t,rfl⟩:=rx
     obtain⟨t',rfl⟩:=ry
     exact hs i j t t' s _ _ ⟨.bl (fs i j),H,I,rfl,d9.ok p hr _ ofB⟩
   · rw[h3 dx dy (λi j z=>c1 ⟨i,j,z⟩) (λi j z=>c2 ⟨i,j,z⟩)]at p
     exact p.elim⟩
theorem CW:OpD X Z (zT .LtE) leD:=QH mU (λ_ _ _ _ _ _ _ q=>PySem.P.le_str q) (λ_ _=>rfl) (λ_ _=>rfl) λx y n1 n2=>by
 rcases x with _|_|_|_|_|_|_|_<;>rcases y with _|_|_|_|_|_|_|_<;>first
  |rfl
  |exact absurd ⟨rfl,rfl⟩ (n1 _ _)
  |exact absurd ⟨rfl,rfl⟩ (n2 _ _)
theorem Gz:OpD X Z (zT .Gt) gtD:=QH Fc (λ_ _ _ _ _ _ _ q=>PySem.P.gt_str q) (λ_ _=>rfl) (λ_ _=>rfl) λx y n1 n2=>by
 rcases x with _|_|_|_|_|_|_|_<;>rcases y with _|_|_|_|_|_|_|_<;>first
  |rfl
  |exact absurd ⟨rfl,rfl⟩ (n1 _ _)
  |exact absurd ⟨rfl,rfl⟩ (n2 _ _)
theorem Dv:OpD X Z (zT .GtE) geD:=QH fI6 (λ_ _ _ _ _ _ _ q=>PySem.P.ge_str q) (λ_ _=>rfl) (λ_ _=>rfl) λx y n1 n2=>by
 rcases x with _|_|_|_|_|_|_|_<;>rcases y with _|_|_|_|_|_|_|_<;>first
  |rfl
  |exact absurd ⟨rfl,rfl⟩ (n1 _ _)
  |exact absurd ⟨rfl,rfl⟩ (n2 _ _)
def NI:D->Bool
 | .non=>true
 |_=>false
theorem BL(r:f9 c μ H d v):decide (v= .non)=NI d:=by
 cases d with
 |non=>rw[fD r];rfl
 |tup l=>unfold f9 at r;obtain⟨a,_,rfl,_⟩:=r;rfl
 |ref l=>unfold f9 at r;obtain⟨a,_,rfl⟩:=r;rfl
 |fn l=>unfold f9 at r;obtain⟨a,_,rfl⟩:=r;rfl
 |_=>unfold f9 at r;subst r;rfl
def A6:D->M D:=λx=>match x with
 | .int i=>pure (.int (-i))
 |_=>M.stuck
theorem wd:UnD X Z (unaryOp .USub) A6:=⟨by
 intro pins s σ H x v Q I rx hE0
 refine hE0.elim λdx μ G rdx hr p=>?_
 cases dx<;>first
  |exact p.elim
  |exact fW pins s σ H x v Q I rx ⟨_,L0 rdx,d9.ok p hr _ ofI⟩⟩
instance (x:Str) (n:Int):Decidable (Zf x n):=by unfold Zf;infer_instance
def N1:D->D->M D:=λx y=>match x,y with
 | .int i,.int j=>if L3 i j then pure (.int (i*j))else M.stuck
 | .str x,.int n=>if Zf x n then pure (.str (Yh x n))else M.stuck
 |_,_=>M.stuck
theorem cS1:OpR X (jL .Mult) (λx y H Q=>∃z n,x= .str z/\y= .int n/\Zf z n/\Q (.str (Yh z n)) H):=by
 intro pins s σ H x y v u Q I rx ry h
 obtain⟨z,n,rfl,rfl,hk,q⟩:=h
 obtain⟨t,rfl⟩:=rx
 obtain⟨t',rfl⟩:=ry
 exact PySem.SB.mul hk λt' k=>⟨.str _,H,I.tok _,⟨_,rfl⟩,q⟩
theorem uN:OpD X Z (jL .Mult) N1:=
 OpD.of (OpR.or Vm cS1) λx y H Q hE0=>hE0.elim λdx dy μ G rdx rdy hr p=>by
  rcases dx with _|_|_|_|_|_|_|_<;>rcases dy with _|_|_|_|_|_|_|_<;>first
   |exact p.elim
   |skip
  · unfold N1 at p
    dsimp only at p
    split at p
    ·rename_i hc;exact .inl ⟨_,_,L0 rdx,L0 rdy,hc,d9.ok p hr _ ofI⟩
    ·exact p.elim
  · unfold N1 at p
    dsimp only at p
    split at p
    ·rename_i hc;exact .inr ⟨_,_,A1 rdx,L0 rdy,hc,d9.ok p hr _ ofS⟩
    ·exact p.elim
end
def rH(A:jA)(s:zv)(y x:zj)(b:Bool):Prop:=
 ∀(prog:zW) (w:jk) (E:VSP) (Q:VSP),Q (.bool b) s->zC (zH prog w) A (richCompare .Lt y x) Q E s
inductive LtR(A:jA)(s:zv):List zj->List zj->Bool->Prop
 |nil:LtR A s [] [] false
 |nilc {y ys}:LtR A s [] (y::ys) true
 |cnil {x xs}:LtR A s (x::xs) [] false
 |eq {x y xs ys b}:yC A s x y true->LtR A s xs ys b->LtR A s (x::xs) (y::ys) b
 |ne {x y xs ys b}:yC A s x y false->rH A s x y b->LtR A s (x::xs) (y::ys) b
section
open PySem.SeqAt
open PySem.AutoSeq1 (wpAny_loadPart')
open PySem.MeetsSeq PySem.MeetsSeq2 PySem.MeetsSeq3
theorem Pw(l b:Addr)(items items2:Array zj)(n n2:Nat)(dd dd2:Option Addr)(sl sl2:Array (Option zj))(k:Bool):
 Meets (yM.«tuple.__lt__» ⟨[.ref l,.ref b], []⟩)
  (λA R s=>s.heap.get? l=some {cls:=.type "tuple",dict:=dd,data:=.seq items n,slots:=sl}/\s.heap.get? b=some {cls:=.type "tuple",dict:=dd2,data:=.seq items2 n2,slots:=sl2}/\
    LtR A.in1 s items.toList items2.toList k/\R (.ok (.ret (.bool k))) s):=
 .of_wp λprog w A R s h=>by
  obtain⟨hp,g,d,tk,os⟩:=s;obtain⟨hl,hb,hk,h⟩:=h
  have f2:=AutoSeq1.sub_tuple_tuple
  wp_walk using jx hl,jx hb,wpAny_forIn_list _ (λT6 b s'=>b.1=none/\s'= ⟨hp,g,d,tk,os⟩/\∃(vs ws:List zj),T6=vs.zip ws/\
   vs.length+items2.size=ws.length+items.size/\LtR A.in1 ⟨hp,g,d,tk,os⟩ vs ws k) _
  case turn=>
   rintro⟨y,x⟩ T6 b s' ⟨hb',rfl,vs,ws,hz,hlen,hR⟩
   cases hR with
   |nil=>exact WH hz
   |nilc=>exact WH hz
   |cnil=>exact WH hz
   |eq he hR'=>
     rw[Zc]at hz
     injection hz with hyx hrest
     injection hyx with hy hx
     subst hy hx
     refine za (he prog w _ _ ?_)
     wp_walk
     simp only[zM]at hlen
     exact⟨rfl,rfl,_,_,hrest,by lia,hR'⟩
   |ne he hc=>
     rw[Zc]at hz
     injection hz with hyx hrest
     injection hyx with hy hx
     subst hy hx
     refine za (he prog w _ _ ?_)
     have hri:=hc prog w
     wp_walk using hri
     exact⟨_,rfl,h⟩
  case fin=>
   rintro⟨b1,b2⟩ s' ⟨hb',rfl,vs,ws,hz,hlen,hR⟩
   simp only at hb'
   subst hb'
   have hv:k=decide (items.size<items2.size):=by
    cases hR with
    |nil=>simp only[yy]at hlen;exact(decide_eq_false (by lia)).symm
    |nilc=>simp only[yy,zM]at hlen;exact(decide_eq_true (by lia)).symm
    |cnil=>simp only[yy,zM]at hlen;exact(decide_eq_false (by lia)).symm
    |eq _ _=>rw[Zc]at hz;exact SF hz
    |ne _ _=>rw[Zc]at hz;exact SF hz
   rw[hv]at h
   wp_walk
   exact⟨_,rfl,by simpa [Builtin.Tuple.tupleCompareSizes]using h⟩
  case h=>
   exact⟨rfl,rfl,items.toList,items2.toList,rfl,by simp;lia,hk⟩
theorem Fz(l b:Addr)(items items2:Array zj)(n n2:Nat)(dd dd2:Option Addr)(sl sl2:Array (Option zj))(k:Bool):∀vs ws i,items.toList.drop i=vs->items2.toList.drop i=ws->i<=items.size->i<=items2.size->
 Meets (yM.«list.__eq__.loop» ⟨[.ref l,.ref b,Xc i,Xc 0], []⟩)
  (λA R s=>s.heap.get? l=some {cls:=.type "list",dict:=dd,data:=.seq items n,slots:=sl}/\s.heap.get? b=some {cls:=.type "list",dict:=dd2,data:=.seq items2 n2,slots:=sl2}/\
    LtR A.in1 s vs ws k/\R (.ok (.ret (.bool k))) s):=by
 have dropn:∀(a:Array zj) (i:Nat),a.toList.drop i= []->i<=a.size->i=a.size:=λa i e hi=>by
  have:=List.drop_eq_nil_iff.mp e
  simp at this;lia
 have dropc:∀(a:Array zj) (i:Nat) (v:zj) (r:List zj),a.toList.drop i=v::r->i<a.size/\a[((i:Nat):Int).toNat]? =some v/\a.toList.drop (i+1)=r:=λa i v r e=>by
  have hlt:i<a.toList.length:=by
   rcases ZE i a.toList.length with q|q
   ·exact q
   ·rw[xz q]at e;exact SF e
  rw[xg hlt]at e
  injection e with e1 e2
  refine⟨by simpa using hlt,?_,e2⟩
  simp at hlt
  simp[hlt]
  simpa using e1
 intro vs
 induction vs with
 |nil=>
   intro ws i hv hw hi hi2 prog w A R s h
   obtain⟨hp,g,d,tk,os⟩:=s;obtain⟨hl,hb,he,h⟩:=h
   have e1:=dropn items i hv hi
   wp_walk using jx hl,jx hb
   have hi1:items[((i:Nat):Int).toNat]? =none:=by simp;lia
   rw[hi1]
   rcases ws with _|⟨y,ys⟩
   ·
     have e2:=dropn items2 i hw hi2
     cases he
     wp_walk using jx hl,jx hb
     show R (.ok (.ret (.bool (decide (items.size<items2.size))))) _
     rw[decide_eq_false (by lia)]
     exact h
   ·
     obtain⟨hlt,_,_⟩:=dropc items2 i y ys hw
     cases he
     wp_walk using jx hl,jx hb
     show R (.ok (.ret (.bool (decide (items.size<items2.size))))) _
     rw[decide_eq_true (by lia)]
     exact h
 |cons x xs ih=>
   intro ws i hv hw hi hi2 prog w A R s h
   obtain⟨hp,g,d,tk,os⟩:=s;obtain⟨hl,hb,he,h⟩:=h
   obtain⟨hlt,g1,d1⟩:=dropc items i x xs hv
   wp_walk using jx hl,jx hb
   rcases ws with _|⟨y,ys⟩
   ·
     have e2:=dropn items2 i hw hi2
     have hi2':items2[((i:Nat):Int).toNat]? =none:=by simp;lia
     rw[g1,hi2']
     cases he
     wp_walk using jx hl,jx hb
     show R (.ok (.ret (.bool (decide (items.size<items2.size))))) _
     rw[decide_eq_false (by lia)]
     exact h
   ·
     obtain⟨hlt2,g2,d2⟩:=dropc items2 i y ys hw
     have hc:((i:Int)+1)= ((i+1:Nat):Int):=by push_cast;rfl
     rw[g1,g2]
     cases he with
     |eq he he'=>
       refine za (he prog w _ _ ?_)
       wp_walk
       rw[hc]
       exact⟨yI plain_eq_loop _,xq entry_eq_loop (by
        rw[yw plain_eq_loop _]
        exact ih ys (i+1) d1 d2 (by lia) (by lia) prog w A R _ ⟨hl,hb,he',h⟩)⟩
     |ne he hcmp=>
       refine za (he prog w _ _ ?_)
       have hri:=hcmp prog w
       wp_walk using jx hl,jx hb
       rw[g1,g2]
       wp_walk using hri
       exact h
theorem Tg(l b:Addr)(items items2:Array zj)(n n2:Nat)(dd dd2:Option Addr)(sl sl2:Array (Option zj))(k:Bool):
 Meets (yM.«list.__lt__» ⟨[.ref l,.ref b], []⟩)
  (λA R s=>s.heap.get? l=some {cls:=.type "list",dict:=dd,data:=.seq items n,slots:=sl}/\s.heap.get? b=some {cls:=.type "list",dict:=dd2,data:=.seq items2 n2,slots:=sl2}/\
    LtR A.in1 s items.toList items2.toList k/\R (.ok (.ret (.bool k))) s):=by
 intro prog w A R s h
 obtain⟨hp,g,d,tk,os⟩:=s;obtain⟨hl,hb,he,h⟩:=h
 have f3:=AutoSeq1.sub_list_list
 wp_walk using jx hl,jx hb
 exact⟨yI plain_eq_loop _,xq entry_eq_loop (by
  rw[yw plain_eq_loop _]
  exact Fz l b items items2 n n2 dd dd2 sl sl2 k items.toList items2.toList 0 rfl rfl (zY _) (zY _) prog w A R _ ⟨hl,hb,he,h⟩)⟩
end
def ltS:D->D->Option Bool
 | .int a,.int b=>some (decide (a<b))
 | .str a,.str b=>some (decide (a.cps.toList<b.cps.toList))
 | .bl a,.bl b=>some (decide (b2i a<b2i b))
 |_,_=>none
def ltL(eq lt:D->D->Option Bool):List D->List D->Option Bool
 |[], []=>some false
 |[],_::_=>some true
 |_::_, []=>some false
 |x::xs,y::ys=>match eq x y with
   |some true=>ltL eq lt xs ys
   |some false=>lt x y
   |none=>none
def ltN:Nat->DH->D->D->Option Bool
 |0,_,_,_=>none
 |n+1,G,x,y=>match C0 G x,C0 G y with
   |some (k1,a),some (k2,b)=>if k1=k2 then ltL (eqN n G) (ltN n G) a b else none
   |none,none=>ltS x y
   |_,_=>none
theorem OE:ltN (n+1) G x y=match C0 G x,C0 G y with
 |some (k1,a),some (k2,b)=>if k1=k2 then ltL (eqN n G) (ltN n G) a b else none
 |none,none=>ltS x y
 |_,_=>none:=rfl
section
theorem Hm(rx:f9 c μ H dx x)(ry:f9 c μ H dy y)(rv:K4 x v)(ru:K4 y u)(e:ltS dx dy=some b):rH A s v u b:=by
 intro prog w E Q hq
 rcases dx with _|_|_|_|_|_|_|_<;>rcases dy with _|_|_|_|_|_|_|_<;>first
  |(cases e;done)
  |skip
 · cases e
   unfold f9 at rx ry;subst rx ry;cases rv;cases ru
   exact(lt_bool hq:zC (zH prog w) A (zT .Lt _ _) Q E s)
 · cases e
   unfold f9 at rx ry;subst rx ry;obtain⟨t,rfl⟩:=rv;obtain⟨t',rfl⟩:=ru
   exact(lt_int hq:zC (zH prog w) A (zT .Lt _ _) Q E s)
 · cases e
   unfold f9 at rx ry;subst rx ry;obtain⟨t,rfl⟩:=rv;obtain⟨t',rfl⟩:=ru
   exact(lt_str hq:zC (zH prog w) A (zT .Lt _ _) Q E s)
theorem dO(I:Inv X pins σ H s)(h:J0 (wc X) μ G H):∀n A,A.units+n<xn->∀ {dx dy} {x y} {v u} {b},f9 (wc X) μ H dx x->f9 (wc X) μ H dy y->K4 x v->K4 y u->ltN n G dx dy=some b->rH A s v u b
 |0,_,_,_,_,_,_,_,_,_,_,_,_,_,e=>by exact J7 e
 |n+1,A,hu,dx,dy,x,y,v,u,b,rx,ry,rv,ru,e=>by
   have hu0:A.units<xn:=by lia
   have hu1:A.in1.units+n<xn:=by show A.units+1+n<xn;lia
   rw[OE]at e
   rcases hx:C0 G dx with _|p
   ·
     rw[hx]at e
     rcases hy:C0 G dy with _|p
     ·rw[hy]at e;exact Hm rx ry rv ru e
     ·rw[hy]at e;exact J7 e
   ·
     obtain⟨k,l⟩:=p
     rw[hx]at e
     rcases hy:C0 G dy with _|p'
     ·rw[hy]at e;exact J7 e
     ·
       obtain⟨k',l'⟩:=p'
       rw[hy]at e
       dsimp only at e
       split at e
       case isFalse=>exact J7 e
       rename_i hk
       subst hk
       obtain⟨a,vs,its,rfl,rfl,rl,rr,sq,q⟩:=g9 I h hx rx rv
       obtain⟨a',vs',its',rfl,rfl,rl',rr',sq',q'⟩:=g9 I h hy ry ru
       have main:∀(l l':List D) (vs vs':List V) (its its':List zj),u9 (wc X) μ H l vs->u9 (wc X) μ H l' vs'->J1 vs its->J1 vs' its'->ltL (eqN n G) (ltN n G) l l'=some b->LtR A.in1 s its its' b:=by
        intro l
        induction l with
        |nil=>
          intro l' vs vs' its its' r r' q q' e
          cases r;cases q
          rcases l' with _|⟨_,_⟩
          ·cases r';cases q';cases e;exact .nil
          ·
            obtain⟨_,_,rfl,_,_⟩:=r'
            cases q'
            cases e
            exact .nilc
        |cons d ds ih=>
          intro l' vs vs' its its' r r' q q' e
          obtain⟨v0,vr,rfl,r0,rt⟩:=r
          cases q with
          |cons q0 qt=>
            rcases l' with _|⟨d',ds'⟩
            ·cases r';cases q';cases e;exact .cnil
            ·
              obtain⟨v1,vr',rfl,r1,rt'⟩:=r'
              cases q' with
              |cons q1 qt'=>
                unfold ltL at e
                rcases he:eqN n G d d' with _|b0
                ·rw[he]at e;exact J7 e
                ·
                  rw[he]at e
                  have hE:=(wG I h n A.in1 hu1 r0 r1 q0 q1 he).2.2
                  rcases b0 with _|_
                  ·exact .ne hE (dO I h n A.in1 hu1 r0 r1 q0 q1 e)
                  ·exact .eq hE (ih ds' vr vr' _ _ rt rt' qt qt' e)
       have hR:=main l l' vs vs' its its' rl rl' rr rr' e
       intro prog w E Q hq
       rcases k with _|_
       ·
         obtain⟨⟨cls,dd,data,sl⟩,ho,hc,m,hd⟩:=id sq
         obtain⟨⟨cls2,dd2,data2,sl2⟩,ho2,hc2,m2,hd2⟩:=id sq'
         simp only at hc hd hc2 hd2
         subst hc hd hc2 hd2
         exact richCompare_meets_room ⟨_,ho,rfl⟩ ⟨_,ho2,rfl⟩ PySem.F.slot_list_lt PySem.F.entry_list_lt (PySem.F.args_list_lt_2 _ _) (Tg a a' its.toArray its'.toArray m m2 dd dd2 sl sl2 b)
          ⟨ho,ho2,hR,show Value.bool b≠Value.notImplemented/\Q (.bool b) s from⟨(λx=>nomatch x),hq⟩⟩ hu0
       ·
         obtain⟨⟨cls,dd,data,sl⟩,ho,hc,m,hd⟩:=id sq
         obtain⟨⟨cls2,dd2,data2,sl2⟩,ho2,hc2,m2,hd2⟩:=id sq'
         simp only at hc hd hc2 hd2
         subst hc hd hc2 hd2
         exact richCompare_meets_room ⟨_,ho,rfl⟩ ⟨_,ho2,rfl⟩ PySem.F.slot_tuple_lt PySem.F.entry_tuple_lt (PySem.F.args_tuple_lt_2 _ _) (Pw a a' its.toArray its'.toArray m m2 dd dd2 sl sl2 b)
          ⟨ho,ho2,hR,show Value.bool b≠Value.notImplemented/\Q (.bool b) s from⟨(λx=>nomatch x),hq⟩⟩ hu0
def ltD:D->D->M D:=λx y G=>match ltN 40 G x y with
 |some b=>some (.ok (.bl b),G)
 |none=>none
theorem HL(hu:X.A.units+64<xn):OpD X Z (zT .Lt) ltD:=⟨by
 intro pins s σ H x y v u Q I rx ry hE0
 refine hE0.elim λdx dy μ G rdx rdy hr p=>?_
 unfold ltD at p
 rcases e:ltN 40 G dx dy with _|b
 ·rw[e]at p;exact p.elim
 ·
   rw[e]at p
   exact dO I hr 40 X.A (by lia) rdx rdy rx ry e X.prog X.w X.xe _ ⟨.bl b,H,I,rfl,d9.ok p hr _ ofB⟩⟩
end
def F3:D->Bool
 | .non=>true
 | .bl _=>true
 | .int _=>true
 | .str _=>true
 |_=>false
def toV:D->V
 | .bl b=>.bl b
 | .int i=>.int i
 | .str x=>.str x
 |_=>.non
def f8:D->Option Key
 | .int i=>some (.inl i)
 | .str x=>some (.inr x)
 |_=>none
def u3(l:List (Key×D))(k:Key):Option D:=(l.find? λkv=>decide (kv.1=k)).map (·.2)
def inB(x y:D)(G:DH):Option Bool:=match y with
 | .str j=>match x with
   | .str i=>some (!(jM j i 0 j.length 1).isEmpty)
   |_=>none
 | .ref r=>match G[r]? with
   |some (.dct l)=>(f8 x).map λk=>(u3 l k).isSome
   |some (.rod _)=>none
   |some (.lst l)=>if F3 x&&l.all F3 then some (inV (toV x) (l.map toV))else none
   |some (.rol l)=>if F3 x&&l.all F3 then some (inV (toV x) (l.map toV))else none
   |none=>none
 | .tup l=>if F3 x&&l.all F3 then some (inV (toV x) (l.map toV))else none
 |_=>none
def inD:D->D->M D:=λx y G=>match inB x y G with
 |some b=>some (.ok (.bl b),G)
 |none=>none
def nC:D->D->M D:=λx y G=>match inB x y G with
 |some b=>some (.ok (.bl (!b)),G)
 |none=>none
section
theorem nN(f:F3 d=true)(r:f9 c μ H d v):v=toV d/\a8 v=true:=by
 cases d<;>first
  |exact absurd (show false=true from f) ja
  |(unfold f9 at r;subst r;exact⟨rfl,rfl⟩)
theorem lM:∀ {l} {vs},l.all F3=true->u9 c μ H l vs->vs=l.map toV/\vs.all a8=true
 |[],_,_,r=>by cases r;exact⟨rfl,rfl⟩
 |d::ds,_,f,r=>by
   obtain⟨v,t,rfl,q,rt⟩:=r
   rw[jU,jt]at f
   obtain⟨e1,e2⟩:=nN f.1 q
   obtain⟨e3,e4⟩:=lM f.2 rt
   refine⟨by rw[zL,<-e1,<-e3],?_⟩
   rw[jU,e2,e4];rfl
theorem wI(e:f8 d=some k)(r:f9 c μ H d v):v=kV k:=by
 cases d<;>first
  |(cases e;unfold f9 at r;exact r)
  |exact J7 e
theorem kI:∀ {l} {kvs},z0 c μ H l kvs->match u3 l k with|some d=>∃v,Q2 kvs k=some v/\f9 c μ H d v|none=>Q2 kvs k=none
 |[],_,r=>by cases r;exact rfl
 |(k',d)::t,_,r=>by
  obtain⟨v,kt,rfl,q,rt⟩:=r
  by_cases e:k'=k
  · have h1:u3 ((k',d)::t) k=some d:=by unfold u3;simp[e]
    rw[h1]
    exact⟨v,bH e,q⟩
  · have h1:u3 ((k',d)::t) k=u3 t k:=by unfold u3;simp[e]
    rw[h1]
    have ih:=kI (k:=k) rt
    rw[GE e]
    exact ih
theorem Bc(r:z0 c μ H l kvs):(u3 l k).isSome= (Q2 kvs k).isSome:=by
 have q:=kI (k:=k) r
 rcases e:u3 l k with _|d
 ·rw[e]at q;rw[q];rfl
 ·rw[e]at q;obtain⟨v,q,_⟩:=q;rw[q];rfl
theorem in_at(hu:X.A.units+64<xn)(I:Inv X pins σ H s)(hr:J0 (wc X) μ G H)(rdx:f9 (wc X) μ H dx x)(rdy:f9 (wc X) μ H dy y)(rx:K4 x v)(ry:K4 y u)
 (e:inB dx dy G=some b):
 (Q (.bl b) H->zC (zH X.prog X.w) X.A (zT .In v u) (EP X pins σ Q) X.xe s)/\(Q (.bl (!b)) H->zC (zH X.prog X.w) X.A (zT .NotIn v u) (EP X pins σ Q) X.xe s):=by
 have seq:∀(p:Addr) (l:List D) (vs:List V),y= .ref p->(SqL X.K H p vs\/SqT X.K H p vs)->u9 (wc X) μ H l vs->(if (F3 dx&&l.all F3)=true then some (inV (toV dx) (l.map toV))else none)=some b->
  (Q (.bl b) H->zC (zH X.prog X.w) X.A (zT .In v u) (EP X pins σ Q) X.xe s)/\(Q (.bl (!b)) H->zC (zH X.prog X.w) X.A (zT .NotIn v u) (EP X pins σ Q) X.xe s):=by
  intro p l vs hy hq rl e
  split at e
  · rename_i hf
    rw[jt]at hf
    cases e
    obtain⟨e1,e2⟩:=nN hf.1 rdx
    obtain⟨e3,e4⟩:=lM hf.2 rl
    rw[<-e1,<-e3]
    exact⟨λq=>hW pins s σ H x y v u Q I rx ry ⟨p,vs,hy,hq,e2,e4,q⟩,λq=>QU pins s σ H x y v u Q I rx ry ⟨p,vs,hy,hq,e2,e4,q⟩⟩
  ·exact J7 e
 rcases dy with _|_|_|j|l|i|_|_<;>try (cases e;done)
 ·
   rcases dx with _|_|_|i|_|_|_|_<;>try (cases e;done)
   ·
     cases e
     have e1:=A1 rdx
     have e2:=A1 rdy
     exact⟨λq=>eY pins s σ H x y v u Q I rx ry ⟨i,j,e1,e2,q⟩,λq=>Gf pins s σ H x y v u Q I rx ry ⟨i,j,e1,e2,q⟩⟩
 ·
   unfold f9 at rdy
   obtain⟨a,vs,hy,q,rl⟩:=rdy
   exact seq a l vs hy (.inr q) rl e
 ·
   unfold f9 at rdy
   obtain⟨a,m,hy⟩:=rdy
   rcases g:G[i]? with _|o
   ·unfold inB at e;simp only[g]at e;exact J7 e
   ·
     have ro:=hr.obj i o a g m
     rcases o with l|l|l|l
     ·
       obtain⟨vs,q,rl⟩:=ro
       unfold inB at e;simp only[g]at e
       exact seq a l vs hy (.inl (SqL.of q)) rl e
     ·
       obtain⟨vs,q,rl⟩:=ro
       unfold inB at e;simp only[g]at e
       exact seq a l vs hy (.inl q.sq) rl e
     ·
       obtain⟨kvs,q,rk⟩:=ro
       unfold inB at e;simp only[g]at e
       rcases hk:f8 dx with _|k
       ·rw[hk]at e;exact J7 e
       ·
         rw[hk]at e
         cases e
         have ek:=wI hk rdx
         have dg:aC H a x (Q2 kvs k):=by rw[ek];exact aC.k q
         subst hy
         cases ry
         dsimp only
         rw[Bc rk]
         exact⟨λq=>Qx (by lia) I dg rx λs' I'=>⟨.bl _,H,I',rfl,q⟩,λq=>Qg (by lia) I dg rx λs' I'=>⟨.bl _,H,I',rfl,q⟩⟩
     ·unfold inB at e;simp only[g]at e;exact J7 e
theorem Hk(hu:X.A.units+64<xn):OpD X Z (zT .In) inD:=⟨by
 intro pins s σ H x y v u Q I rx ry hE0
 refine hE0.elim λdx dy μ G rdx rdy hr p=>?_
 unfold inD at p
 rcases e:inB dx dy G with _|b
 ·rw[e]at p;exact p.elim
 ·rw[e]at p;exact(in_at hu I hr rdx rdy rx ry e).1 (d9.ok p hr _ ofB)⟩
theorem KW(hu:X.A.units+64<xn):OpD X Z (zT .NotIn) nC:=⟨by
 intro pins s σ H x y v u Q I rx ry hE0
 refine hE0.elim λdx dy μ G rdx rdy hr p=>?_
 unfold nC at p
 rcases e:inB dx dy G with _|b
 ·rw[e]at p;exact p.elim
 ·rw[e]at p;exact(in_at hu I hr rdx rdy rx ry e).2 (d9.ok p hr _ ofB)⟩
inductive Ty where
 |int|bool|str|tuple|list|dict
 deriving DecidableEq
def Ty.name:Ty->String
 | .int=> "int"| .bool=> "bool"| .str=> "str"| .tuple=> "tuple"| .list=> "list"| .dict=> "dict"
def Ty.of(n:String):Option Ty:=if n= "int" then some .int else if n= "bool" then some .bool else if n= "str" then some .str else if n= "tuple" then some .tuple else if n= "list" then some .list else if n= "dict" then some .dict else none
theorem Ty.of_name{n:String}{T:Ty}(h:Ty.of n=some T):n=T.name:=by
 unfold Ty.of at h
 split at h
 ·rename_i e;cases h;exact e
 split at h
 ·rename_i e;cases h;exact e
 split at h
 ·rename_i e;cases h;exact e
 split at h
 ·rename_i e;cases h;exact e
 split at h
 ·rename_i e;cases h;exact e
 split at h
 ·rename_i e;cases h;exact e
 ·exact J7 h
inductive Kd where
 |non|bool|int|str|tuple|list|dict
def Kd.is:Kd->Ty->Bool
 | .bool,.int=>true
 | .bool,.bool=>true
 | .int,.int=>true
 | .str,.str=>true
 | .tuple,.tuple=>true
 | .list,.list=>true
 | .dict,.dict=>true
 |_,_=>false
def Kd.name:Kd->String
 | .non=> "NoneType"| .bool=> "bool"| .int=> "int"| .str=> "str"| .tuple=> "tuple"| .list=> "list"| .dict=> "dict"
def UB(G:DH):D->Option Kd
 | .non=>some .non
 | .bl _=>some .bool
 | .int _=>some .int
 | .str _=>some .str
 | .tup _=>some .tuple
 | .ref i=>match G[i]? with
   |some (.lst _)=>some .list
   |some (.rol _)=>some .list
   |some (.dct _)=>some .dict
   |some (.rod _)=>some .dict
   |none=>none
 |_=>none
def kC:List D->Option (List Ty)
 |[]=>some []
 | .ty n::r=>match Ty.of n,kC r with
   |some T,some Ts=>some (T::Ts)
   |_,_=>none
 |_=>none
def O8:List D->M D:=λds G=>match ds with
 |[d,.ty n]=>match UB G d,Ty.of n with
   |some k,some T=>some (.ok (.bl (k.is T)),G)
   |_,_=>none
 |[d,.tup l]=>match UB G d,kC l with
   |some k,some Ts=>some (.ok (.bl (Ts.any k.is)),G)
   |_,_=>none
 |_=>none
theorem Lv(K:zh)(k:Kd)(T:Ty):PySem.W.kitOne K (.type k.name) (.type T.name)=some (k.is T):=by
 cases k<;>cases T<;>rfl
theorem kM{A:jA}{E:VSP}{pins:PNS}{σ:St}{s:zv}{d:D}{x:V}{v:zj}{k:Kd}(I:Inv X pins σ H s)(hr:J0 (wc X) μ G H)(r:f9 (wc X) μ H d x)(rv:K4 x v)(e:UB G d=some k):
 ∃HH:Heap->Prop,PySem.W.KitX X.K v (.type k.name) HH/\HH s.heap/\v≠ .builtin "__main__.__loader__#opaque":=by
 rcases d with _|b|b|b|l|i|_|_<;>try (cases e;done)
 ·cases e;unfold f9 at r;subst r;cases rv;exact⟨_,PySem.W.kitx_none,True.intro,λz=>nomatch z⟩
 ·cases e;unfold f9 at r;subst r;cases rv;exact⟨_,PySem.W.kitx_bool,True.intro,λz=>nomatch z⟩
 ·cases e;unfold f9 at r;subst r;obtain⟨t,rfl⟩:=rv;exact⟨_,PySem.W.kitx_int,True.intro,λz=>nomatch z⟩
 ·cases e;unfold f9 at r;subst r;obtain⟨t,rfl⟩:=rv;exact⟨_,PySem.W.kitx_str,True.intro,λz=>nomatch z⟩
 ·
   cases e
   unfold f9 at r
   obtain⟨a,vs,rfl,q,_⟩:=r
   cases rv
   obtain⟨its,_,⟨o,h1,h2,_⟩,_⟩:=I.tuple q
   exact⟨_,PySem.W.kitx_tuple,⟨o,h1,h2⟩,λz=>nomatch z⟩
 ·
   unfold f9 at r
   obtain⟨a,m,rfl⟩:=r
   cases rv
   unfold UB at e
   rcases g:G[i]? with _|o
   ·simp only[g]at e;exact J7 e
   ·
     have ro:=hr.obj i o a g m
     simp only[g]at e
     rcases o with l|l|l|l
     ·
       cases e
       obtain⟨vs,q,_⟩:=ro
       obtain⟨its,_,⟨o,n,h1,h2,_⟩,_⟩:=I.list (SqL.of q)
       exact⟨_,JC,⟨o,h1,h2⟩,λz=>nomatch z⟩
     ·
       cases e
       obtain⟨vs,q,_⟩:=ro
       obtain⟨its,_,⟨o,n,h1,h2,_⟩,_⟩:=I.list q.sq
       exact⟨_,JC,⟨o,h1,h2⟩,λz=>nomatch z⟩
     ·
       cases e
       obtain⟨kvs,q,_⟩:=ro
       obtain⟨_,_,vs,_,o,es,ep,h1,h2,_⟩:=(show R0 X.prog X.w H s.heap a (.dK kvs)from I.hok a _ q)
       exact⟨_,JD,⟨o,h1,h2.1⟩,λz=>nomatch z⟩
     ·
       cases e
       obtain⟨kvs,ob,q,_⟩:=ro
       obtain⟨_,_,_,vs,_,o,es,ep,h1,h2,_⟩:=(show R0 X.prog X.w H s.heap a (.frz ob (.dK kvs))from I.hok a _ q)
       exact⟨_,JD,⟨o,h1,h2.1⟩,λz=>nomatch z⟩
theorem gL:∀ {l:List D} {vs:List V} {us:List zj} {Ts:List Ty},kC l=some Ts->u9 c μ H l vs->J1 vs us->us=Ts.map λT=>.type T.name
 |[],_,_,_,e,r,q=>by cases e;cases r;cases q;rfl
 |d::ds,_,_,Ts,e,r,q=>by
   obtain⟨v,t,rfl,r0,rt⟩:=r
   cases q with
   |cons q0 qt=>
     rcases d with _|_|_|_|_|_|_|n<;>try (cases e;done)
     ·
       replace e:(match Ty.of n,kC ds with|some T,some Ts=>some (T::Ts)|_,_=>none)=some Ts:=e
       rcases h1:Ty.of n with _|T
       ·rw[h1]at e;exact J7 e
       ·
         rcases h2:kC ds with _|Ts'
         ·rw[h1,h2]at e;exact J7 e
         ·
           rw[h1,h2]at e
           cases e
           unfold f9 at r0
           subst r0
           rw[gL h2 rt qt,zL,show _=Value.type n from q0,Ty.of_name h1]
theorem FP(K:zh)(k:Kd):∀Ts:List Ty,PySem.W.kitAny K (.type k.name) (Ts.map λT=>.type T.name)=some (Ts.any k.is)
 |[]=>rfl
 |T::Ts=>by
   have ih:=FP K k Ts
   cases k<;>cases T<;>first
    |rfl
    |exact ih
theorem sU:C1 X Z (.builtin "isinstance") O8:=⟨by
 intro pins s σ H xs us Q I r hE0
 obtain⟨ds,μ,G,rl,hr,p⟩:=hE0
 rcases ds with _|⟨d,_|⟨_|_|_|_|l|_|_|n,_|⟨_,_⟩⟩⟩<;>try exact p.elim
 all_goals (delta O8 at p;dsimp only at p)
 · obtain⟨v,t,rfl,r0,v1,t1,rfl,r1,e⟩:=rl
   cases e
   obtain⟨u,u',rfl,ru,ru'⟩:=WJ r
   unfold f9 at r1
   obtain⟨a,vs,rfl,q,rll⟩:=r1
   cases ru'
   rcases hk:UB G d with _|k
   ·rw[hk]at p;exact p.elim
   ·
     rcases hT:kC l with _|Ts
     ·rw[hk,hT]at p;exact p.elim
     ·
       rw[hk,hT]at p
       obtain⟨HH,kx,hh,hne⟩:=kM (A:=X.A) (E:=X.xe) I hr r0 ru hk
       obtain⟨its,rr,⟨⟨cls,dd,data,sl⟩,h1,h2,n,h3⟩,_⟩:=I.tuple q
       simp only at h2 h3
       subst h2 h3
       exact PySem.W.kia_tup kx I.kIn hh h1 (by rw[gL hT rll rr];exact FP X.K k Ts) hne λtk=>⟨.bl _,H,I.tok tk,rfl,d9.ok p hr _ ofB⟩
 · obtain⟨v,t,rfl,r0,v1,t1,rfl,r1,e⟩:=rl
   cases e
   obtain⟨u,u',rfl,ru,ru'⟩:=WJ r
   unfold f9 at r1
   subst r1
   cases ru'
   rcases hk:UB G d with _|k
   ·rw[hk]at p;exact p.elim
   ·
     rcases hT:Ty.of n with _|T
     ·rw[hk,hT]at p;exact p.elim
     ·
       rw[hk,hT]at p
       rw[Ty.of_name hT]
       obtain⟨HH,kx,hh,hne⟩:=kM (A:=X.A) (E:=X.xe) I hr r0 ru hk
       exact PySem.W.kia_one kx I.kIn hh (Lv X.K k T) hne λtk=>⟨.bl _,H,I.tok tk,rfl,d9.ok p hr _ ofB⟩⟩
end
theorem uO{c:Wc}{μ:List Addr}{H:Hp}{l:List D}{vs:List V}{i:Int}{d:D}(r:u9 c μ H l vs)(e:atI l i=some d):∃v,atI vs i=some v/\f9 c μ H d v:=by
 unfold atI at e ⊢
 rw[<-r.length]
 cases h:ixN l.length i with
 |none=>rw[h]at e;cases e
 |some j=>
   rw[h]at e
   obtain⟨v,h1,h2⟩:=r.get e
   exact⟨v,h1,h2⟩
def ixD:D->D->M D:=λx y=>match x,y with
 | .tup l,.int i=>K0 (atI l i)
 | .str z,.int i=>if z.length<=zg then do
    let c <-K0 (atI z.cps.toList i)
    pure (.str ⟨#[c]⟩)
   else M.stuck
 | .ref r,.int i=>do
   let l <-O4 r >>= listOf
   K0 (atI l i)
 |_,_=>M.stuck
section
variable{X:Cx}{Z:XC}{a b e:Expr}{fa fb:Fe}{pos:Pos}
def IxD(X:Cx)(Z:XC)(o:D->D->M D):Prop:=IxR X (t9 (wc X) Z o)
theorem PK{o:D->D->M D}(ho:IxD X Z o)(ha:DE X Z a fa)(hb:DE X Z b fb)(hs:pF b):DE X Z (.Subscript a b pos) (c7 o fa fb):=DE.of (oS ho ha.h hb.h hs) IF
theorem iK{c:Wc}{μ:List Addr}{H:Hp}{G:DH}{r:Option D}{K:D->List Addr->DH->Hp->Prop}(h:J0 c μ G H)(p:d9 c Z μ H (K0 r G) K):∃d,r=some d/\K d μ G H:=by
 cases r with
 |none=>exact p.elim
 |some d=>exact⟨d,rfl,d9.ok p h⟩
theorem vP:IxD X Z ixD:=IxR.mono (Km.or (ix_tup.or Tv)) λx y H Q hE0=>hE0.elim λdx dy μ G rx ry hr p=>by
 rcases dx with _|_|_|_|_|_|_|_<;>rcases dy with _|_|_|_|_|_|_|_<;>first
  |exact p.elim
  |skip
 · rename_i z i
   refine .inr (.inr ?_)
   unfold ixD at p
   dsimp only at p
   split at p
   · rename_i hz
     obtain⟨c,ec,p2⟩:=V2 p
     exact⟨z,i,c,A1 rx,L0 ry,hz,ec,d9.ok p2 hr _ ofS⟩
   ·exact p.elim
 · rename_i l i
   refine .inr (.inl ?_)
   unfold f9 at rx
   obtain⟨a,vs,rfl,q,rl⟩:=rx
   obtain⟨d,ed,k⟩:=iK hr p
   obtain⟨v,ev,rv⟩:=uO rl ed
   exact⟨a,vs,i,v,rfl,L0 ry,q,ev,k v rv⟩
 · rename_i r i
   refine .inl ?_
   obtain⟨l,a,vs,rfl,rl,p2,hq⟩:=IG hr rx p
   obtain⟨d,ed,k⟩:=iK hr p2
   obtain⟨v,ev,rv⟩:=uO rl ed
   rcases hq with⟨z,_⟩|⟨_,_,_,⟨_,q⟩|⟨_,q⟩⟩
   ·cases z
   ·exact⟨a,vs,i,v,rfl,L0 ry,SqL.of q,ev,k v rv⟩
   ·exact⟨a,vs,i,v,rfl,L0 ry,q.sq,ev,k v rv⟩
theorem qW(ha:DE X Z a fa)(hb:DE X Z b fb)(hs:pF b):DE X Z (.Subscript a b pos) (c7 ixD fa fb):=PK vP ha hb hs
def cutD(xs:List D)(lo hi:Option Int):List D:=(xs.drop (HT.sIx xs.length 0 lo)).take (HT.sIx xs.length xs.length hi-HT.sIx xs.length 0 lo)
abbrev Fo:=DSt->M (Option Int)
def R9:Fo:=λ_=>pure none
def S8(f:Fe):Fo:=λσ=>do
 match <-f σ with
 | .int i=>pure (some i)
 |_=>M.stuck
def sF(c:Wc)(Z:XC)(f:Fo):TO:=λσ H Q=>∃Z6 μ G,M6 c μ H Z6 σ/\J0 c μ G H/\d9 c Z μ H (f Z6 G) λo _ _ H'=>Q o H'
theorem sF.elim{c:Wc}{Z:XC}{P:Prop}{f:Fo}{σ:St}{H:Hp}{Q:Option Int->Hp->Prop}(h:sF c Z f σ H Q)(k:∀Z6 μ G,M6 c μ H Z6 σ->J0 c μ G H->d9 c Z μ H (f Z6 G) (λo _ _ H'=>Q o H')->P):P:=by
 obtain⟨e0,e1,e2,e3,e4,e5⟩:=h
 exact k e0 e1 e2 e3 e4 e5
structure DOp(X:Cx)(Z:XC)(e:Option Expr)(f:Fo):Prop where
 h:PO X e (sF (wc X) Z f)
theorem PO.mono{e:Option Expr}{t t':TO}(h:PO X e t)(k:∀ σ H Q,t' σ H Q->t σ H Q):PO X e t':=λpins s σ H Q I q=>h pins s σ H Q I (k σ H Q q)
theorem DOp.of{e:Option Expr}{f:Fo}{t:TO}(h:PO X e t)(k:∀ σ H Q,sF (wc X) Z f σ H Q->t σ H Q):DOp X Z e f:=⟨PO.mono h k⟩
theorem Vj:DOp X Z none R9:=DOp.of BX λσ H Q hE0=>hE0.elim λZ6 μ G s h p=>d9.ok p h
theorem OT(h:DE X Z e fa):DOp X Z (some e) (S8 fa):=DOp.of (Kg h.h) λσ H Q hE0=>hE0.elim λZ6 μ G s h p=>⟨Z6,μ,G,s,h,(d9.bind p).mono λd X1 G1 H1 x1 h1 p1 v rv=>by
 cases d with
 |int i=>exact⟨i,L0 rv,d9.ok p1 h1⟩
 |_=>exact p1.elim⟩
def slD:D->Option Int->Option Int->M D:=λx lo hi=>match x with
 | .tup l=>pure (.tup (cutD l lo hi))
 | .ref r=>do
   let l <-O4 r >>= listOf
   N7 (.lst (cutD l lo hi))
 |_=>M.stuck
def SlD(X:Cx)(Z:XC)(o:D->Option Int->Option Int->M D):Prop:=
 SlR X λx lo hi H Q=>∃dx μ G,f9 (wc X) μ H dx x/\J0 (wc X) μ G H/\d9 (wc X) Z μ H (o dx lo hi G) λd X9 _ H'=>∀v,f9 (wc X) X9 H' d v->Q v H'
theorem SlR.mono{r r':V->Option Int->Option Int->Hp->VK->Prop}(h:SlR X r)(k:∀x lo hi H Q,r' x lo hi H Q->r x lo hi H Q):SlR X r':=λpins s σ H x v vl vu lo hi sl Q I rx hs pl pu q=>h pins s σ H x v vl vu lo hi sl Q I rx hs pl pu (k x lo hi H Q q)
theorem DZ{prog:zW}{w:jk}{A:jA}{E:VSP}{s:zv}{t sl:Addr}{items:Array zj}{vl vu:zj}{lo hi:Option Int}{Q:VSP}(ht:Yk s.heap t items)(hs:s.heap.IsSliceOf sl vl vu .none)(pl:IsPart vl lo)(pu:IsPart vu hi)
 (hw:HT.sIx items.size 0 lo=0/\HT.sIx items.size items.size hi=items.size) (h:Q (.ref t) s):zC (zH prog w) A (Xm (.ref t) (.ref sl)) Q E s:=by
 obtain⟨os,hos,hcs,hds⟩:=id hs
 have hTs:s.TypeIs (.ref sl) "slice":=⟨os,hos,hcs⟩
 unfold Xm
 try with_reducible refine ju ?_
 first|refine za (zq ?_)|skip
 refine za (wpAny_sequenceKey ht.typeIs (by decide) ?_)
 refine za (yk ht.typeIs jF
  (ye jF ht.typeIs entry_tuple_getitem ?_ (args_tuple_getitem _ _)))
 show zC _ _ (Yq (.ref t) >>= _) _ _ s
 refine za (tupleItemsOf_ ht ?_)
 refine za (Zj hTs ?_)
 rw[if_pos (by decide)]
 refine za (HT.sliceApplied_gen hs pl pu ?_)
 have hyes:(((HT.sIx items.size 0 lo:Nat):Int)==0&&(1:Int)==1&&(HT.sIx items.size items.size hi-HT.sIx items.size 0 lo)==items.size)=true:=by
  rw[hw.1,hw.2];simp
 show zC _ _ (if (((HT.sIx items.size 0 lo:Nat):Int)==0&&(1:Int)==1&&(HT.sIx items.size items.size hi-HT.sIx items.size 0 lo)==items.size)=true then _ else _) _ _ s
 rw[if_pos hyes]
 unfold Builtin.Tuple.tupleIsExact
 refine za (za (Zj ht.typeIs (zq ?_)))
 rw[if_pos (by decide)]
 exact za (Zn (zq ⟨_,rfl,zq h⟩))
def TZ(K:zh):V->Option Int->Option Int->Hp->VK->Prop:=λx lo hi H Q=>∃a xs,x= .ref a/\SqT K H a xs/\(HT.sIx xs.length 0 lo=0/\HT.sIx xs.length xs.length hi=xs.length)/\Q (.ref a) H
theorem vv:SlR X (TZ X.K):=by
 intro pins s σ H x v vl vu lo hi sl Q I rx hs pl pu h
 obtain⟨a,xs,rfl,hx,hw,q⟩:=h
 cases rx
 obtain⟨its,r,ht,hz⟩:=I.tuple hx
 have hlen:its.toArray.size=xs.length:=by rw[zi];exact r.length.symm
 exact⟨"tuple",_,jF.lookup,ht.typeIs,DZ ht hs pl pu (by rw[hlen];exact hw) ⟨.ref a,H,I,rfl,q⟩⟩
theorem cK{c:Wc}{μ:List Addr}{H:Hp}{l:List D}{vs:List V}(r:u9 c μ H l vs)(lo hi:Option Int):u9 c μ H (cutD l lo hi) (y6 vs lo hi):=by
 unfold cutD y6
 rw[r.length]
 exact(r.drop _).take _
theorem Kx:SlD X Z slD:=SlR.mono (sl_tup.or (vv.or NU)) λx lo hi H Q ⟨dx,μ,G,rx,hr,p⟩=>by
 rcases dx with _|_|_|_|l|r|_|_<;>try (exact p.elim;done)
 ·
   unfold f9 at rx
   obtain⟨a,vs,rfl,q,rl⟩:=rx
   by_cases hw:HT.sIx vs.length 0 lo=0/\HT.sIx vs.length vs.length hi=vs.length
   · refine .inr (.inl ⟨a,vs,rfl,q,hw,eF hr q ?_ p⟩)
     have e:y6 vs lo hi=vs:=by unfold y6;rw[hw.1,hw.2];simp
     have:=cK rl lo hi
     rw[e]at this
     exact this
   ·exact .inl ⟨a,vs,rfl,q,hw,λp' hp=>dE hr (cK rl lo hi) p p' hp⟩
 ·
   obtain⟨l,a,vs,rfl,rl,p2,hq⟩:=IG hr rx p
   have hs:SqL (wc X).K H a vs:=by
    rcases hq with⟨z,_⟩|⟨_,_,_,⟨_,q⟩|⟨_,q⟩⟩
    ·cases z
    ·exact SqL.of q
    ·exact q.sq
   exact .inr (.inr ⟨a,vs,rfl,hs,λp' hp=>V3 hr (cK rl lo hi) p2 p' hp⟩)
variable{lo hi:Option Expr}{fl fh:Fo}{p2:Pos}
end
def d4(r:Nat)(o:DO):M Unit:=λG=>some (.ok (),G.set r o)
def F5(l:List (Key×D))(k:Key)(d:D):List (Key×D):=if l.any (λkv=>decide (kv.1=k))then l.map (λkv=>if kv.1=k then (kv.1,d)else kv)else l++[(k,d)]
def HA:D->D->D->M Unit:=λo i d=>match o with
 | .ref r=>do
   match <-O4 r with
   | .lst l=>match i with
     | .int k=>match ixN l.length k with
       |some j=>d4 r (.lst (l.set j d))
       |none=>M.stuck
     |_=>M.stuck
   | .dct l=>match f8 i with
     |some k=>if l.length<zg then d4 r (.dct (F5 l k d))else M.stuck
     |none=>M.stuck
   | .rol _=>M.stuck
   | .rod _=>M.stuck
 |_=>M.stuck
def F1(fo fi:Fe):Fg:=λd σ=>do
 let o <-fo σ
 let i <-fi σ
 let _ <-HA o i d
 pure σ
section
variable{X:Cx}{Z:XC}{μ:List Addr}{H:Hp}{G:DH}
theorem gQ(rv:f9 c μ H d v):∀ {l} {kvs},z0 c μ H l kvs->z0 c μ H (F5 l k d) (C2 kvs k v):=by
 have any_eq:∀ {l:List (Key×D)} {kvs:List (Key×V)},z0 c μ H l kvs->(l.any λkv=>decide (kv.1=k))= (kvs.any λkv=>decide (kv.1=k)):=by
  intro l
  induction l with
  |nil=>intro kvs r;cases r;rfl
  |cons p t ih=>
    intro kvs r
    obtain⟨v',kt,rfl,_,rt⟩:=r
    rw[yb,yb,ih rt]
 have map_eq:∀ {l:List (Key×D)} {kvs:List (Key×V)},z0 c μ H l kvs->z0 c μ H (l.map λkv=>if kv.1=k then (kv.1,d)else kv) (kvs.map λkv=>if kv.1=k then (kv.1,v)else kv):=by
  intro l
  induction l with
  |nil=>intro kvs r;cases r;rfl
  |cons p t ih=>
    intro kvs r
    obtain⟨k',d'⟩:=p
    obtain⟨v',kt,rfl,q,rt⟩:=r
    rw[zL,zL]
    by_cases e:k'=k
    · simp only[e,if_true]
      exact⟨v,_,rfl,rv,ih rt⟩
    · simp only[e,if_false]
      exact⟨v',_,rfl,q,ih rt⟩
 have app_eq:∀ {l:List (Key×D)} {kvs:List (Key×V)},z0 c μ H l kvs->z0 c μ H (l++[(k,d)]) (kvs++[(k,v)]):=by
  intro l
  induction l with
  |nil=>intro kvs r;cases r;exact⟨v, [],rfl,rv,rfl⟩
  |cons p t ih=>
    intro kvs r
    obtain⟨v',kt,rfl,q,rt⟩:=r
    exact⟨v',_,rfl,q,ih rt⟩
 intro l kvs r
 unfold F5 C2
 rw[any_eq r]
 split
 ·exact map_eq r
 ·exact app_eq r
theorem z0.length:∀ {l} {kvs},z0 c μ H l kvs->l.length=kvs.length
 |[],_,r=>by cases r;rfl
 |_::_,_,r=>by obtain⟨_,_,rfl,_,t⟩:=r;simp[z0.length t]
theorem QN{Q:List Addr->DH->Hp->Prop}(h:J0 c μ G H)(g:G[r]? =some o)(n:¬F4 (some o))(m:μ[r]? =some a)(n':¬F4 (some o'))(ho:∀x:Ext μ H μ (upd H a u),C6 c μ (upd H a u) a o')
 (p:d9 c Z μ H (d4 r o' G) λ_ X9 G' H'=>Q X9 G' H'):Q μ (G.set r o') (upd H a u):=by
 obtain⟨u',e,n1,n2⟩:=(h.obj r o a g m).some_of n
 have x:Ext μ H μ (upd H a u):=Ext.mut (js m) e n1 n2 u
 exact p μ _ x (h.set g n m x n' (ho x))
def kf(c:Wc)(Z:XC)(f:D->D->D->M Unit):TSet:=λo i v H Q=>∃d1 d2 d3 μ G,f9 c μ H d1 o/\f9 c μ H d2 i/\f9 c μ H d3 v/\J0 c μ G H/\d9 c Z μ H (f d1 d2 d3 G) λ_ _ _ H'=>Q H'
theorem BY(hu:X.A.units+64<xn):iJ X (kf (wc X) Z HA):=by
 intro pins s σ H o i v ov iv u Q I ro ri rv hE0
 obtain⟨d1,d2,d3,μ,G,r1,r2,r3,hr,p⟩:=hE0
 rcases d1 with _|_|_|_|_|r|_|_<;>try (exact p.elim;done)
 ·
   unfold f9 at r1
   obtain⟨a,m,rfl⟩:=r1
   obtain⟨ob,g,p1⟩:=M7 p
   have rob:=hr.obj r ob a g m
   rcases ob with l|l|l|l
   ·
     obtain⟨vs,ea,rl⟩:=rob
     rcases d2 with _|_|k|_|_|_|_|_<;>try (exact p1.elim;done)
     ·
       dsimp only at p1
       rcases hk:ixN l.length k with _|j
       ·simp only[hk]at p1;exact p1.elim
       ·
         simp only[hk]at p1
         exact AU pins s σ H (.ref a) i v ov iv u Q I ro ri rv ⟨a,vs,k,j,rfl,L0 r2,ea,by rw[<-rl.length];exact hk,QN (o':=.lst (l.set j d3)) hr g (λz=>z) m (λz=>z) (λx=>⟨_,N8,(rl.mono x).set (r3.mono x) j⟩) p1⟩
   ·exact p1.elim
   ·
     obtain⟨kvs,ea,rk⟩:=rob
     dsimp only at p1
     rcases hk:f8 d2 with _|k
     ·simp only[hk]at p1;exact p1.elim
     ·
       simp only[hk]at p1
       split at p1
       · rename_i hz
         have ei:=wI hk r2
         subst ei
         cases ro
         refine MS (by lia) I (aG.k ea (by rw[<-rk.length];exact hz)) ri rv λs' I'=>⟨_,I',?_⟩
         exact QN (o':=.dct (F5 l k d3)) hr g (λz=>z) m (λz=>z) (λx=>⟨_,N8,gQ (r3.mono x) (rk.mono x)⟩) p1
       ·exact p1.elim
   ·exact p1.elim
variable{a b e o i:Expr}{fa fb fo fi:Fe}
theorem Lf(hu:X.A.units+64<xn)(ho:DE X Z o fo)(hi:DE X Z i fi)
 (ha:∀v,ZW (.Subscript o i pos) X.env v= (do
   let ov <-YC [v] (eval o X.env)
   let iv <-YC [v,ov] (eval i X.env)
   Jh pos
   YC [v,ov,iv] (setItem ov iv v)
   release [v,ov,iv] [])):DG X Z (.Subscript o i pos) (F1 fo fi):=
 DG.of (Fh ho.h hi.h (BY hu) ha) λv σ H Q hE0=>hE0.elim λd Z6 μ G r s h p=>⟨Z6,μ,G,s,h,(d9.bind p).mono λd1 X1 G1 H1 x1 h1 p1 v1 r1=>
  ⟨Z6,X1,G1,s.mono x1,h1,(d9.bind p1).mono λd2 WZ G2 H2 x2 h2 p2 v2 r2=>⟨d1,d2,d,WZ,G2,r1.mono x2,r2,r.mono (x1.trans x2),h2,(d9.bind p2).mono λ_ WP G3 H3 x3 h3 p3=>d9.ok p3 h3 σ (s.mono (x1.trans (x2.trans x3)))⟩⟩⟩
def PL:Fe:=λ_=>N7 (.dct [])
theorem vV:DE X Z (.Dict [] [] pos) PL:=DE.of qj λσ H Q hE0=>hE0.elim λZ6 μ G s h p q hq=>by
 have k:Ext μ H (μ++[q]) (upd H q (.dK [])):=Ext.add hq _
 refine p (μ++[q]) _ k (h.new hq ⟨[],N8,rfl⟩) _ ?_
 unfold f9
 exact⟨q,by rw[<-h.len];simp,rfl⟩
def Z3:D->M Unit:=λx=>match x with
 | .ref r=>do
   match <-O4 r with
   | .lst _=>pure ()
   |_=>M.stuck
 |_=>M.stuck
def mtE(t:D->M Unit)(m:D->List D->M D)(fo:Fe)(fs:DSt->M (List D)):Fe:=λσ=>do
 let x <-fo σ
 let _ <-t x
 let xs <-fs σ
 m x xs
def lstM(r:Nat):M (List D):=do
 match <-O4 r with
 | .lst l=>pure l
 |_=>M.stuck
def l8:D->List D->M D:=λx xs=>match x,xs with
 | .ref r, [y]=>do
   let l <-lstM r
   if l.length<zg then do
    let _ <-d4 r (.lst (l++[y]))
    pure .non
   else M.stuck
 |_,_=>M.stuck
def EG:D->List D->M D:=λx xs=>match x,xs with
 | .ref r, [.ref q]=>do
   let l <-lstM r
   let k <-lstM q
   if l.length+k.length<=zg then do
    let _ <-d4 r (.lst (l++k))
    pure .non
   else M.stuck
 |_,_=>M.stuck
def dD:D->List D->M D:=λx xs=>match x,xs with
 | .ref r, []=>do
   let l <-lstM r
   match l.getLast? with
   |some y=>do
     let _ <-d4 r (.lst l.dropLast)
     pure y
   |none=>M.stuck
 |_,_=>M.stuck
theorem bG{a:Addr}{f:List D->M α}{K:α->List Addr->DH->Hp->Prop}(h:J0 c μ G H)(m:μ[r]? =some a)(p:d9 c Z μ H ((lstM r >>= f) G) K):
 ∃l vs,G[r]? =some (.lst l)/\H a=some (.lst vs)/\u9 c μ H l vs/\d9 c Z μ H (f l G) K:=by
 have p':d9 c Z μ H ((O4 r >>= λo=>(match o with| .lst l=>pure l|_=>M.stuck:M (List D)) >>= f) G) K:=by rw[<-M.bind_assoc];exact p
 obtain⟨o,g,p2⟩:=M7 p'
 have ro:=h.obj r o a g m
 rcases o with l|_|_|_<;>try (exact p2.elim;done)
 ·obtain⟨vs,e,rl⟩:=ro;exact⟨l,vs,g,e,rl,p2⟩
def MtD(X:Cx)(Z:XC)(id:String)(m:D->List D->M D):Prop:=
 MtR X id λx xs H Q=>∃d ds μ G,f9 (wc X) μ H d x/\u9 (wc X) μ H ds xs/\J0 (wc X) μ G H/\d9 (wc X) Z μ H (m d ds G) λd X9 _ H'=>∀v,f9 (wc X) X9 H' d v->Q v H'
theorem oJ{r:Nat}{a:Addr}{f:M α}{K:α->List Addr->DH->Hp->Prop}(h:J0 c μ G H)(g:G[r]? =some (.lst l))(m:μ[r]? =some a)(rl:∀x:Ext μ H μ (upd H a (.lst vs')),u9 c μ (upd H a (.lst vs')) l' vs')
 (p:d9 c Z μ H ((d4 r (.lst l') >>= λ_=>f) G) K):Ext μ H μ (upd H a (.lst vs'))/\J0 c μ (G.set r (.lst l')) (upd H a (.lst vs'))/\d9 c Z μ (upd H a (.lst vs')) (f (G.set r (.lst l'))) K:=by
 obtain⟨u',e,n1,n2⟩:=(h.obj r _ a g m).some_of (λz=>z)
 have x:Ext μ H μ (upd H a (.lst vs')):=Ext.mut (js m) e n1 n2 _
 have h':J0 c μ (G.set r (.lst l')) (upd H a (.lst vs')):=h.set g (λz=>z) m x (λz=>z) ⟨vs',N8,rl x⟩
 exact⟨x,h',d9.from p x⟩
theorem Mz:MtD X Z "list.append" l8:=by
 intro pins s σ H x xs v us Q I rx rs hE0
 obtain⟨d,ds,μ,G,rd,rds,hr,p⟩:=hE0
 rcases d with _|_|_|_|_|r|_|_<;>try (exact p.elim;done)
 ·
   unfold f9 at rd
   obtain⟨a,m,rfl⟩:=rd
   rcases ds with _|⟨y,t⟩
   ·exact p.elim
   ·
     rcases t with _|⟨_,_⟩
     ·
       obtain⟨yv,tv,rfl,ry,e⟩:=rds
       cases e
       obtain⟨l,vs,g,ea,rl,p1⟩:=bG hr m p
       split at p1
       · rename_i hz
         obtain⟨x1,h1,p2⟩:=oJ hr g m (λx=>(rl.mono x).append (u9.cons (ry.mono x) u9.nil)) p1
         exact OP pins s σ H (.ref a) [yv] v us Q I rx rs ⟨a,vs,yv,rfl,rfl,ea,by rw[<-rl.length];exact hz,d9.ok p2 h1 _ ofN⟩
       ·exact p1.elim
     ·exact p.elim
theorem qq:MtD X Z "list.extend" EG:=by
 intro pins s σ H x xs v us Q I rx rs hE0
 obtain⟨d,ds,μ,G,rd,rds,hr,p⟩:=hE0
 rcases d with _|_|_|_|_|r|_|_<;>try (exact p.elim;done)
 ·
   unfold f9 at rd
   obtain⟨a,m,rfl⟩:=rd
   rcases ds with _|⟨y,t⟩
   ·exact p.elim
   ·
     rcases t with _|⟨_,_⟩
     ·
       obtain⟨yv,tv,rfl,ry,e⟩:=rds
       cases e
       rcases y with _|_|_|_|_|q|_|_<;>try (exact p.elim;done)
       ·
         unfold f9 at ry
         obtain⟨b,m2,rfl⟩:=ry
         obtain⟨l,vs,g,ea,rl,p1⟩:=bG hr m p
         obtain⟨k,ws,g2,eb,rk,p2⟩:=bG hr m2 p1
         split at p2
         · rename_i hz
           obtain⟨x1,h1,p3⟩:=oJ hr g m (λx=>(rl.mono x).append (rk.mono x)) p2
           exact DU pins s σ H (.ref a) [.ref b] v us Q I rx rs ⟨a,b,vs,ws,rfl,rfl,ea,eb,by rw[<-rl.length,<-rk.length];exact hz,d9.ok p3 h1 _ ofN⟩
         ·exact p2.elim
     ·cases y<;>exact p.elim
theorem gT:MtD X Z "list.pop" dD:=by
 intro pins s σ H x xs v us Q I rx rs hE0
 obtain⟨d,ds,μ,G,rd,rds,hr,p⟩:=hE0
 rcases d with _|_|_|_|_|r|_|_<;>try (exact p.elim;done)
 ·
   unfold f9 at rd
   obtain⟨a,m,rfl⟩:=rd
   rcases ds with _|⟨_,_⟩
   ·
     cases rds
     obtain⟨l,vs,g,ea,rl,p1⟩:=bG hr m p
     rcases hy:l.getLast? with _|y
     ·simp only[hy]at p1;exact p1.elim
     ·
       simp only[hy]at p1
       obtain⟨x1,h1,p2⟩:=oJ hr g m (λx=>(rl.mono x).dropLast) p1
       rw[List.getLast?_eq_getElem?]at hy
       obtain⟨yv,e1,ry⟩:=rl.get hy
       rw[rl.length]at e1
       exact lR pins s σ H (.ref a) [] v us Q I rx rs ⟨a,vs,yv,rfl,rfl,ea,e1,d9.ok p2 h1 _ (ry.mono x1)⟩
   ·exact p.elim
variable{es:List Expr}{fs:DSt->M (List D)}{name:Str}{apos cpos:Pos}{id:String}{mm:D->List D->M D}
theorem cR{f:Unit->M α}{K:α->List Addr->DH->Hp->Prop}(h:J0 c μ G H)(r:f9 c μ H d v)(p:d9 c Z μ H ((Z3 d >>= f) G) K):tyV c.K "list" v H/\d9 c Z μ H (f () G) K:=by
 rcases d with _|_|_|_|_|i|_|_<;>try (exact p.elim;done)
 ·
   unfold f9 at r
   obtain⟨a,m,rfl⟩:=r
   have p':d9 c Z μ H ((O4 i >>= λo=>(match o with| .lst _=>pure ()|_=>M.stuck:M Unit) >>= f) G) K:=by rw[<-M.bind_assoc];exact p
   obtain⟨o,g,p2⟩:=M7 p'
   have ro:=h.obj i o a g m
   rcases o with l|_|_|_<;>try (exact p2.elim;done)
   ·obtain⟨vs,e,rl⟩:=ro;exact⟨.inl ⟨rfl,vs,SqL.of e⟩,p2⟩
theorem EN(slot:Slot "list" name id)(hty:typeOf (.builtin id)=pure (.type "method_descriptor"))(hm:MtD X Z id mm)(ho:DE X Z o fo)(ha:DA X Z (e::es) fs)
 (hbase:yY o name X.env (eval o X.env)=eval o X.env)
 (hfew:((yS cpos (zP (e::es) X.env)).all (λx=> !x.1)&&(Jo cpos (Yy [] X.env)).all (λx=>x.1.isSome)
   && decide ((e::es).length+([]:List Keyword).length+(if ([]:List Keyword).isEmpty then 0 else 1)<30))=true)
 (hline:(apos.endLine==cpos.line)=true) (hs:zP (e::es) X.env= (false,eval e X.env)::zP es X.env) (hplain:(yS cpos (zP es X.env)).any (·.1)=false):
 DE X Z (.Call (.Attribute o name apos) (e::es) [] cpos) (mtE Z3 mm fo fs):=
 DE.of (NQ Xx slot hty hm ho.h ha.h hbase hfew hline hs hplain) λσ H Q hE0=>hE0.elim λZ6 μ G s h p=>⟨Z6,μ,G,s,h,(d9.bind p).mono λd X1 G1 H1 x1 h1 p1 v rv=>by
  obtain⟨ty,p2⟩:=cR h1 rv p1
  exact⟨ty,Z6,X1,G1,s.mono x1,h1,(d9.bind p2).mono λds WZ G2 H2 x2 h2 p3 vs rvs=>⟨d,ds,WZ,G2,rv.mono x2,rvs,h2,p3⟩⟩⟩
theorem dX(slot:Slot "list" name id)(hty:typeOf (.builtin id)=pure (.type "method_descriptor"))(hm:MtD X Z id mm)(ho:DE X Z o fo)
 (hbase:yY o name X.env (eval o X.env)=eval o X.env) (hline:(apos.endLine==cpos.line)=true):DE X Z (.Call (.Attribute o name apos) [] [] cpos) (mtE Z3 mm fo g0):=
 DE.of (Dm Xx slot hty hm ho.h hbase hline) λσ H Q hE0=>hE0.elim λZ6 μ G s h p=>⟨Z6,μ,G,s,h,(d9.bind p).mono λd X1 G1 H1 x1 h1 p1 v rv=>by
  obtain⟨ty,p2⟩:=cR h1 rv p1
  exact⟨ty,d, [],X1,G1,rv,rfl,h1,p2⟩⟩
end
def SI(k:Bool)(h:Heap)(it a:Addr)(i:Nat):Prop:=if k then h.IsTupleIter it a i else h.IsListIter it a i
def SC(k:Bool)(h:Heap)(a:Addr)(items:Array zj):Prop:=if k then h.IsTuple a items else h.IsList a items
section
variable{prog:zW}{w:jk}{A:jA}{E:VSP}{s:zv}
theorem SI.keep(x:SI k h it a i)(q:∀o,h.get? it=some o->h'.get? it=some o):SI k h' it a i:=by
 rcases k with _|_
 ·exact Heap.IsListIter.at (show h.IsListIter it a i from x) q
 ·exact Heap.IsTupleIter.at (show h.IsTupleIter it a i from x) q
theorem SC.keep(x:SC k h a its)(q:∀o,h.get? a=some o->h'.get? a=some o):SC k h' a its:=by
 rcases k with _|_
 ·obtain⟨o,e,r⟩:=(show h.IsList a its from x);exact⟨o,q o e,r⟩
 ·obtain⟨o,e,r⟩:=(show h.IsTuple a its from x);exact⟨o,q o e,r⟩
theorem SI.there(x:SI k h it a i):∃o,h.get? it=some o/\∀v,o.data≠ .cell v:=by
 rcases k with _|_
 ·obtain⟨o,e,c,d⟩:=(show h.IsListIter it a i from x);exact⟨o,e,λv z=>by rw[d]at z;cases z⟩
 ·obtain⟨o,e,c,d⟩:=(show h.IsTupleIter it a i from x);exact⟨o,e,λv z=>by rw[d]at z;cases z⟩
theorem PZ(hit:s.heap.IsTupleIter it t i)(ht:s.heap.IsTuple t items)(hx:items[i]? =some x)
 (hQ:∀h',h'.IsTupleIter it t (i+1)->xu it s.heap h'->Q x {s with heap:=h'}):zC (zH prog w) A (jo (.ref it)) Q E s:=by
 obtain⟨ob,hob,hcls,hdat⟩:=id hit
 obtain⟨ot,hot,_,nt,hdt⟩:=ht
 unfold jo
 refine za (yk hit.typeIs xc (ye xc hit.typeIs Ja ?_ (XV _)))
 show zC _ _ (field (.ref it) 0 >>= _) _ _ s
 refine za (jT hob hdat rfl ?_)
 show zC _ _ (if (Value.ref t==Value.none)=true then _ else _) _ _ s
 rw[if_neg (show ¬((Value.ref t==Value.none)=true)from ja)]
 show zC _ _ (field (.ref it) 1 >>= _) _ _ s
 refine za (jT hob hdat rfl ?_)
 show zC _ _ (seqItems? (.ref t) >>= _) _ _ s
 refine za (jP hot hdt ?_)
 simp only[jX,hx]
 refine za (wpAny_setField hob hdat (by simp) (zq ⟨x,rfl,zq (hQ _ ?_ (Xn ..))⟩))
 exact⟨_,ZK _ hob (Obj.isFreed_of_fields (Obj.data_mapFields hdat _)),(Obj.cls_mapFields ..).trans hcls,by rw[Obj.data_mapFields hdat];simp[Xc]⟩
theorem OS(hh:A.handled=none)(hit:s.heap.IsTupleIter it t i)(ht:s.heap.IsTuple t items)(hx:items[i]? =none)
 (hE:∀h' e,Heap.ExtBut it s.heap h'->(∃o,h'.get? e=some o/\o.cls= .type "StopIteration")->E (.ref e) {s with heap:=h'}):zC (zH prog w) A (jo (.ref it)) Q E s:=by
 obtain⟨ob,hob,hcls,hdat⟩:=id hit
 obtain⟨ot,hot,_,nt,hdt⟩:=ht
 unfold jo
 refine za (yk hit.typeIs xc (ye xc hit.typeIs Ja ?_ (XV _)))
 show zC _ _ (field (.ref it) 0 >>= _) _ _ s
 refine za (jT hob hdat rfl ?_)
 show zC _ _ (if (Value.ref t==Value.none)=true then _ else _) _ _ s
 rw[if_neg (show ¬((Value.ref t==Value.none)=true)from ja)]
 show zC _ _ (field (.ref it) 1 >>= _) _ _ s
 refine za (jT hob hdat rfl ?_)
 show zC _ _ (seqItems? (.ref t) >>= _) _ _ s
 refine za (jP hot hdt ?_)
 simp only[jX,hx]
 refine za (Zn (za (wpAny_setField hob hdat (by simp) ?_)))
 show zC _ _ (newExc (.type "StopIteration") [] >>= _) _ _ _
 refine za ?_
 simp only[newExc,newTuple]
 refine za (yF ?_ (by size_fits))
 refine za (wpAny_of_eq (by first|rfl|(simp only[firstArgMember];rfl)) ?_)
 refine yF ?_ (by size_fits)
 delta raiseNew;dsimp only
 refine za (wpAny_handled ?_)
 first|rw[show A.in1.handled=none from hh]|rw[hh]
 refine za (zq (wpAny_throw ?_))
 exact hE _ _ (((Xn ..).extBut.push _).push _) ⟨_,zw _ rfl,rfl⟩
theorem VJ(hit:SI k s.heap it a i)(hl:SC k s.heap a items)(hx:items[i]? =some x)
 (hQ:∀h',SI k h' it a (i+1)->xu it s.heap h'->Q x {s with heap:=h'}):zC (zH prog w) A (jo (.ref it)) Q E s:=by
 rcases k with _|_
 ·exact wpAny_nextOf_list_item hit hl hx hQ
 ·exact PZ hit hl hx hQ
theorem RK(hh:A.handled=none)(hit:SI k s.heap it a i)(hl:SC k s.heap a items)(hx:items[i]? =none)
 (hE:∀h' e,Heap.ExtBut it s.heap h'->(∃o,h'.get? e=some o/\o.cls= .type "StopIteration")->E (.ref e) {s with heap:=h'}):zC (zH prog w) A (jo (.ref it)) Q E s:=by
 rcases k with _|_
 ·exact wpAny_nextOf_list_end hh hit hl hx hE
 ·exact OS hh hit hl hx hE
structure ZA(z TI TO i1 i2:Addr):Prop where
 TIz:TI≠z
 TOz:TO≠z
 i1z:i1≠z
 i2z:i2≠z
 TITO:TI≠TO
 TIi1:TI≠i1
 TIi2:TI≠i2
 TOi1:TO≠i1
 TOi2:TO≠i2
 i12:i1≠i2
theorem Tz(n:Nat):ZA (n+4:Nat) (n+2:Nat) (n+3:Nat) n (n+1:Nat):=⟨(by show @Ne Nat _ _;lia),(by show @Ne Nat _ _;lia),(by show @Ne Nat _ _;lia),(by show @Ne Nat _ _;lia),(by show @Ne Nat _ _;lia),(by show @Ne Nat _ _;lia),(by show @Ne Nat _ _;lia),(by show @Ne Nat _ _;lia),(by show @Ne Nat _ _;lia),(by show @Ne Nat _ _;lia)⟩
theorem IM(h:l<n):¬ @JH Addr (List Addr) JW [(n+4:Nat),(n+3:Nat),n,(n+1:Nat)] l:=by
 simp only[zp,zS,or_false,not_or]
 exact⟨(by show ¬ @Eq Nat _ _;lia),(by show ¬ @Eq Nat _ _;lia),(by show ¬ @Eq Nat _ _;lia),(by show ¬ @Eq Nat _ _;lia)⟩
theorem SW(hb: @JH Addr (List Addr) JW [(n+4:Nat),(n+2:Nat),(n+3:Nat),n,(n+1:Nat)] b): @LE.le Nat instLENat n b:=by
 simp only[zp,zS,or_false]at hb
 rcases hb with rfl|rfl|rfl|rfl|rfl<;>(show @LE.le Nat instLENat _ _;lia)
variable{z TI TO i1 i2 l1 l2:Addr}{xs ys:Array zj}{k1 k2:Bool}{i:Nat}
theorem Gm{Q:VSP}(Ap:ZA z TI TO i1 i2)(n1:l1∉ [z,TO,i1,i2])(n2:l2∉ [z,TO,i1,i2])
 (hz:Zg s.heap z TI TO .none) (hTI:yt s.heap TI (.ref i1) (.ref i2)) (hTO:yt s.heap TO a b)
 (h1:SI k1 s.heap i1 l1 i) (h2:SI k2 s.heap i2 l2 i) (hl1:SC k1 s.heap l1 xs) (hl2:SC k2 s.heap l2 ys) (hx:xs[i]? =some x) (hy:ys[i]? =some y)
 (hQ:∀h',Zg h' z TI TO (Xc s.heap.objs.size)->yt h' TO x y->SI k1 h' i1 l1 (i+1)->SI k2 h' i2 l2 (i+1)->yt h' s.heap.objs.size x y->h'.objs.size=s.heap.objs.size+1->
   (∀c o,c≠z->c≠TO->c≠i1->c≠i2->s.heap.get? c=some o->h'.get? c=some o)->Q (.ref s.heap.objs.size) {s with heap:=h'}):
 zC (zH prog w) A (yM.«zip.__next__» ⟨[.ref z], []⟩) (λfin s'=>∃v,fin= .done (.ret v)/\Q v s') E s:=by
 simp only[zp,zS,or_false,not_or]at n1 n2
 show zC _ _ (field (.ref z) 2 >>= _) _ _ _
 refine za (jT hz rfl rfl ?_)
 show zC _ _ (field (.ref z) 3 >>= _) _ _ _
 refine za (jT hz rfl rfl ?_)
 refine za (jP hTI rfl ?_)
 show zC _ _ (jZ (.ref z) >>= _) _ _ _
 refine za ?_
 unfold jZ
 refine za (jT hz rfl rfl (zq ?_))
 simp only[if_true]
 refine za (Zn ?_)
 refine za (jT hz rfl rfl ?_)
 refine za (yQ hz (by simp) λg₁ hz₁ WV=>?_)
 replace hz₁:Zg g₁ z TI TO .ellipsis:=hz₁
 refine za ?_
 simp only[List.zipIdx_cons,List.zipIdx_nil,ZH,XB]
 refine za (za (YQ ?_))
 show zC _ _ (jo (.ref i1) >>= _) _ _ _
 refine za (VJ (h1.keep λo e=>WV.extBut _ _ Ap.i1z e) (hl1.keep λo e=>WV.extBut _ _ n1.1 e) hx λg₂ h1₂ WS=>zq ?_)
 have hTO₂:yt g₂ TO a b:=WS.extBut _ _ Ap.TOi1 (WV.extBut _ _ Ap.TOz hTO)
 refine za (jP hTO₂ rfl ?_)
 refine za (Yx hTO₂ λg₃ hTO₃ hs₃=>?_)
 replace hTO₃:yt g₃ TO x b:=hTO₃
 refine za (xh (zq ?_))
 refine za (za (YQ ?_))
 show zC _ _ (jo (.ref i2) >>= _) _ _ _
 have up3:∀c o,c≠z->c≠TO->c≠i1->s.heap.get? c=some o->g₃.get? c=some o:=λc o c1 c2 c3 e=>hs₃.extBut _ _ c2 (WS.extBut _ _ c3 (WV.extBut _ _ c1 e))
 refine za (VJ (h2.keep λo e=>up3 _ _ Ap.i2z Ap.TOi2.symm Ap.i12.symm e) (hl2.keep λo e=>up3 _ _ n2.1 n2.2.1 n2.2.2.1 e) hy λg₄ h2₄ hs₄=>zq ?_)
 have hTO₄:yt g₄ TO x b:=hs₄.extBut _ _ Ap.TOi2 hTO₃
 refine za (jP hTO₄ rfl ?_)
 refine za (Yx hTO₄ λWT hTO₅ hs₅=>?_)
 replace hTO₅:yt WT TO x y:=hTO₅
 refine za (xh (zq (zq ?_)))
 refine za (jP hTO₅ rfl ?_)
 refine za (Jl ?_)
 have hsz:WT.objs.size=s.heap.objs.size:=by rw[hs₅.1,hs₄.1,hs₃.1,WS.1,WV.1]
 have hz₅:Zg WT z TI TO .ellipsis:=hs₅.extBut _ _ Ap.TOz.symm (hs₄.extBut _ _ Ap.i2z.symm (hs₃.extBut _ _ Ap.TOz.symm (WS.extBut _ _ Ap.i1z.symm hz₁)))
 have hk₅:∀c o,c≠z->c≠TO->c≠i1->c≠i2->s.heap.get? c=some o->WT.get? c=some o:=λc o c1 c2 c3 c4 e=>hs₅.extBut _ _ c2 (hs₄.extBut _ _ c4 (up3 c o c1 c2 c3 e))
 have h1₅:SI k1 WT i1 l1 (i+1):=h1₂.keep λo e=>hs₅.extBut _ _ Ap.TOi1.symm (hs₄.extBut _ _ Ap.i12 (hs₃.extBut _ _ Ap.TOi1.symm e))
 have h2₅:SI k2 WT i2 l2 (i+1):=h2₄.keep λo e=>hs₅.extBut _ _ Ap.TOi2.symm e
 have hzlt:z<WT.objs.size:=zu hz₅
 show zC _ _ (Zb (.ref z) (.ref WT.objs.size) >>= _) _ _ _
 refine za ?_
 unfold Zb
 have hz₆:Zg (WT.push {cls:=.type "tuple",data:=.seq #[x,y]}) z TI TO .ellipsis:=zd _ hz₅
 refine za (yQ hz₆ (by simp) λg₇ hz₇ hs₇=>?_)
 replace hz₇:Zg g₇ z TI TO (Xc WT.objs.size):=hz₇
 refine yQ hz₇ (by simp) λg₈ hz₈ hs₈=>?_
 replace hz₈:Zg g₈ z TI TO (Xc WT.objs.size):=hz₈
 have up:∀c o,c≠z->WT.get? c=some o->g₈.get? c=some o:=λc o c1 e=>hs₈.extBut _ _ c1 (hs₇.extBut _ _ c1 (zd _ e))
 have hT₈:yt g₈ WT.objs.size x y:=hs₈.extBut _ _ (xf hzlt) (hs₇.extBut _ _ (xf hzlt) (zw _ rfl))
 have hz8:g₈.objs.size=WT.objs.size+1:=by rw[hs₈.1,hs₇.1,yo]
 rw[hsz]at hz₈ hT₈ hz8
 refine zq ⟨_,rfl,?_⟩
 show Q (.ref WT.objs.size) _
 rw[hsz]
 exact hQ g₈ hz₈ (up _ _ Ap.TOz hTO₅) (h1₅.keep λo e=>up _ o Ap.i1z e) (h2₅.keep λo e=>up _ o Ap.i2z e) hT₈ hz8 λc o c1 c2 c3 c4 e=>up c o c1 (hk₅ c o c1 c2 c3 c4 e)
theorem eB0(hh:A.handled=none)(Ap:ZA z TI TO i1 i2)(n1:l1∉ [z,TO,i1,i2])(n2:l2∉ [z,TO,i1,i2])
 (hz:Zg s.heap z TI TO .none) (hTI:yt s.heap TI (.ref i1) (.ref i2)) (hTO:yt s.heap TO a b)
 (h1:SI k1 s.heap i1 l1 i) (h2:SI k2 s.heap i2 l2 i) (hl1:SC k1 s.heap l1 xs) (hl2:SC k2 s.heap l2 ys) (hend:xs[i]? =none\/ys[i]? =none)
 (hE:∀h' e,(∀c o,c≠z->c≠TO->c≠i1->c≠i2->s.heap.get? c=some o->h'.get? c=some o)->(∃o,h'.get? e=some o/\o.cls= .type "StopIteration")->E (.ref e) {s with heap:=h'}):
 zC (zH prog w) A (yM.«zip.__next__» ⟨[.ref z], []⟩) Q E s:=by
 simp only[zp,zS,or_false,not_or]at n1 n2
 show zC _ _ (field (.ref z) 2 >>= _) _ _ _
 refine za (jT hz rfl rfl ?_)
 show zC _ _ (field (.ref z) 3 >>= _) _ _ _
 refine za (jT hz rfl rfl ?_)
 refine za (jP hTI rfl ?_)
 show zC _ _ (jZ (.ref z) >>= _) _ _ _
 refine za ?_
 unfold jZ
 refine za (jT hz rfl rfl (zq ?_))
 simp only[if_true]
 refine za (Zn ?_)
 refine za (jT hz rfl rfl ?_)
 refine za (yQ hz (by simp) λg₁ hz₁ WV=>?_)
 replace hz₁:Zg g₁ z TI TO .ellipsis:=hz₁
 refine za ?_
 simp only[List.zipIdx_cons,List.zipIdx_nil,ZH,XB]
 refine za (za (YQ ?_))
 show zC _ _ (jo (.ref i1) >>= _) _ _ _
 rcases hx:xs[i]? with _|x
 ·
   refine za (RK hh (h1.keep λo e=>WV.extBut _ _ Ap.i1z e) (hl1.keep λo e=>WV.extBut _ _ n1.1 e) hx λg₂ e WS he=>?_)
   obtain⟨oe,hoe,hce⟩:=he
   have hz₂:Zg g₂ z TI TO .ellipsis:=WS _ _ Ap.i1z.symm hz₁
   have hez:e≠z:=λq=>by subst q;rw[hz₂]at hoe;cases hoe;simp at hce
   exact yQ hz₂ (by simp) λg₃ _ hs₃=>hE g₃ e (λc o c1 _ c3 _ q=>hs₃.extBut _ _ c1 (WS _ _ c3 (WV.extBut _ _ c1 q))) ⟨oe,hs₃.extBut _ _ hez hoe,hce⟩
 ·
   have hy:ys[i]? =none:=by
    rcases hend with h|h
    ·rw[hx]at h;exact kF h
    ·exact h
   refine za (VJ (h1.keep λo e=>WV.extBut _ _ Ap.i1z e) (hl1.keep λo e=>WV.extBut _ _ n1.1 e) hx λg₂ h1₂ WS=>zq ?_)
   have hTO₂:yt g₂ TO a b:=WS.extBut _ _ Ap.TOi1 (WV.extBut _ _ Ap.TOz hTO)
   refine za (jP hTO₂ rfl ?_)
   refine za (Yx hTO₂ λg₃ hTO₃ hs₃=>?_)
   refine za (xh (zq ?_))
   refine za (za (YQ ?_))
   show zC _ _ (jo (.ref i2) >>= _) _ _ _
   have up3:∀c o,c≠z->c≠TO->c≠i1->s.heap.get? c=some o->g₃.get? c=some o:=λc o c1 c2 c3 e=>hs₃.extBut _ _ c2 (WS.extBut _ _ c3 (WV.extBut _ _ c1 e))
   refine za (RK hh (h2.keep λo e=>up3 _ _ Ap.i2z Ap.TOi2.symm Ap.i12.symm e) (hl2.keep λo e=>up3 _ _ n2.1 n2.2.1 n2.2.2.1 e) hy λg₄ e hs₄ he=>?_)
   obtain⟨oe,hoe,hce⟩:=he
   have hz₄:Zg g₄ z TI TO .ellipsis:=hs₄ _ _ Ap.i2z.symm (hs₃.extBut _ _ Ap.TOz.symm (WS.extBut _ _ Ap.i1z.symm hz₁))
   have hez:e≠z:=λq=>by subst q;rw[hz₄]at hoe;cases hoe;simp at hce
   exact yQ hz₄ (by simp) λWT _ hs₅=>hE WT e (λc o c1 c2 c3 c4 q=>hs₅.extBut _ _ c1 (hs₄ _ _ c4 (up3 c o c1 c2 c3 q))) ⟨oe,hs₅.extBut _ _ hez hoe,hce⟩
theorem Gc(Ap:ZA z TI TO i1 i2)(n1:l1∉ [z,TO,i1,i2])(n2:l2∉ [z,TO,i1,i2])
 (hz:Zg s.heap z TI TO .none) (hTI:yt s.heap TI (.ref i1) (.ref i2)) (hTO:yt s.heap TO a b)
 (h1:SI k1 s.heap i1 l1 i) (h2:SI k2 s.heap i2 l2 i) (hl1:SC k1 s.heap l1 xs) (hl2:SC k2 s.heap l2 ys) (hx:xs[i]? =some x) (hy:ys[i]? =some y)
 (hQ:∀h',Zg h' z TI TO (Xc s.heap.objs.size)->yt h' TO x y->SI k1 h' i1 l1 (i+1)->SI k2 h' i2 l2 (i+1)->yt h' s.heap.objs.size x y->h'.objs.size=s.heap.objs.size+1->
   (∀c o,c≠z->c≠TO->c≠i1->c≠i2->s.heap.get? c=some o->h'.get? c=some o)->Q (some (.ref s.heap.objs.size)) {s with heap:=h'}):
 zC (zH prog w) A (ZV (.ref z)) Q E s:=by
 have hT:s.TypeIs (.ref z) "zip":=⟨_,hz,rfl⟩
 unfold ZV
 exact za (JK (yk hT ZO (ye ZO hT F.entry_zip_next
  (Gm Ap n1 n2 hz hTI hTO h1 h2 hl1 hl2 hx hy λh' a1 a2 a3 a4 a5 a6 a7=>zq (hQ h' a1 a2 a3 a4 a5 a6 a7)) (F.args_zip_next_1 _))))
theorem TU(hh:A.handled=none)(Ap:ZA z TI TO i1 i2)(n1:l1∉ [z,TO,i1,i2])(n2:l2∉ [z,TO,i1,i2])
 (hz:Zg s.heap z TI TO .none) (hTI:yt s.heap TI (.ref i1) (.ref i2)) (hTO:yt s.heap TO a b)
 (h1:SI k1 s.heap i1 l1 i) (h2:SI k2 s.heap i2 l2 i) (hl1:SC k1 s.heap l1 xs) (hl2:SC k2 s.heap l2 ys) (hend:xs[i]? =none\/ys[i]? =none)
 (hQ:∀h',(∀c o,c≠z->c≠TO->c≠i1->c≠i2->s.heap.get? c=some o->h'.get? c=some o)->Q none {s with heap:=h'}):zC (zH prog w) A (ZV (.ref z)) Q E s:=by
 have hT:s.TypeIs (.ref z) "zip":=⟨_,hz,rfl⟩
 unfold ZV
 refine za (JK (yk hT ZO (ye ZO hT F.entry_zip_next
  (eB0 hh Ap n1 n2 hz hTI hTO h1 h2 hl1 hl2 hend λh' e hk he=>?_) (F.args_zip_next_1 _))))
 obtain⟨o,ho,hc⟩:=he
 exact za (wpAny_isInstance ⟨o,ho,hc⟩ isSubtype_stop (zq (hQ _ hk)))
end
def GC(k:Bool)(a:Addr):Obj:={cls:=.type (if k then "tuple_iterator" else "list_iterator"),data:=.fields #[.ref a,.int 0 0]}
abbrev zh1(k1:Bool)(h:Heap)(l1:Addr):Heap:=h.push (GC k1 l1)
abbrev zh2(k1 k2:Bool)(h:Heap)(l1 l2:Addr):Heap:=(zh1 k1 h l1).push (GC k2 l2)
abbrev zh3(k1 k2:Bool)(h:Heap)(l1 l2:Addr):Heap:=(zh2 k1 k2 h l1 l2).push {cls:=.type "tuple",data:=.seq #[.ref h.objs.size,.ref (zh1 k1 h l1).objs.size]}
abbrev zh4(k1 k2:Bool)(h:Heap)(l1 l2:Addr):Heap:=(zh3 k1 k2 h l1 l2).push {cls:=.type "tuple",data:=.seq #[.none,.none]}
abbrev zh5(k1 k2:Bool)(h:Heap)(l1 l2:Addr):Heap:=(zh4 k1 k2 h l1 l2).push {cls:=.type "zip",data:=.fields #[.none,.bool false,.bool false,.ref (zh2 k1 k2 h l1 l2).objs.size,.ref (zh3 k1 k2 h l1 l2).objs.size]}
theorem wN(hl:SC k s.heap a items)(h:Q (.ref s.heap.objs.size) {s with heap:=s.heap.push (GC k a)}):zC (zH prog w) A (pyIter (.ref a)) Q E s:=by
 rcases k with _|_
 ·exact xM hl h
 ·exact wpAny_pyIter_tuple hl h
theorem tV(k1 k2:Bool)(l1 l2:Addr)(xs ys:Array zj):
 Meets (yM.«zip.__new__» ⟨[.type "zip",.ref l1,.ref l2], []⟩) (λ_ R s=>SC k1 s.heap l1 xs/\SC k2 s.heap l2 ys/\R (.ok (.ret (.ref (zh4 k1 k2 s.heap l1 l2).objs.size))) {s with heap:=zh5 k1 k2 s.heap l1 l2}):=
 .of_wp λprog w A R s h=>by
  obtain⟨hp,g,d,tk,os⟩:=s
  obtain⟨hl1,hl2,h⟩:=h
  have hsub:=sub_zip
  have hL1:SC k1 (Shared.heap ⟨hp,g,d,tk,os⟩) l1 xs:=hl1
  have hL2:SC k2 (Shared.heap ⟨hp.push (GC k1 l1),g,d,tk,os⟩) l2 ys:=hl2.keep λo e=>zd _ e
  wp_walk using wN hL1,wN hL2
  exact⟨_,rfl,h⟩
section
theorem OX{ch:List Addr}(I:Inv X pins σ H s)(hf:∀b∈ch,D0 X pins H b)(k:∀b o,b∉ch->s.heap.get? b=some o->h'.get? b=some o)
 (hz:vs.length<=zg) (rv:J1 vs us) (ht:E3 h' s.heap.objs.size us.toArray):Inv X pins σ (upd H s.heap.objs.size (.tup vs)) {s with heap:=h',toks:=t'}:=by
 have hq:H s.heap.objs.size=none:=I.hok.fresh (zo _)
 have neq:∀b o,s.heap.get? b=some o->b≠s.heap.objs.size:=λb o e=>zF (zu e)
 have nch:∀b u,H b=some u->b∉ch:=λb u e z=>by rw[(hf b z).1]at e;cases e
 refine I.step (λb hb=>⟨(hf b hb).2.2.2.1,(hf b hb).2.1,(hf b hb).2.2.2.2.1,(hf b hb).2.2.2.2.2⟩) (λb o _ _ hc e _=>k b o hc e) (λb o _ _ hc e _=>⟨o.slots,k b o hc e⟩)
  (λb o _ e n=>by rw[v7 (neq b o e)];exact n) (λb o hc e=>⟨o,k b o hc e⟩) (λb xs e=>by rw[v7 (v6 e hq)];exact e) (λb o u e=>by rw[v7 (v6 e hq)];exact e)
  (λb ps e=>⟨#[],by rw[v7 (v6 e hq),e];simp⟩) (λm hm=>?_) (λb u e=>?_) I.bare
 · obtain⟨o,es,ep,ho,r⟩:=hm
   exact⟨o,es,ep,k _ o (λz=>(hf _ z).2.1 rfl) ho,r⟩
 · by_cases hb:b=s.heap.objs.size
   · subst hb
     rw[N8]at e
     cases e
     exact⟨hz,us,rv,ht⟩
   · rw[v7 hb]at e
     refine(I.hok b u e).stay (λc v hc q=>k c v ?_ q) (λc q=>by rw[v7 (v6 q hq)];exact q) λc xs q=>by rw[v7 (v6 q hq)];exact q
     rcases hc with z|z
     ·rw[z];exact nch b u e
     ·exact nch c _ z
theorem aA{ch:List Addr}(I:Inv X pins σ H s)(hf:∀b∈ch,D0 X pins H b)(k:∀b o,b∉ch->s.heap.get? b=some o->h'.get? b=some o):Inv X pins σ H {s with heap:=h',toks:=t'}:=by
 have nch:∀b u,H b=some u->b∉ch:=λb u e z=>by rw[(hf b z).1]at e;cases e
 refine I.step (λb hb=>⟨(hf b hb).2.2.2.1,(hf b hb).2.1,(hf b hb).2.2.2.2.1,(hf b hb).2.2.2.2.2⟩) (λb o _ _ hc e _=>k b o hc e) (λb o _ _ hc e _=>⟨o.slots,k b o hc e⟩)
  (λ_ _ _ _ n=>n) (λb o hc e=>⟨o,k b o hc e⟩) (λ_ _ e=>e) (λ_ _ _ e=>e) (λb ps e=>⟨#[],by rw[e];simp⟩) (λm hm=>?_) (λb u e=>?_) I.bare
 · obtain⟨o,es,ep,ho,r⟩:=hm
   exact⟨o,es,ep,k _ o (λz=>(hf _ z).2.1 rfl) ho,r⟩
 · refine(I.hok b u e).stay (λc v hc q=>k c v ?_ q) (λ_ q=>q) λ_ _ q=>q
   rcases hc with z|z
   ·rw[z];exact nch b u e
   ·exact nch c _ z
end
def Sq(K:zh)(k:Bool)(H:Hp)(a:Addr)(vs:List V):Prop:=if k then SqT K H a vs else SqL K H a vs
theorem gC(I:Inv X pins σ H s)(h:Sq X.K k H a vs):∃its:List zj,J1 vs its/\SC k s.heap a its.toArray/\vs.length<=zg:=by
 rcases k with _|_
 ·obtain⟨its,r,p,z⟩:=I.list h;exact⟨its,r,p.isList,z⟩
 ·obtain⟨its,r,p,z⟩:=I.tuple h;exact⟨its,r,p,z⟩
theorem lQ(I:Inv X pins σ H s)(h:Sq X.K k H a vs)(h':Sq X.K k H a ws):vs=ws:=by
 rcases k with _|_
 ·exact I.list_inj h h'
 ·exact I.tuple_inj h h'
def Itz(K:zh)(k1 k2:Bool)(a b:Addr):It:=
 ⟨λi H=>∃xs ys x y,Sq K k1 H a xs/\Sq K k2 H b ys/\xs[i]? =some x/\ys[i]? =some y,
  λi H v H'=>∃q x y,H q=none/\v= .ref q/\H'=upd H q (.tup [x,y])/\(∀xs,Sq K k1 H a xs->xs[i]? =some x)/\∀ys,Sq K k2 H b ys->ys[i]? =some y,
  λi H=>∃xs ys,Sq K k1 H a xs/\Sq K k2 H b ys/\(xs.length<=i\/ys.length<=i)⟩
theorem BQ(r:J1 vs its){i:Nat}(h:vs[i]? =some x):∃u,its.toArray[i]? =some u/\K4 x u:=by
 obtain⟨u,e,ru⟩:=r.get h
 exact⟨u,by simpa using e,ru⟩
theorem dW1{w:jk}{K:zh}{es:List Expr}{x1:Nat}{tp:Pos}{l1 l2 z TI TO i1 i2:Addr}(Ap:ZA z TI TO i1 i2)(n1:l1∉ [z,TO,i1,i2])(n2:l2∉ [z,TO,i1,i2]):
 L6 P w K (.Tuple es x1 tp) (Itz K k1 k2 l1 l2) [z,TI,TO,i1,i2] z (λi h=>Zg h z TI TO .none/\yt h TI (.ref i1) (.ref i2)/\(∃a b,yt h TO a b)/\SI k1 h i1 l1 i/\SI k2 h i2 l2 i) where
 mem:=by simp
 obj:=λi h st b hb=>by
  obtain⟨s1,s2,⟨a,c,s3⟩,s4,s5⟩:=st
  simp only[zp,zS,or_false]at hb
  rcases hb with rfl|rfl|rfl|rfl|rfl
  ·exact⟨_,s1,λv z=>nomatch z⟩
  ·exact⟨_,s2,λv z=>nomatch z⟩
  ·exact⟨_,s3,λv z=>nomatch z⟩
  ·exact s4.there
  ·exact s5.there
 keep:=λi h h' st k=>by
  obtain⟨s1,s2,⟨a,c,s3⟩,s4,s5⟩:=st
  exact⟨k _ (by simp) _ s1,k _ (by simp) _ s2,⟨a,c,k _ (by simp) _ s3⟩,s4.keep (k _ (by simp)),s5.keep (k _ (by simp))⟩
 item:=by
  intro X hP hw hK hc i pins s σ H E I hf st hg
  subst hP hw hK
  obtain⟨xs,ys,x,y,q1,q2,hx,hy⟩:=hg
  obtain⟨its1,r1,c1,z1⟩:=gC I q1
  obtain⟨its2,r2,c2,z2⟩:=gC I q2
  obtain⟨u1,e1,ru1⟩:=BQ r1 hx
  obtain⟨u2,e2,ru2⟩:=BQ r2 hy
  obtain⟨s1,s2,⟨a,c,s3⟩,s4,s5⟩:=st
  refine Gc Ap n1 n2 s1 s2 s3 s4 s5 c1 c2 e1 e2 λg b1 b2 b3 b4 b5 b6 b7=>⟨_,rfl,?_⟩
  refine wpAny_letOwnedTupleGo_zip b1 λg2 c1' sb=>?_
  have keep:∀b o,b∉ [z,TI,TO,i1,i2]->s.heap.get? b=some o->g2.get? b=some o:=λb o hb e=>by
   simp only[zp,zS,or_false,not_or]at hb
   exact(sb.2 b hb.1).trans (b7 b o hb.1 hb.2.2.1 hb.2.2.2.1 hb.2.2.2.2 e)
  have zlt:z<s.heap.objs.size:=zu s1
  have hnew:E3 g2 s.heap.objs.size [u1,u2].toArray:=⟨_,(sb.2 _ (xf zlt)).trans b5,rfl,_,rfl⟩
  have hq:H s.heap.objs.size=none:=I.hok.fresh (zo _)
  refine⟨.ref s.heap.objs.size,upd H s.heap.objs.size (.tup [x,y]),OX I hf keep (by show 2<=zg;decide) (.cons ru1 (.cons ru2 .nil)) hnew,rfl,⟨_,x,y,hq,rfl,rfl,λxs' h=>by rw[lQ I h q1];exact hx,λys' h=>by rw[lQ I h q2];exact hy⟩,?_,λb hb=>?_⟩
  · refine⟨c1',?_,⟨_,_,(sb.2 _ Ap.TOz).trans b2⟩,b3.keep λo e=>(sb.2 _ Ap.i1z).trans e,b4.keep λo e=>(sb.2 _ Ap.i2z).trans e⟩
    exact(sb.2 _ Ap.TIz).trans (b7 TI _ Ap.TIz Ap.TITO Ap.TIi1 Ap.TIi2 s2)
  · have hb':b<s.heap.objs.size:=by
     simp only[zp,zS,or_false]at hb
     rcases hb with rfl|rfl|rfl|rfl|rfl
     ·exact zlt
     ·exact zu s2
     ·exact zu s3
     ·obtain⟨_,e,_⟩:=s4.there;exact zu e
     ·obtain⟨_,e,_⟩:=s5.there;exact zu e
    rw[v7 (zF hb')]
    exact(hf b hb).1
 done:=by
  intro X hP hw hK hc i pins s σ H E I hf st hg
  subst hP hw hK
  obtain⟨xs,ys,q1,q2,hend⟩:=hg
  obtain⟨its1,r1,c1,z1⟩:=gC I q1
  obtain⟨its2,r2,c2,z2⟩:=gC I q2
  obtain⟨s1,s2,⟨a,c,s3⟩,s4,s5⟩:=st
  have hl1:=r1.length
  have hl2:=r2.length
  refine TU (I.ok.hd hc) Ap n1 n2 s1 s2 s3 s4 s5 c1 c2 (by rcases hend with h|h;left;simp;lia;right;simp;lia) λg b7=>⟨rfl,aA I hf λb o hb e=>?_⟩
  simp only[zp,zS,or_false,not_or]at hb
  exact b7 b o hb.1 hb.2.2.1 hb.2.2.2.1 hb.2.2.2.2 e
 self:=λ_ _ _ _ _ st h=>wpAny_pyIter_zip st.1 h
def Bd(K:zh)(ta:TA):TI:=λσ H R=>ta σ H λvs H1=>∃k1 k2 a b xs ys,vs= [.ref a,.ref b]/\Sq K k1 H1 a xs/\Sq K k2 H1 b ys/\R (Itz K k1 k2 a b) H1
section
theorem IU(hl1:SC k1 s.heap l1 xs)(hl2:SC k2 s.heap l2 ys)
 (h:Q (.ref (zh4 k1 k2 s.heap l1 l2).objs.size) {s with heap:=zh5 k1 k2 s.heap l1 l2}):zC (zH prog w) A (call (.type "zip") [.ref l1,.ref l2]) Q E s:=by
 refine callType_new F.called_zip (by decide) (F.typeCall_zip_2 _ _) (F.newCall_zip_2 _ _) (λobj=>F.args_object_init_3 obj _ _) F.entry_zip_new (tV k1 k2 l1 l2 xs ys) ⟨hl1,hl2,?_⟩
 exact⟨⟨_,zw _ rfl,rfl⟩,h⟩
structure ZMk(k1 k2:Bool)(h h5:Heap)(l1 l2:Addr)(n:Nat):Prop where
 keep:∀b o,h.get? b=some o->h5.get? b=some o
 sz:h5.objs.size=n+5
 g5:Zg h5 (n+4:Nat) (n+2:Nat) (n+3:Nat) .none
 g4:yt h5 (n+3:Nat) .none .none
 g3:yt h5 (n+2:Nat) (.ref n) (.ref (n+1:Nat))
 s1:SI k1 h5 n l1 0
 s2:SI k2 h5 (n+1:Nat) l2 0
theorem zmk:(zh4 k1 k2 h l1 l2).objs.size=h.objs.size+4/\ZMk k1 k2 h (zh5 k1 k2 h l1 l2) l1 l2 h.objs.size:=by
 have z1:(zh1 k1 h l1).objs.size=h.objs.size+1:=yo ..
 have z2:(zh2 k1 k2 h l1 l2).objs.size=h.objs.size+2:=by rw[yo,z1]
 have z3:(zh3 k1 k2 h l1 l2).objs.size=h.objs.size+3:=by rw[yo,z2]
 have z4:(zh4 k1 k2 h l1 l2).objs.size=h.objs.size+4:=by rw[yo,z3]
 have z5:(zh5 k1 k2 h l1 l2).objs.size=h.objs.size+5:=by rw[yo,z4]
 have g5:Zg (zh5 k1 k2 h l1 l2) (zh4 k1 k2 h l1 l2).objs.size (zh2 k1 k2 h l1 l2).objs.size (zh3 k1 k2 h l1 l2).objs.size .none:=zw _ rfl
 have g4:yt (zh5 k1 k2 h l1 l2) (zh3 k1 k2 h l1 l2).objs.size .none .none:=zd _ (zw _ rfl)
 have g3:yt (zh5 k1 k2 h l1 l2) (zh2 k1 k2 h l1 l2).objs.size (.ref h.objs.size) (.ref (zh1 k1 h l1).objs.size):=zd _ (zd _ (zw _ rfl))
 have g2:(zh5 k1 k2 h l1 l2).get? (zh1 k1 h l1).objs.size=some (GC k2 l2):=zd _ (zd _ (zd _ (zw _ (by cases k2<;>rfl))))
 have g1:(zh5 k1 k2 h l1 l2).get? h.objs.size=some (GC k1 l1):=zd _ (zd _ (zd _ (zd _ (zw _ (by cases k1<;>rfl)))))
 rw[z4,z2,z3]at g5
 rw[z3]at g4
 rw[z2,z1]at g3
 rw[z1]at g2
 refine⟨z4,λb o e=>zd _ (zd _ (zd _ (zd _ (zd _ e)))),z5,g5,g4,g3,?_,?_⟩
 · rcases k1 with _|_
   ·exact⟨_,g1,rfl,rfl⟩
   ·exact⟨_,g1,rfl,rfl⟩
 · rcases k2 with _|_
   ·exact⟨_,g2,rfl,rfl⟩
   ·exact⟨_,g2,rfl,rfl⟩
theorem SC.lt(c:SC k h a xs): @LT.lt Nat instLTNat a h.objs.size:=by
 rcases k with _|_
 ·obtain⟨o,e,_⟩:=(show h.IsList a _ from c);exact zu e
 ·obtain⟨o,e,_⟩:=(show h.IsTuple a _ from c);exact zu e
theorem Cw(hl1:SC k1 s.heap l1 xs)(hl2:SC k2 s.heap l2 ys)
 (h:∀h5 n,n=s.heap.objs.size->ZMk k1 k2 s.heap h5 l1 l2 n->Q (.ref (n+4:Nat)) {s with heap:=h5}):zC (zH prog w) A (call (.type "zip") [.ref l1,.ref l2]) Q E s:=by
 refine IU hl1 hl2 ?_
 have:=zmk (k1:=k1) (k2:=k2) (h:=s.heap) (l1:=l1) (l2:=l2)
 rw[this.1]
 exact h _ _ rfl this.2
theorem Bg{es:List Expr}{ta:TA}{p pos:Pos}(hg:Gl X "zip")(hm:X.mg "zip" =none)(ha:PA X [a,b] ta)(hs:zP [a,b] X.env= [(false,eval a X.env),(false,eval b X.env)])(hs2:zP [b] X.env= [(false,eval b X.env)])(hbt:zV "zip" =some (.type "zip")):
 PI X (.Tuple es x1 tp) (.Call (.Name "zip" p) [a,b] [] pos) (Bd X.K ta):=by
 intro pins s σ H R I h
 refine Call_ (B6 I hg hm hbt (yd (thn (ha pos pins s σ H _ I h) λus s1 hE1=>hE1.elim λvs H1 I1 r1 q1=>?_) (by rw[hs,hs2]) (by rw[hs2];rfl)))
 obtain⟨k1,k2,l1,l2,xs,ys,rfl,q1,q2,q⟩:=q1
 obtain⟨u1,u2,rfl,ru1,ru2⟩:=WJ r1
 cases ru1
 cases ru2
 obtain⟨its1,rr1,c1,z1⟩:=gC I1 q1
 obtain⟨its2,rr2,c2,z2⟩:=gC I1 q2
 refine Cw c1 c2 λh5 n en Z=>?_
 have n1:=IM (en▸c1.lt)
 have n2:=IM (en▸c2.lt)
 refine wpAny_pyIter_zip Z.g5 ?_
 refine⟨(n+4:Nat),_,_,Itz X.K k1 k2 l1 l2,H1,rfl,I1.kept Z.keep,dW1 (Tz n) n1 n2,⟨Z.g5,Z.g3,⟨_,_,Z.g4⟩,Z.s1,Z.s2⟩,λb hb=>?_,q⟩
 have hb':s1.heap.objs.size<=b:=en▸SW hb
 exact I1.fpOk hb' (I1.hok.fresh hb')
end
section
open Classical in
def ckO(r:Nat)(o:DO):DH->Bool:=λG=>decide (G[r]? =some o)
def t5:D->M Src:=λx=>match x with
 | .tup l=>pure ⟨l,λ_=>true⟩
 | .ref r=>do
   let o <-O4 r
   let l <-listOf o
   pure ⟨l,ckO r o⟩
 |_=>M.stuck
def Rx(c:Wc)(μ:List Addr)(H:Hp)(k:Bool)(a:Addr)(s:Src):Prop:=∀ X9 G' H',Ext μ H X9 H'->J0 c X9 G' H'->s.ck G'=true->∃vs,Sq c.K k H' a vs/\u9 c X9 H' s.items vs
theorem AJ{H:Hp}{G:DH}{d:D}{v:V}{f:Src->M α}{K:α->List Addr->DH->Hp->Prop}(h:J0 c μ G H)(r:f9 c μ H d v)(p:d9 c Z μ H ((t5 d >>= f) G) K):
 ∃s k a vs,v= .ref a/\Sq c.K k H a vs/\u9 c μ H s.items vs/\Rx c μ H k a s/\s.ck G=true/\(∀i,d= .ref i->k=false)/\d9 c Z μ H (f s G) K:=by
 rcases d with _|_|_|_|l|i|_|_<;>try (exact p.elim;done)
 ·
   unfold f9 at r
   obtain⟨a,vs,rfl,q,rl⟩:=r
   exact⟨⟨l,λ_=>true⟩,true,a,vs,rfl,q,rl,λX9 G' H' x h' _=>⟨vs,x.sqT q,rl.mono x⟩,rfl,(λi z=>nomatch z),p⟩
 ·
   unfold f9 at r
   obtain⟨a,m,rfl⟩:=r
   have p':d9 c Z μ H ((O4 i >>= λo=>(listOf o >>= λl=>(pure ⟨l,ckO i o⟩:M Src)) >>= f) G) K:=by rw[<-M.bind_assoc];exact p
   obtain⟨o,g,p2⟩:=M7 p'
   have ro:=h.obj i o a g m
   have ck:ckO i o G=true:=by unfold ckO;simp[g]
   cases o with
   |lst l=>
     obtain⟨vs,q,rl⟩:=ro
     refine⟨⟨l,ckO i (.lst l)⟩,false,a,vs,rfl,SqL.of q,rl,λX9 G' H' x h' hck=>?_,ck,(λ_ _=>rfl),p2⟩
     have g':G'[i]? =some (.lst l):=by unfold ckO at hck;simpa using hck
     obtain⟨vs',q',rl'⟩:=h'.obj i _ a g' (MH x.pre m)
     exact⟨vs',SqL.of q',rl'⟩
   |rol l=>
     obtain⟨vs,q,rl⟩:=ro
     refine⟨⟨l,ckO i (.rol l)⟩,false,a,vs,rfl,q.sq,rl,λX9 G' H' x h' hck=>?_,ck,(λ_ _=>rfl),p2⟩
     have g':G'[i]? =some (.rol l):=by unfold ckO at hck;simpa using hck
     obtain⟨vs',q',rl'⟩:=h'.obj i _ a g' (MH x.pre m)
     exact⟨vs',q'.sq,rl'⟩
   |dct l=>exact p2.elim
   |rod l=>exact p2.elim
theorem rO{H:Hp}{i:Nat}{d:D}{x:V}(r:u9 c μ H l vs)(h:l[i]? =some d)(hx:vs[i]? =some x):f9 c μ H d x:=by
 obtain⟨v,e,q⟩:=r.get h
 rw[hx]at e
 cases e
 exact q
def K3(lo:Int)(n:Nat):List D:=(jr n).map fun(i:Nat)=>D.int (lo+(i:Int))
def T4(fs:DSt->M (List D)):DSt->M Src:=λσ=>do
 match <-fs σ with
 |[.int j]=>if -(2 ^ 62)<=j/\j<2 ^ 62 then pure ⟨K3 0 j.toNat,λ_=>true⟩else M.stuck
 |_=>M.stuck
theorem SZ(lo:Int)(n:Nat):ItD c μ H (Itr lo n) ⟨K3 lo n,λ_=>true⟩:=λX9 G' H' x' h' _ i=>by
 refine⟨λd hd=>?_,λhi=>?_⟩
 · have hi:i<n:=by have:=lt_of_get hd;simpa [K3]using this
   have e:d= .int (lo+i):=by
    unfold K3 at hd
    rw[zB,List.getElem?_range hi]at hd
    simp at hd
    exact hd.symm
   subst e
   exact⟨hi,λx H2 ⟨e1,e2⟩=>by subst e1 e2;exact⟨Ext.refl _ _,h',ofI⟩⟩
 · show n<=i
   simpa [K3]using hi
theorem Kb(hg:Gl X "range")(hm:X.mg "range" =none)(ha:DA X Z [a] fs)(hs:zP [a] X.env= [(false,eval a X.env)]):DI X Z tg (.Call (.Name "range" p) [a] [] pos) (T4 fs):=
 DI.of (NY hg hm ha.h hs) λσ H R hE0=>hE0.elim λZ6 μ G s h p=>⟨Z6,μ,G,s,h,(d9.bind p).mono λds X1 G1 H1 x1 h1 p1 vs rv=>by
  rcases ds with _|⟨_|_|j|_|_|_|_|_,_|⟨_,_⟩⟩<;>dsimp only at p1<;>try exact p1.elim
  · split at p1
    · rename_i hj
      obtain⟨v,t,rfl,r0,e⟩:=rv
      cases e
      exact⟨j,by rw[L0 r0],hj.1,hj.2,d9.ok p1 h1 _ (SZ 0 _)⟩
    ·exact p1.elim⟩
def wC(fs:DSt->M (List D)):DSt->M Src:=λσ=>do
 match <-fs σ with
 |[a,b]=>do
   let s1 <-t5 a
   let s2 <-t5 b
   pure ⟨(s1.items.zip s2.items).map λp=>.tup [p.1,p.2],λG=>s1.ck G&&s2.ck G⟩
 |_=>M.stuck
theorem iX(h:J0 c μ G H)(hq:H q=none)(r:u9 c μ H ds vs):Ext μ H μ (upd H q (.tup vs))/\J0 c μ G (upd H q (.tup vs))/\f9 c μ (upd H q (.tup vs)) (.tup ds) (.ref q):=by
 have k:Ext μ H μ (upd H q (.tup vs)):=Ext.lay hq _
 refine⟨k,h.same k λa o e n=>by rw[v7 (v6 e hq)];exact e,?_⟩
 unfold f9
 exact⟨q,vs,rfl,SqT.of N8,r.mono k⟩
theorem HW{tp:Pos}{p pos:Pos}(hg:Gl X "zip")(hm:X.mg "zip" =none)(ha:DA X Z [a,b] fs)(hs:zP [a,b] X.env= [(false,eval a X.env),(false,eval b X.env)])(hs2:zP [b] X.env= [(false,eval b X.env)])(hbt:zV "zip" =some (.type "zip")):
 DI X Z (.Tuple es x1 tp) (.Call (.Name "zip" p) [a,b] [] pos) (wC fs):=
 DI.of (Bg hg hm ha.h hs hs2 hbt) λσ H R hE0=>hE0.elim λZ6 μ G s h p=>⟨Z6,μ,G,s,h,(d9.bind p).mono λds X1 G1 H1 x1 h1 p1 vs rv=>by
  rcases ds with _|⟨d1,_|⟨d2,_|⟨_,_⟩⟩⟩<;>dsimp only at p1<;>try exact p1.elim
  · obtain⟨v1,t1,rfl,r1,v2,t2,rfl,r2,e⟩:=rv
    cases e
    obtain⟨s1,k1,a1,w1,rfl,q1,l1,is1,ck1,_,p2⟩:=AJ h1 r1 p1
    obtain⟨s2,k2,a2,w2,rfl,q2,l2,is2,ck2,_,p3⟩:=AJ h1 r2 p2
    refine⟨k1,k2,a1,a2,w1,w2,rfl,q1,q2,d9.ok p3 h1 _ λX9 G' H' x' h' ck' i=>?_⟩
    have ck'':s1.ck G'=true/\s2.ck G'=true:=by simpa using ck'
    obtain⟨u1,q1',l1'⟩:=is1 X9 G' H' x' h' ck''.1
    obtain⟨u2,q2',l2'⟩:=is2 X9 G' H' x' h' ck''.2
    refine⟨λd hd=>?_,λhi=>?_⟩
    · rw[zB]at hd
      rcases hz:(s1.items.zip s2.items)[i]? with _|pr
      ·rw[hz]at hd;cases hd
      ·
        rw[hz]at hd
        obtain⟨e1,e2⟩:=pr
        have hd':d= .tup [e1,e2]:=by simpa using hd.symm
        subst hd'
        rw[jJ]at hz
        obtain⟨y1,hy1,ry1⟩:=l1'.get hz.1
        obtain⟨y2,hy2,ry2⟩:=l2'.get hz.2
        refine⟨⟨u1,u2,y1,y2,q1',q2',hy1,hy2⟩,λx H2 ⟨q,z1,z2,hq,ex,eH,f1,f2⟩=>?_⟩
        subst ex eH
        have g1:=f1 u1 q1'
        have g2:=f2 u2 q2'
        rw[hy1]at g1
        rw[hy2]at g2
        cases g1
        cases g2
        exact iX h' hq ⟨y1,_,rfl,ry1,y2,_,rfl,ry2,rfl⟩
    · refine⟨u1,u2,q1',q2',?_⟩
      rw[<-l1'.length,<-l2'.length]
      simp at hi
      lia⟩
end
def V9:List D->M D:=λds=>match ds with
 |[.str z]=>if z.length<=zg then pure (.int z.length)else M.stuck
 |[.tup l]=>pure (.int l.length)
 |[.ref r]=>do
   match <-O4 r with
   | .lst l=>pure (.int l.length)
   | .rol l=>pure (.int l.length)
   | .dct l=>pure (.int l.length)
   | .rod _=>M.stuck
 |_=>M.stuck
def T8:List D->M D:=λds=>match ds with
 |[.tup l]=>pure (.tup l)
 |[.ref r]=>do
   let l <-O4 r >>= listOf
   pure (.tup l)
 |_=>M.stuck
def qA:List D->M D:=λds=>match ds with
 |[.tup l]=>N7 (.lst l)
 |[.ref r]=>do
   let l <-O4 r >>= listOf
   N7 (.lst l)
 |_=>M.stuck
def C3:List D->M D:=λds=>match ds with
 |[.int i]=>pure (.int (if i<0 then -i else i))
 |_=>M.stuck
def l9:List D->M D:=λds=>match ds with
 |[.int i]=>pure (.int i)
 |[.bl k]=>pure (.int (if k then 1 else 0))
 |_=>M.stuck
def i7:List D->Option (List Bool)
 |[]=>some []
 | .bl b::r=>(i7 r).map (b :: ·)
 |_=>none
def u7:List D->M D:=λds=>match ds with
 |[.ref r]=>do
   let l <-O4 r >>= listOf
   let bs <-K0 (i7 l)
   pure (.bl (bs.all id))
 |_=>M.stuck
def QC:List D->M D:=λds=>match ds with
 |[.ref r]=>do
   let l <-O4 r >>= listOf
   let bs <-K0 (i7 l)
   pure (.bl (bs.any id))
 |_=>M.stuck
theorem NP{F:List D->M α}{c:Wc}{Z:XC}{H:Hp}{G:DH}{K:α->List Addr->DH->Hp->Prop}(p:d9 c Z μ H (F ds G) K)(h0:F []=M.stuck)(h2:∀a b t,F (a::b::t)=M.stuck)(hn:F [.non]=M.stuck)(hb:∀b,F [.bl b]=M.stuck)(hi:∀b,F [.int b]=M.stuck)(hs:∀b,F [.str b]=M.stuck)(ht:∀b,F [.tup b]=M.stuck)(hf:∀b,F [.fn b]=M.stuck)(hy:∀b,F [.ty b]=M.stuck):∃r,ds= [.ref r]:=by
 rcases ds with _|⟨d,_|⟨_,_⟩⟩
 ·rw[h0]at p;exact p.elim
 · rcases d with _|b|b|b|b|b|b|b
   ·rw[hn]at p;exact p.elim
   ·rw[hb]at p;exact p.elim
   ·rw[hi]at p;exact p.elim
   ·rw[hs]at p;exact p.elim
   ·rw[ht]at p;exact p.elim
   ·exact⟨b,rfl⟩
   ·rw[hf]at p;exact p.elim
   ·rw[hy]at p;exact p.elim
 ·rw[h2]at p;exact p.elim
section
theorem B1(r:u9 c μ H [d] vs):∃v,vs= [v]/\f9 c μ H d v:=by
 obtain⟨v,t,rfl,q,e⟩:=r
 cases e
 exact⟨v,rfl,q⟩
theorem wV(r:u9 c μ H [d,e] vs):∃v w,vs= [v,w]/\f9 c μ H d v/\f9 c μ H e w:=by
 obtain⟨v,t,rfl,q,v',t',rfl,q',z⟩:=r
 cases z
 exact⟨v,v',rfl,q,q'⟩
theorem UY:C1 X Z (.builtin "len") V9:=C1.of (L1.or Hc (L1.or Bk Qb)) λxs H Q hE0=>hE0.elim λds μ G rl hr p=>by
 rcases ds with _|⟨_|_|_|z|l|i|_|_,_|⟨_,_⟩⟩<;>try exact p.elim
 all_goals (delta V9 at p;dsimp only at p)
 · obtain⟨v,rfl,r⟩:=B1 rl
   split at p
   · rename_i hz
     exact .inr (.inl ⟨z,by rw[A1 r],hz,d9.ok p hr _ ofI⟩)
   ·exact p.elim
 · obtain⟨v,rfl,r⟩:=B1 rl
   unfold f9 at r
   obtain⟨a,vs,rfl,q,rl'⟩:=r
   exact .inl ⟨a,vs,rfl,.inr q,by rw[<-rl'.length];exact d9.ok p hr _ ofI⟩
 · obtain⟨v,rfl,r⟩:=B1 rl
   unfold f9 at r
   obtain⟨a,m,rfl⟩:=r
   obtain⟨o,g,p1⟩:=M7 p
   have ro:=hr.obj i o a g m
   rcases o with l|l|l|l
   ·obtain⟨vs,q,rl'⟩:=ro;exact .inl ⟨a,vs,rfl,.inl (SqL.of q),by rw[<-rl'.length];exact d9.ok p1 hr _ ofI⟩
   ·obtain⟨vs,q,rl'⟩:=ro;exact .inl ⟨a,vs,rfl,.inl q.sq,by rw[<-rl'.length];exact d9.ok p1 hr _ ofI⟩
   ·obtain⟨kvs,q,rk⟩:=ro;exact .inr (.inr ⟨a,kvs,rfl,q,by rw[<-rk.length];exact d9.ok p1 hr _ ofI⟩)
   ·exact p1.elim
theorem BB{f:List D->M α}{K:α->List Addr->DH->Hp->Prop}(h:J0 c μ G H)(rv:f9 c μ H (.ref r) v)(p:d9 c Z μ H (((O4 r >>= listOf) >>= f) G) K):
 ∃l a vs,v= .ref a/\u9 c μ H l vs/\SqL c.K H a vs/\d9 c Z μ H (f l G) K:=by
 obtain⟨l,a,vs,rfl,rl,p2,hq⟩:=IG h rv p
 refine⟨l,a,vs,rfl,rl,?_,p2⟩
 rcases hq with⟨z,_⟩|⟨_,_,_,⟨_,q⟩|⟨_,q⟩⟩
 ·cases z
 ·exact SqL.of q
 ·exact q.sq
theorem VX:C1 X Z (.type "tuple") T8:=C1.of BW λxs H Q hE0=>hE0.elim λds μ G rl hr p=>by
 rcases ds with _|⟨_|_|_|_|l|i|_|_,_|⟨_,_⟩⟩<;>try exact p.elim
 all_goals (delta T8 at p;dsimp only at p)
 · obtain⟨v,rfl,r⟩:=B1 rl
   have r':=r
   unfold f9 at r'
   obtain⟨a,vs,rfl,q,rl'⟩:=r'
   exact⟨a,vs,rfl,.inr ⟨q,d9.ok p hr _ r⟩⟩
 · obtain⟨v,rfl,r⟩:=B1 rl
   obtain⟨l,a,vs,rfl,rl',q,p2⟩:=BB hr r p
   exact⟨a,vs,rfl,.inl ⟨q,λl' hl=>dE hr rl' p2 l' hl⟩⟩
theorem IT:C1 X Z (.type "list") qA:=C1.of Vg λxs H Q hE0=>hE0.elim λds μ G rl hr p=>by
 rcases ds with _|⟨_|_|_|_|l|i|_|_,_|⟨_,_⟩⟩<;>try exact p.elim
 all_goals (delta qA at p;dsimp only at p)
 · obtain⟨v,rfl,r⟩:=B1 rl
   unfold f9 at r
   obtain⟨a,vs,rfl,q,rl'⟩:=r
   exact⟨a,vs,rfl,.inr q,λl' hl=>V3 hr rl' p l' hl⟩
 · obtain⟨v,rfl,r⟩:=B1 rl
   obtain⟨l,a,vs,rfl,rl',q,p2⟩:=BB hr r p
   exact⟨a,vs,rfl,.inl q,λl' hl=>V3 hr rl' p2 l' hl⟩
theorem OZ:C1 X Z (.builtin "abs") C3:=C1.of DR λxs H Q hE0=>hE0.elim λds μ G rl hr p=>by
 rcases ds with _|⟨_|_|_|_|_|_|_|_,_|⟨_,_⟩⟩<;>try exact p.elim
 all_goals (delta C3 at p;dsimp only at p)
 · obtain⟨v,rfl,r⟩:=B1 rl
   exact⟨_,by rw[L0 r],d9.ok p hr _ ofI⟩
theorem EU:C1 X Z (.type "int") l9:=C1.of qY λxs H Q hE0=>hE0.elim λds μ G rl hr p=>by
 rcases ds with _|⟨_|_|_|_|_|_|_|_,_|⟨_,_⟩⟩<;>try exact p.elim
 all_goals (delta l9 at p;dsimp only at p)
 · obtain⟨v,rfl,r⟩:=B1 rl
   exact .inr ⟨_,by rw[c6 r],d9.ok p hr _ ofI⟩
 · obtain⟨v,rfl,r⟩:=B1 rl
   exact .inl ⟨_,by rw[L0 r],d9.ok p hr _ ofI⟩
theorem VH:∀ {l} {bs} {vs} {us},i7 l=some bs->u9 c μ H l vs->J1 vs us->us.length=bs.length/\∀i u,us[i]? =some u->u=Value.bool (bs.getD i false)
 |[],_,_,_,e,r,q=>by cases e;cases r;cases q;exact⟨rfl,λi u h=>by simp at h⟩
 |d::ds,ns,_,_,e,r,q=>by
   obtain⟨v,t,rfl,r0,rt⟩:=r
   cases q with
   |cons q0 qt=>
     rcases d with _|n|_|_|_|_|_|_<;>try (cases e;done)
     ·
       replace e:(i7 ds).map (n :: ·)=some ns:=e
       rcases h:i7 ds with _|ms
       ·rw[h]at e;exact J7 e
       ·
         rw[h]at e
         cases e
         obtain⟨h1,h2⟩:=VH h rt qt
         refine⟨by simp[h1],λi u hu=>?_⟩
         cases i with
         |zero=>
           simp at hu;subst hu
           rw[c6 r0]at q0
           exact q0
         |succ i=>simpa using h2 i u (by simpa using hu)
theorem QS(bs:List Bool):((jr bs.length).all λi=>bs.getD i false)=bs.all id:=by
 induction bs with
 |nil=>rfl
 |cons b t ih=>rw[zM,Zy,jU,ZB,jU];simp[Ym];rw[<-ih];simp
theorem AV(bs:List Bool):((jr bs.length).any λi=>bs.getD i false)=bs.any id:=by
 induction bs with
 |nil=>rfl
 |cons b t ih=>rw[zM,Zy,yb,YJ,yb];simp[Ym];rw[<-ih];simp
theorem AL{σ:St}{a:Addr}{its:List zj}(hc:X.calm=true)(I:Inv X pins σ H s)(hl:s.heap.IsList a its.toArray)
 (h:Walks X.prog X.w X.A.in1 s.heap.objs.size [s.heap.objs.size,a] [s.heap.objs.size] its.toArray.size (λi v=>its.toArray[i]? =some v) (λi h=>h.IsListIter s.heap.objs.size a i/\h.IsList a its.toArray)->
   ∀h2:Heap,(h2.IsListIter s.heap.objs.size a 0/\h2.IsList a its.toArray)->(∀b∈ [s.heap.objs.size,a],b<h2.objs.size)->(∀h' tk,(∀b o,b∉ [s.heap.objs.size]->h2.get? b=some o->h'.get? b=some o)->Inv X pins σ H {s with heap:=h',toks:=tk})->Q (.ref s.heap.objs.size) {s with heap:=h2}):
 zC (zH X.prog X.w) X.A.in1 (pyIter (.ref a)) Q E s:=by
 have hlt:a<s.heap.objs.size:=by obtain⟨_,e,_⟩:=hl;exact zu e
 refine xM hl ?_
 have hh:X.A.in1.handled=none:=I.ok.hd hc
 refine h (JN hh s.heap.objs.size a (zF hlt) its.toArray) _ ⟨⟨_,zw _ rfl,rfl,rfl⟩,hl.push _⟩ (λb hb=>?_) λh' tk k=>?_
 · rw[yo]
   simp only[zp,zS,or_false]at hb
   rcases hb with rfl|rfl
   ·exact xP _
   ·exact yD hlt
 ·exact I.kept λb o e=>k b o (by simp only[zk];exact zF (zu e)) (zd _ e)
theorem Dx(hc:X.calm=true):C1 X Z (.builtin "all") u7:=⟨by
 intro pins s σ H xs us Q I r hE0
 obtain⟨ds,μ,G,rl,hr,p⟩:=hE0
 obtain⟨i,rfl⟩:=NP p rfl (λa _ _=>by cases a<;>rfl) rfl (λ_=>rfl) (λ_=>rfl) (λ_=>rfl) (λ_=>rfl) (λ_=>rfl) λ_=>rfl
 · obtain⟨v,rfl,rv⟩:=B1 rl
   obtain⟨u,rfl,ru⟩:=U1 r
   obtain⟨l,a,vs,rfl,rl',q,p2⟩:=BB hr rv p
   cases ru
   obtain⟨bs,en,p3⟩:=V2 p2
   obtain⟨its,rr,pl,hz⟩:=I.list q
   obtain⟨h1,h2⟩:=VH en rl' rr
   refine call_all_walk (AL hc I pl.isList λW g hg hb hk=>⟨_,_,_,_,_,_,λi=>bs.getD i false,rfl,W,hg,λi v s' Q' E' hv hq=>?_,λh' tk k=>?_⟩)
   · rw[h2 i v (by simpa using hv)]
     exact jY hq
   · refine⟨.bl (bs.all id),H,hk h' tk k,?_,d9.ok p3 hr _ ofB⟩
     have e:its.toArray.size=bs.length:=by rw[zi];exact h1
     rw[e,QS];rfl⟩
theorem oY(hc:X.calm=true):C1 X Z (.builtin "any") QC:=⟨by
 intro pins s σ H xs us Q I r hE0
 obtain⟨ds,μ,G,rl,hr,p⟩:=hE0
 obtain⟨i,rfl⟩:=NP p rfl (λa _ _=>by cases a<;>rfl) rfl (λ_=>rfl) (λ_=>rfl) (λ_=>rfl) (λ_=>rfl) (λ_=>rfl) λ_=>rfl
 · obtain⟨v,rfl,rv⟩:=B1 rl
   obtain⟨u,rfl,ru⟩:=U1 r
   obtain⟨l,a,vs,rfl,rl',q,p2⟩:=BB hr rv p
   cases ru
   obtain⟨bs,en,p3⟩:=V2 p2
   obtain⟨its,rr,pl,hz⟩:=I.list q
   obtain⟨h1,h2⟩:=VH en rl' rr
   refine call_any_walk (AL hc I pl.isList λW g hg hb hk=>⟨_,_,_,_,_,_,λi=>bs.getD i false,rfl,W,hg,λi v s' Q' E' hv hq=>?_,λh' tk k=>?_⟩)
   · rw[h2 i v (by simpa using hv)]
     exact jY hq
   · refine⟨.bl (bs.any id),H,hk h' tk k,?_,d9.ok p3 hr _ ofB⟩
     have e:its.toArray.size=bs.length:=by rw[zi];exact h1
     rw[e,AV];rfl⟩
theorem Pc(hg:Gl X x)(hm:X.mg x=none)(hv:zV x=some (.type n))(hn:x≠ "__name__")(hd:(x==("__debug__" :Str))=false):DE X Z (.Name x pos) (cE (.ty n)):=
 GD (v:=.ty n) (uX hg hm hv rfl hn hd) λ_ _=>by unfold f9;rfl
end
def t3:D->M Bool:=λx=>match x with
 | .non=>pure false
 | .bl b=>pure b
 | .int i=>pure (i != 0)
 | .str y=>if y.length<=zg then pure ((y.length:Int) != 0)else M.stuck
 | .tup l=>pure (!l.isEmpty)
 | .ref r=>do
   match <-O4 r with
   | .lst l=>pure (!l.isEmpty)
   | .rol l=>pure (!l.isEmpty)
   | .dct l=>pure (!l.isEmpty)
   | .rod _=>M.stuck
 |_=>M.stuck
def J8(f:Fe):DSt->M Bool:=λσ=>do t3 (<-f σ)
section
theorem rC(r:u9 cc μ H l vs):vs.isEmpty=l.isEmpty:=by
 cases l with
 |nil=>cases r;rfl
 |cons _ _=>obtain⟨_,_,rfl,_⟩:=r;rfl
theorem EL(r:z0 cc μ H l vs):vs.isEmpty=l.isEmpty:=by
 cases l with
 |nil=>cases r;rfl
 |cons _ _=>obtain⟨_,_,rfl,_⟩:=r;rfl
theorem dY(ha:DE X Z a fa)(he:∀whole,isTrue a X.env whole= (do let v <-whole;Jh a.pos;YC [v] (truthy v))):DT X Z a (J8 fa):=
 DT.of (Nk ha.h he) λσ H Q hE0=>hE0.elim λZ6 μ G s h p=>⟨Z6,μ,G,s,h,(d9.bind p).mono λd X1 G1 H1 x1 h1 p1 v rv=>by
  cases d with
  |non=>rw[fD rv];exact⟨false,rfl,d9.ok p1 h1⟩
  |bl b=>rw[c6 rv];exact⟨b,rfl,d9.ok p1 h1⟩
  |int b=>rw[L0 rv];exact⟨_,rfl,d9.ok p1 h1⟩
  |str y=>
    rw[A1 rv]
    unfold t3 at p1
    dsimp only at p1
    split at p1
    ·rename_i hz;exact⟨_,⟨hz,rfl⟩,d9.ok p1 h1⟩
    ·exact p1.elim
  |tup l=>
    unfold f9 at rv
    obtain⟨a,vs,rfl,q,rl⟩:=rv
    exact⟨!vs.isEmpty,.inr (.inl ⟨vs,q,rfl⟩),by rw[rC rl];exact d9.ok p1 h1⟩
  |ref r=>
    unfold f9 at rv
    obtain⟨a,m,rfl⟩:=rv
    obtain⟨o,g,p2⟩:=M7 p1
    have ro:=h1.obj r o a g m
    cases o with
    |lst l=>obtain⟨vs,q,rl⟩:=ro;exact⟨!vs.isEmpty,.inl ⟨vs,SqL.of q,rfl⟩,by rw[rC rl];exact d9.ok p2 h1⟩
    |rol l=>obtain⟨vs,q,rl⟩:=ro;exact⟨!vs.isEmpty,.inl ⟨vs,q.sq,rfl⟩,by rw[rC rl];exact d9.ok p2 h1⟩
    |dct l=>obtain⟨vs,q,rl⟩:=ro;exact⟨!vs.isEmpty,.inr (.inr ⟨vs,q,rfl⟩),by rw[EL rl];exact d9.ok p2 h1⟩
    |rod l=>exact p2.elim
  |_=>exact p1.elim⟩
def d6(o o':D->D->M D)(fa fb fc:Fe):Fe:=λσ=>do
 let x <-fa σ
 let y <-fb σ
 if <-tD (<-o x y)then o' y (<-fc σ)else pure (.bl false)
theorem US(ho:OpD X Z (zT op) o)(ho':OpD X Z (zT op') o')(ha:DE X Z a fa)(hb:DE X Z b fb)(hc:DE X Z c fc)
 (hm:JZ [op,op'] [b,c]=false):DE X Z (.Compare a [op,op'] [b,c] pos) (d6 o o' fa fb fc):=
 DE.of (NT ho.h ho'.h ha.h hb.h hc.h hm) λσ H Q hE0=>hE0.elim λZ6 μ G s h p=>⟨Z6,μ,G,s,h,(d9.bind p).mono λx X1 G1 H1 x1 h1 p1 v rv=>
  ⟨Z6,X1,G1,s.mono x1,h1,(d9.bind p1).mono λy WZ G2 H2 x2 h2 p2 u ru=>⟨x,y,WZ,G2,rv.mono x2,ru,h2,(d9.bind p2).mono λz WP G3 H3 x3 h3 p3 w rw'=>by
   obtain⟨k,rfl,p4⟩:=uI p3
   refine⟨k,c6 rw',?_⟩
   cases k with
   |true=>exact⟨Z6,WP,G3,s.mono (x1.trans (x2.trans x3)),h3,(d9.bind p4).mono λt WM G4 H4 x4 h4 p5 q rq=>⟨y,t,WM,G4,ru.mono (x3.trans x4),rq,h4,p5⟩⟩
   |false=>exact d9.ok p4 h3 _ ofB⟩⟩⟩
end
def BF(osc scope:Scope)(N XN:List Str)(caps:List (Option Nat)):Bool:=
 decide (scope.kind= .function)&&scope.names.all (λy=>decide (y.2≠ .cell))&&scope.names.all (λy=>decide (y.2= .local->scope.names.lookup y.1=some .local)) &&
 scope.names.all (λy=>decide (y.2= .free->(osc.names.lookup y.1=some .cell\/osc.names.lookup y.1=some .free)))&&scope.names.all (λy=>decide (y.2= .free->scope.names.lookup y.1=some .free)) &&
 decide (caps.length=N.length)&&(jr caps.length).all λi=>match caps[i]? with
  |some (some j)=>match N[i]?,XN[j]? with
    |some x,some y=>decide (x=y)&&decide ((x,NameKind.free)∈scope.names)
    |_,_=>false
  |_=>true
theorem A4.of{caps:List (Option Nat)}(h:BF osc scope N XN caps=true)(hs:X.env.scope=osc)(hN:X.N=XN):A4 X scope N caps:=by
 unfold BF at h
 simp only[jt,decide_eq_true_eq,jS]at h
 obtain⟨⟨⟨⟨⟨⟨h1,h2⟩,h3⟩,h4⟩,h5⟩,h6⟩,h7⟩:=h
 refine⟨h1,h2,h3,λy hy e=>?_,h5,h6,λi j e=>?_⟩
 · have:=h4 y hy e
   show X.env.scope.names.lookup y.1=_\/X.env.scope.names.lookup y.1=_
   rw[hs];exact this
 · have hi:i∈jr caps.length:=by rw[xw];exact lt_of_get e
   have q:=h7 i hi
   simp only[e]at q
   rw[hN]
   split at q
   · rename_i x y e1 e2
     simp only[jt,decide_eq_true_eq]at q
     exact⟨x,e1,by rw[e2,q.1],q.2⟩
   ·exact kE q
def J3(m:Nat)(fb:Fs):List D->M D:=λds=>do
 match <-fb (ds.map some++zm (m-ds.length) none) with
 | .nx _=>pure .non
 | .rt d=>pure d
 |_=>M.stuck
structure FF(K:zh)(mg:Str->Option zj)(x:Str)(st:Stmt)(ps:List Str)(f:Addr)(fd:xi):Prop where
 F:Fun K x x st f fd
 b:n4 K fd ps []
 m:mg x=some (.ref f)
theorem uS(r:u9 c μ H ds vs):M6 c μ H (ds.map some++zm (N.length-ds.length) none) (L2.start N vs):=by
 unfold L2.start
 rw[r.length]
 refine⟨by simp[r.length],λi d e=>?_⟩
 by_cases hi:i<ds.length
 · rw[zK (by simpa using hi),zB]at e
   have hd:ds[i]? =some d:=by
    cases h:ds[i]? with
    |none=>rw[h]at e;exact J7 e
    |some d'=>rw[h]at e;simpa using e
   obtain⟨v,hv,rv⟩:=r.get hd
   refine⟨v,?_,rv⟩
   rw[zK (by simp;rw[<-r.length];exact hi),zB,hv]
   rfl
 · rw[yZ (by simpa using hi),Zr]at e
   split at e<;>cases e
theorem uQ{w:jk}{K:zh}{base:Heap}{x:Str}{st:Stmt}{f:Addr}{k n m:Nat}{fb:Fs}(F:FF K mg x st ps f fd)(S:x5 N ps (M5 st))(hn:ps.length=n)(hm:N.length=m)
 (hbody:∀(cdv:zj) (A:jA) (outer:List Env) (s:zv) (H:Hp) (E:XK),U4 k (A.deeper (ZD x (M5 st) s.heap.objs.size f cdv))->DB (l7 CX0 P w K mg base N x (M5 st) f cdv A outer s H E).nox ZF (N4 st) fb):
 M0 P w K mg base CX0 (k+1) f fd ps (spD ⟨K,mg⟩ n (J3 m fb)):=by
 refine F.F.ok S (λvs H Q E h=>by rw[hn];exact h.1) λcdv A outer s H vs Q E hr h=>⟨_,(hbody cdv A outer s H E hr).h,?_⟩
 obtain⟨hl,ds,μ,G,rl,hG,p⟩:=h
 subst hm
 refine⟨_,μ,G,uS rl,hG,(d9.bind p).mono λfl X1 G1 H1 x1 h1 p1=>?_⟩
 cases fl with
 |nx Z6=>exact λσ _=>d9.ok p1 h1 _ ofN
 |rt d=>exact λv rv=>d9.ok p1 h1 v rv
 |bk _=>exact p1.elim
 |ct _=>exact p1.elim
def uF(K:zh):Sp:=λvs H Q _=>∃(a:Addr) (ns:List Int),vs= [.ref a]/\SqL K H a (ns.map V.int)/\UG H/\ns.length<=63/\∀H',Q (.bl true) H'
theorem aR:∀ns:List Int,u9 c μ H (ns.map D.int) (ns.map V.int)
 |[]=>rfl
 |n::t=>⟨.int n,_,rfl,ofI,aR t⟩
theorem Qw{w:jk}{K:zh}{base:Heap}{f:Addr}{k:Nat}(hF:M0 P w K mg base CX0 k f fd ["script"] (spD ⟨K,mg⟩ 1 F))
 (pure:∀ns:List Int,ns.length<=63->∃G',F [.ref 0] [.rol (ns.map D.int)]=some (.ok (.bl true),G')):M0 P w K mg base CX0 k f fd ["script"] (uF K):=
 hF.imp λvs H Q E h=>by
  obtain⟨a,ns,rfl,hS,hO,hl,q⟩:=h
  obtain⟨G',e⟩:=pure ns hl
  refine⟨rfl, [.ref 0], [a], [.rol (ns.map D.int)],⟨.ref a, [],rfl,by unfold f9;exact⟨a,rfl,rfl⟩,rfl⟩,⟨rfl,λi j b e1 e2=>?_,λi o b e1 e2=>?_⟩,?_⟩
  · have h1:=lt_of_get e1
    have h2:=lt_of_get e2
    simp at h1 h2
    left;lia
  · have h1:=lt_of_get e2
    simp at h1
    subst h1
    have e1':o= .rol (ns.map D.int):=by simpa using e1.symm
    have e2':b=a:=by simpa using e2.symm
    subst e1' e2'
    refine⟨ns.map V.int,?_,aR ns⟩
    rcases hS with(hS|⟨o,hS⟩)|hS
    · rcases hO b with z|⟨o,xs,z⟩
      ·rw[z]at hS;exact J7 hS
      ·rw[z]at hS;cases hS
    ·exact .inl ⟨o,hS⟩
    ·exact .inr (.inr hS)
  · rw[e]
    exact λX9 H' _ _ v rv=>by rw[c6 rv];exact q H'
theorem wx:zV "len" =some (.builtin "len"):=by decide +kernel
theorem FV:zV "isinstance" =some (.builtin "isinstance"):=by decide +kernel
theorem fZ:zV "all" =some (.builtin "all"):=by decide +kernel
theorem HR:zV "any" =some (.builtin "any"):=by decide +kernel
theorem vZ:zV "min" =some (.builtin "min"):=by decide +kernel
theorem Wx:zV "abs" =some (.builtin "abs"):=by decide +kernel
theorem gJ:zV "sorted" =some (.builtin "sorted"):=by decide +kernel
theorem qp:zV "tuple" =some (.type "tuple"):=by decide +kernel
theorem RZ:zV "list" =some (.type "list"):=by decide +kernel
theorem LR:zV "int" =some (.type "int"):=by decide +kernel
theorem gW:zV "dict" =some (.type "dict"):=by decide +kernel
theorem qw:zV "zip" =some (.type "zip"):=by decide +kernel
end DL
namespace DL
open PySem L2
def Wp{α:Type}(m:M α)(G:DH)(Q:α->DH->Prop):Prop:=∃a G',m G=some (.ok a,G')/\Q a G'
section
theorem Wp.mono(h:Wp m G Q)(k:∀a G',Q a G'->Q' a G'):Wp m G Q':=let ⟨a,G',e,q⟩:=h;⟨a,G',e,k a G' q⟩
theorem j7:Wp (pure a) G Q↔Q a G:=by
 constructor
 · rintro⟨b,G',e,q⟩
   cases e
   exact q
 ·exact λq=>⟨a,G,rfl,q⟩
theorem SA:Wp (M.stuck:M α) G Q↔False:=by
 constructor
 · rintro⟨b,G',e,q⟩
   exact J7 e
 ·exact yL
theorem j5:Wp (m >>= f) G Q↔Wp m G λa G1=>Wp (f a) G1 Q:=by
 constructor
 · rintro⟨a,G',e,q⟩
   rw[M.bind_eq]at e
   match h:m G,e with
   |some (.ok b,G1),e=>exact⟨b,G1,h,a,G',e,q⟩
 · rintro⟨b,G1,e,a,G',e',q⟩
   exact⟨a,G',by rw[M.bind_ok e];exact e',q⟩
theorem lB(h:m G=some (.ok a,G')):Wp m G Q↔Q a G':=⟨fun⟨b,G2,e,q⟩=>by rw[h]at e;cases e;exact q,λq=>⟨a,G',h,q⟩⟩
theorem L4:Wp (K0 o) G Q↔∃a,o=some a/\Q a G:=by
 rcases o with _|a
 ·
   constructor
   · rintro⟨_,_,e,_⟩
     exact J7 e
   · rintro⟨_,e,_⟩
     exact J7 e
 ·
   constructor
   · rintro⟨_,_,e,q⟩
     cases e
     exact⟨_,rfl,q⟩
   · rintro⟨_,e,q⟩
     cases e
     exact⟨_,_,rfl,q⟩
theorem O5{Q:DO->DH->Prop}:Wp (O4 r) G Q↔∃o,G[r]? =some o/\Q o G:=by
 constructor
 · rintro⟨a,G',e,q⟩
   delta O4 at e
   rcases h:G[r]? with _|o
   ·rw[h]at e;exact J7 e
   ·rw[h]at e;cases e;exact⟨_,rfl,q⟩
 · rintro⟨o,e,q⟩
   refine⟨o,G,?_,q⟩
   delta O4
   rw[e]
theorem R3{Q:DPP}:Wp (N7 o) G Q↔Q (.ref G.length) (G++[o]):=lB rfl
theorem tB{Q:Unit->DH->Prop}:Wp (d4 r o) G Q↔Q () (G.set r o):=lB rfl
end
section
theorem u4:Wp (b8 i σ) G Q↔∃d,σ[i]? =some (some d)/\Q d G:=by
 constructor
 · rintro⟨d,G',e,q⟩
   delta b8 at e
   rcases h:σ[i]? with _|o
   ·rw[h]at e;exact J7 e
   ·
     rw[h]at e
     rcases o with _|d'
     ·exact J7 e
     ·cases e;exact⟨_,rfl,q⟩
 · rintro⟨d,h,q⟩
   exact⟨d,G,by delta b8;rw[h],q⟩
theorem A3:Wp (cE d σ) G Q↔Q d G:=j7
theorem c9:Wp (c7 o a b σ) G Q↔Wp (a σ) G λx G1=>Wp (b σ) G1 λy G2=>Wp (o x y) G2 Q:=by unfold c7;simp only[j5]
theorem mL:Wp (unE o a σ) G Q↔Wp (a σ) G λx G1=>Wp (o x) G1 Q:=by unfold unE;simp only[j5]
theorem i8:Wp (if k=true then m else n) G R↔if k=true then Wp m G R else Wp n G R:=by cases k<;>exact Iff.rfl
theorem SJ:Wp (tD d) G B↔∃k,d= .bl k/\B k G:=by
 constructor
 · rintro⟨k,G',e,q⟩
   rcases d with _|b|_|_|_|_|_|_<;>try (cases e;done)
   ·cases e;exact⟨_,rfl,q⟩
 · rintro⟨k,e,q⟩
   subst e
   exact⟨k,G,rfl,q⟩
theorem cP:Wp (ifE t a b σ) G Q↔Wp (t σ) G λk G1=>if k=true then Wp (a σ) G1 Q else Wp (b σ) G1 Q:=by unfold ifE;simp only[j5,i8]
theorem pB:Wp (m6 a σ) G B↔Wp (a σ) G λx G1=>∃k,x= .bl k/\B k G1:=by unfold m6;simp only[j5,SJ]
theorem X4:Wp (J8 a σ) G B↔Wp (a σ) G λx G1=>Wp (t3 x) G1 B:=by unfold J8;simp only[j5]
theorem uW:Wp (S0 t u σ) G B↔Wp (t σ) G λk G1=>if k=true then Wp (u σ) G1 B else B false G1:=by unfold S0;simp only[j5,i8,j7]
theorem Ng:Wp (orT t u σ) G B↔Wp (t σ) G λk G1=>if k=true then B true G1 else Wp (u σ) G1 B:=by unfold orT;simp only[j5,i8,j7]
theorem fH:Wp (c8 t σ) G B↔Wp (t σ) G λk G1=>B (!k) G1:=by unfold c8;simp only[j5,j7]
theorem m5:Wp (g0 σ) G R↔R [] G:=j7
theorem D6:Wp (d0 a fs σ) G R↔Wp (a σ) G λx G1=>Wp (fs σ) G1 λxs G2=>R (x::xs) G2:=by unfold d0;simp only[j5,j7]
theorem y9:Wp (x0 F fs σ) G Q↔Wp (fs σ) G λds G1=>Wp (F ds) G1 Q:=by unfold x0;simp only[j5]
theorem kB{α:Type}{m:M α}{R:α->DH->Prop}:Wp (noX m) G R↔Wp m G R:=by
 constructor
 · rintro⟨x,G',e,q⟩
   delta noX at e
   rcases h:m G with _|p
   ·rw[h]at e;exact J7 e
   ·
     rw[h]at e
     obtain⟨_|y,G1⟩:=p
     ·exact J7 e
     ·cases e;exact⟨_,_,h,q⟩
 · rintro⟨x,G',e,q⟩
   exact⟨x,G',by delta noX;rw[e],q⟩
theorem U8:Wp (fnX n F ds) G Q↔ds.length=n/\Wp (F ds) G Q:=by
 unfold fnX
 by_cases h:ds.length=n
 ·rw[if_pos h,kB];exact⟨λq=>⟨h,q⟩,λq=>q.2⟩
 ·rw[if_neg h];exact⟨λq=>(SA.mp q).elim,λq=>(h q.1).elim⟩
theorem N5:Wp (J9 fs σ) G Q↔Wp (fs σ) G λxs G1=>xs.length<=zg/\Q (.tup xs) G1:=by
 unfold J9
 simp only[j5]
 constructor
 · rintro⟨xs,G1,e,q⟩
   refine⟨xs,G1,e,?_⟩
   by_cases h:xs.length<=zg
   ·rw[if_pos h]at q;exact⟨h,j7.mp q⟩
   ·rw[if_neg h]at q;exact(SA.mp q).elim
 · rintro⟨xs,G1,e,h,q⟩
   exact⟨xs,G1,e,by dsimp only;rw[if_pos h];exact j7.mpr q⟩
theorem W3:Wp (T7 fs σ) G Q↔Wp (fs σ) G λxs G1=>xs.length<=zg/\Q (.ref G1.length) (G1++[.lst xs]):=by
 unfold T7
 simp only[j5]
 constructor
 · rintro⟨xs,G1,e,q⟩
   refine⟨xs,G1,e,?_⟩
   by_cases h:xs.length<=zg
   ·rw[if_pos h]at q;exact⟨h,R3.mp q⟩
   ·rw[if_neg h]at q;exact(SA.mp q).elim
 · rintro⟨xs,G1,e,h,q⟩
   exact⟨xs,G1,e,by dsimp only;rw[if_pos h];exact R3.mpr q⟩
theorem j0:Wp (m9 σ) G P↔P (.nx σ) G:=j7
theorem d8:Wp (j6 f g σ) G P↔Wp (f σ) G λfl G1=>match fl with
 | .nx X2=>Wp (g X2) G1 P
 |r=>P r G1:=by
 delta j6
 refine Iff.trans j5 ?_
 constructor
 · rintro⟨fl,G1,e,q⟩
   refine⟨fl,G1,e,?_⟩
   cases fl<;>first
    |exact q
    |exact j7.mp q
 · rintro⟨fl,G1,e,q⟩
   refine⟨fl,G1,e,?_⟩
   cases fl<;>first
    |exact q
    |exact j7.mpr q
theorem LA:Wp (t6 a σ) G P↔Wp (a σ) G λd G1=>P (.rt d) G1:=by unfold t6;simp only[j5,j7]
theorem NC:Wp (C7 a σ) G P↔Wp (a σ) G λ_ G1=>P (.nx σ) G1:=by unfold C7;simp only[j5,j7]
theorem C9:Wp (ifS t f g σ) G P↔Wp (t σ) G λk G1=>if k=true then Wp (f σ) G1 P else Wp (g σ) G1 P:=by unfold ifS;simp only[j5,i8]
theorem Z7:Wp (v8 a gg σ) G P↔Wp (a σ) G λd G1=>Wp (gg d σ) G1 λX2 G2=>P (.nx X2) G2:=by unfold v8;simp only[j5,j7]
theorem O1:Wp (y0 i d σ) G S↔S (σ.set i (some d)) G:=j7
theorem iA:Wp (J3 m f ds) G Q↔Wp (f (ds.map some++zm (m-ds.length) none)) G λfl G1=>match fl with
 | .nx _=>Q .non G1
 | .rt d=>Q d G1
 |_=>False:=by
 delta J3
 refine Iff.trans j5 ?_
 constructor
 · rintro⟨fl,G1,e,q⟩
   refine⟨fl,G1,e,?_⟩
   cases fl<;>first
    |exact j7.mp q
    |exact SA.mp q
 · rintro⟨fl,G1,e,q⟩
   refine⟨fl,G1,e,?_⟩
   cases fl<;>first
    |exact j7.mpr q
    |exact SA.mpr q
def rK(o:Option Bool)(g:Bool->Bool)(G:DH):Option (Except Str D×DH):=match o with
 |some b=>some (.ok (.bl (g b)),G)
 |none=>none
theorem LD{g:Bool->Bool}(h:m G=rK o g G):Wp m G Q↔∃k,o=some k/\Q (.bl (g k)) G:=by
 unfold Wp
 rw[h]
 rcases o with _|k
 ·
   constructor
   · rintro⟨_,_,e,_⟩
     exact J7 e
   · rintro⟨_,e,_⟩
     exact J7 e
 ·
   constructor
   · rintro⟨_,_,e,q⟩
     cases e
     exact⟨_,rfl,q⟩
   · rintro⟨_,e,q⟩
     cases e
     exact⟨_,_,rfl,q⟩
theorem dA:Wp (eqD x y) G Q↔∃k,eqN 40 G x y=some k/\Q (.bl k) G:=LD rfl
theorem t4:Wp (neD x y) G Q↔∃k,eqN 40 G x y=some k/\Q (.bl (!k)) G:=LD rfl
theorem RC:Wp (ltD x y) G Q↔∃k,ltN 40 G x y=some k/\Q (.bl k) G:=LD rfl
end
end DL
namespace DL
open PySem PySem.Spec L2
open PyProof.Rows hiding St
section
theorem Nx(hc:X.calm=true)(hi:DI X Z tg iter it)(k:A4 X scope N caps)
 (hg:∀C s H ex,DG (U0 X scope N C s H ex) ZF tg gg) (ht:∀C s H ex,DTs (U0 X scope N C s H ex) ZF ifs tt) (he:∀C s H ex,DE (U0 X scope N C s H ex) ZF elt fe)
 (hs:∀x,yG iter X.env x=pure x) (hgo:DG X Z (.Name y py) g2) (hsw:JY (.ListComp elt [⟨tg,iter,ifs,0⟩] scope pos) (some (.Name y py)) spos.line X.env=pure true):
 DS X Z (.Assign [.Name y py] (.ListComp elt [⟨tg,iter,ifs,0⟩] scope pos) spos) (v8 (N6 it caps gg tt fe) g2):=by
 refine⟨?_⟩
 intro pins s σ H En I hE0
 refine hE0.elim λZ6 μ G sr hr p0=>?_
 obtain⟨Q,hQ,p⟩:∃Q:VK,(∀v H',Q v H'->qB (wc X) Z g2 v σ H' En.nx)/\d9 (wc X) Z μ H (N6 it caps gg tt fe Z6 G) λd X9 _ H'=>∀v,f9 (wc X) X9 H' d v->Q v H':=
  ⟨λv H'=>qB (wc X) Z g2 v σ H' En.nx,λ_ _ z=>z,(d9.bind p0).mono λd X1 G1 H1 x' h1 p1 v rv=>⟨d,Z6,X1,G1,rv,sr.mono x',h1,(d9.bind p1).mono λdσ2 WZ G2 H2 x2 h2 p2 σ2 s2=>d9.ok p2 h2 σ2 s2⟩⟩
 rw[exec_Assign_Name_used _ _ _ _ hsw]
 refine za (ZC (za ?_))
 show zC _ X.A (do let _ <-comprehension (.ListComp elt [⟨tg,iter,ifs,0⟩] scope pos) scope X.env _ (newList []) false (eval iter X.env) (some (ZW (.Name y py) X.env))) _ _ s
 refine za (jE (iM hc hi k hg ht he hs I sr hr p λDD C s4 H' m o hn fin hCn hf q9=>?_) (λ_ s' hq=>zq (zq hq)) λ_ _ e=>e)
 have fC:∀ {H9:Hp},H9 C=none->∀b∈ [C],D0 X pins H9 b:=λ{H9} hn9 b hb=>by
  rw[zk]at hb
  subst hb
  exact hf H9 hn9
 obtain⟨oC,zC1,zC2,hoC,zC3⟩:=id hn
 have I5:=(fin s4.heap ⟨rfl,λ_ _=>rfl⟩).pinned (fC hCn) (λb hb=>by
  rw[zk]at hb
  subst hb
  exact⟨oC,hoC,λv z=>by first|(rw[zC3.1]at z;cases z)|(rw[zC3.2.1]at z;cases z)⟩)
 refine thn (hgo.h _ s4 σ H' (.ref DD) (.ref DD) _ I5 rfl (hQ _ _ q9)) λ_ s5 ⟨σ5,H5,I6,q6⟩=>?_
 obtain⟨g5,g5n,_⟩:=I6.pin (C,oC) (zE _ (zE _ (R4 (by simp) hoC)))
 refine⟨m,hn.at' (λo e=>by rw[hoC]at e;cases e;exact g5),λh'' sb=>⟨σ5,H5,aA I6.unpinned (fC g5n) λb o hb e=>(sb.2 b (by simpa using hb)).trans e,q6⟩⟩
end
def P3:List D->Option (List Str)
 |[]=>some []
 | .str x::r=>(P3 r).map (x :: ·)
 |_=>none
def U5:List (Key×D)->Option (List Str)
 |[]=>some []
 |(.inr x,_)::r=>(U5 r).map (x :: ·)
 |_=>none
def leS(a b:Str):Bool:= !decide (b.cps.toList<a.cps.toList)
def V6(l:List Str):List Str:=l.mergeSort leS
theorem F9:leS a b=true↔a.cps.toList<=b.cps.toList:=by unfold leS;simp
theorem sE(a b c:Str)(h1:leS a b=true)(h2:leS b c=true):leS a c=true:=by
 rw[F9]at *;exact List.le_trans h1 h2
theorem mH(a b:Str):(leS a b||leS b a)=true:=by
 rw[Bool.or_eq_true,F9,F9];exact List.le_total _ _
theorem nF(h1:leS a b=true)(h2:leS b a=true):a=b:=by
 rw[F9]at *
 have e:a.cps.toList=b.cps.toList:=List.le_antisymm h1 h2
 cases a;cases b
 congr 1
 exact xJ.mp e
theorem qM:∀l p,risingS p l=true->(p::l).Pairwise λa b=>leS a b=true
 |[],p,_=>by simp
 |x::r,p,h=>by
   unfold risingS at h
   rw[jt]at h
   have ih:=qM r x h.2
   have hpx:leS p x=true:=by unfold leS;rw[<-ltCps_eq];exact h.1
   refine jf.mpr ⟨λy hy=>?_,ih⟩
   rcases zp.mp hy with rfl|hy
   ·exact hpx
   ·exact sE _ _ _ hpx ((jf.mp ih).1 y hy)
theorem pQ(hp:l'.Perm l)(hs:sortedS l'=true):l'=V6 l:=by
 have h1:l'.Pairwise λa b=>leS a b=true:=by
  rcases l' with _|⟨x,r⟩
  ·simp
  ·exact qM r x hs
 have h2:(V6 l).Pairwise λa b=>leS a b=true:=yH sE mH l
 exact Za (λa b _ _ h1 h2=>nF h1 h2) h1 h2 (hp.trans (jC l leS).symm)
section
theorem tX(K:PySem.W.KdlSrc prog w T r d n P OK)(hh:A.handled=none)(hok:OK s.heap)(hn:n<64)(hP:∀vs:List zj,vs.length=n->(∀(j:Nat) v,vs[j]? =some v->P j v)->StrsAre vs ss)
 (h:∀(h1 h':Heap) (tk e:Nat) out ss',(∀b o,s.heap.get? b=some o->h1.get? b=some o)->(∀b o,h1.get? b=some o->h'.get? b=some o)->h'.get? h1.objs.size=some (jh "list" out.toArray e)->StrsAre out ss'->ss'.Perm ss->sortedS ss'=true->Q (.ref h1.objs.size) {s with heap:=h',toks:=tk}):
 zC (zH prog w) A (call (.builtin "sorted") [.ref r]) Q E s:=by
 have hz:n<=zg:=zI (ym hn) (by decide)
 refine Ze Jb Xp Xr (args_sorted1 _) ?_
 unfold yM.«sorted»
 refine za (zq ?_)
 refine za (Ji K hh hok hz λh1 tk acc hk hacc=>?_)
 have hl:acc.toList.length=n:=by rw[jW];exact hacc.1
 refine za (xm ?_ (by rw[hl];exact hz))
 have hS:StrsAre acc.toList ss:=hP acc.toList hl λj v e=>hacc.2 j v (by rw[<-yr];exact e)
 have hoL:(h1.push (jh "list" acc.toList.toArray 0)).get? h1.objs.size=some (jh "list" acc.toList.toArray 0):=zw _ rfl
 refine za (ju (ye Yz ⟨_,hoL,rfl⟩ Yi (list_sort_treeK strKind_oneLt hoL hS.keysOf (λv₁ v₂ T6 e=>keyKind_strs (by rw[<-e];exact hS)) (by rw[hl];exact hn) λst' a1 a2=>⟨_,rfl,?_⟩) (Js _)))
 obtain⟨ss',b1,b2,b3⟩:=sorted_out_str hS a1 a2
 obtain⟨e,he⟩:=sortedHeap_at hoL
 refine zq ⟨_,rfl,h h1 _ tk e ((Yj st').map (·.2)).toList ss' hk (λb o hb=>?_) (by rw[ZM];exact he) b1 b2 b3⟩
 have hlt:b<h1.objs.size:=zu hb
 rw[sortedHeap_old (zF hlt) (by rw[Xf];exact yD hlt),xt _ _ _ (zF hlt)]
 exact hb
end
def EI:List D->M D:=λds=>match ds with
 |[.ref r]=>do
   match <-O4 r with
   | .dct l=>do
     let ss <-K0 (U5 l)
     if ss.length<64 then N7 (.lst ((V6 ss).map .str))else M.stuck
   |_=>M.stuck
 |_=>M.stuck
section
theorem pK:∀ {l} {ss},U5 l=some ss->ss.length=l.length
 |[],_,e=>by cases e;rfl
 |(.inr x,_)::r,ss,e=>by
  replace e:=show (U5 r).map (_ :: ·)=some _ from e
  rcases h:U5 r with _|t
  ·rw[h]at e;cases e
  ·rw[h]at e;cases e;simp[pK h]
 |(.inl _,_)::_,_,e=>by cases e
theorem lH{w:jk}:∀ {l} {ss:List Str} {kvs} {xs} {vs},U5 l=some ss->z0 c μ H l kvs->KV kvs xs->vs.length=xs.length->
 (∀(j:Nat) (v:zj),vs[j]? =some v->∃k x,xs[j]? =some (k,x)/\(Q9 P w).is k v=true)->StrsAre vs ss
 |[],_,_,xs,vs,e,r,kv,hl,hv=>by
   cases e;cases r;cases kv
   rcases vs with _|⟨_,_⟩
   ·exact .nil
   ·simp at hl
 |(.inr x,d)::t,ss,kvs,xs,vs,e,r,kv,hl,hv=>by
  replace e:=show (U5 t).map (_ :: ·)=some _ from e
  rcases h:U5 t with _|q
  ·rw[h]at e;cases e
  ·
    rw[h]at e
    cases e
    obtain⟨v0,tl,rfl,r0,rt⟩:=r
    cases kv with
    |cons hk ht=>
      cases vs with
      |nil=>simp at hl
      |cons u us=>
        obtain⟨k,y,e1,e2⟩:=hv 0 u rfl
        simp only[zQ,zZ]at e1
        have hk1:(Sum.inr x:Key)=_:=hk.1
        rw[e1]at hk1
        have e3:n9 (.inr x) u=true:=by rw[hk1];exact e2
        rcases O3 e3 with⟨_,_,z,_⟩|⟨x',t',z,eu⟩
        ·cases z
        · cases z
          subst eu
          exact .cons _ _ (lH h rt ht (by simpa using hl) λj v hj=>by simpa using hv (j+1) v (by simpa using hj))
 |(.inl _,_)::_,_,_,_,_,e,_,_,_,_=>by cases e
theorem dG:∀ {out} {ss},StrsAre out ss->∃vs,vs=ss.map V.str/\J1 vs out/\u9 c μ H (ss.map D.str) vs
 |_,_,.nil=>⟨[],rfl,.nil,rfl⟩
 |_,_,.cons x t q=>by
   obtain⟨vs,e,h1,h2⟩:=dG q
   subst e
   exact⟨_,rfl,.cons ⟨t,rfl⟩ h1,_,_,rfl,by unfold f9;rfl,h2⟩
theorem Fj(hc:X.calm=true):C1 X Z (.builtin "sorted") EI:=⟨by
 intro pins s σ H xs us Q I r hE0
 obtain⟨ds,μ,G,rl,hr,p⟩:=hE0
 rcases ds with _|⟨_|_|_|_|_|i|_|_,_|⟨_,_⟩⟩<;>try exact p.elim
 all_goals (delta EI at p;dsimp only at p)
 · obtain⟨v,rfl,rv⟩:=B1 rl
   obtain⟨u,rfl,ru⟩:=U1 r
   unfold f9 at rv
   obtain⟨a,m,rfl⟩:=rv
   cases ru
   obtain⟨o,g,p1⟩:=M7 p
   have ro:=hr.obj i o a g m
   cases o with
   |dct l=>
     obtain⟨kvs,q,rk⟩:=ro
     obtain⟨ss,es,p2⟩:=V2 p1
     split at p2
     case isFalse=>exact p2.elim
     rename_i h64
     obtain⟨z,hd,vs,rel,dd⟩:=CB I.hok q
     obtain⟨ep,hat⟩:=dd.dictAt
     have hn:vs.length=ss.length:=by rw[pK es,<-rel.length,<-rk.length]
     refine tX (JO hd) (I.ok.hd hc) hat (by omega) (λus hl hu=>lH es rk rel (by omega) hu) λh1 h' tk e out ss' k1 k2 he hS hp hs=>?_
     have e2:=pQ hp hs
     subst e2
     obtain⟨ws,ew,rv,rl2⟩:=dG (μ:=μ) hS
     have I1:Inv X pins σ H {s with heap:=h1,toks:=tk}:=I.kept k1
     have hf:=I1.hok.fresh (zo _)
     have hlen:ws.length<=zg:=by
      rw[ew,zc]
      have:=(jC ss leS).length_eq
      have e3:(V6 ss).length=ss.length:=this
      have:(64:Nat)<=zg:=by decide
      omega
     refine⟨.ref h1.objs.size,upd H h1.objs.size (.lst ws),I1.laid k2 (zo _) ⟨hlen,out,e,rv,he⟩,rfl,V3 hr rl2 p2 _ hf⟩
   |lst l=>exact p1.elim
   |rod l=>exact p1.elim
   |rol l=>exact p1.elim⟩
end
def Its(z:Str):It:=⟨λi _=>∃c,z.cps[i]? =some c,λi H x H'=>H'=H/\∃c,z.cps[i]? =some c/\x= .str ⟨#[c]⟩,λi _=>z.cps[i]? =none⟩
theorem Ff{K:zh}(z:Str)(t:Tok)(it:Addr):L6 P w K tg (Its z) [it] it (λi h=>h.IsStrIter it "str_ascii_iterator" z t i) where
 mem:=by simp
 obj:=λi h st b hb=>by
  have e:b=it:=by simpa using hb
  subst e
  obtain⟨o,e,c,d⟩:=st
  exact⟨o,e,λv z=>by rw[d]at z;cases z⟩
 keep:=λi h h' st k=>let ⟨o,ho,r⟩:=st;⟨o,k it (by simp) o ho,r⟩
 item:=by
  intro X hP hw hK hc i pins s σ H E I hf st hg
  subst hP hw hK
  obtain⟨c,hx⟩:=hg
  obtain⟨f0,f1,f2,f3,f4,f5⟩:=hf it (by simp)
  refine wpAny_pyNext_ascii_item st hx λh' st' sb=>?_
  have I1:Inv X pins σ H {s with heap:=h',toks:=s.toks+1}:=I.turned (λb o hb e=>(sb.2 b hb).trans e) f0 f1 f3 f4 f5
  obtain⟨o,e,cc,d⟩:=id st'
  exact⟨_,rfl,VB e cc d (by decide) ⟨.str ⟨#[c]⟩,H,I1,⟨_,rfl⟩,⟨rfl,c,hx,rfl⟩,st',λb hb=>(hf b hb).1⟩⟩
 done:=by
  intro X hP hw hK hc i pins s σ H E I hf st hg
  subst hP hw hK
  obtain⟨f0,f1,f2,f3,f4,f5⟩:=hf it (by simp)
  exact wpAny_pyNext_ascii_end (I.ok.hd hc) st hg λh' eb=>⟨rfl,I.turned (λb o hb e=>eb b o hb e) f0 f1 f3 f4 f5⟩
 self:=λ_ _ _ _ _ st h=>wpAny_pyIter_striter_ascii st h
theorem qv{K:zh}(z:Str)(t:Tok)(it:Addr):L6 P w K tg (Its z) [it] it (λi h=>h.IsStrIter it "str_iterator" z t i) where
 mem:=by simp
 obj:=λi h st b hb=>by
  have e:b=it:=by simpa using hb
  subst e
  obtain⟨o,e,c,d⟩:=st
  exact⟨o,e,λv z=>by rw[d]at z;cases z⟩
 keep:=λi h h' st k=>let ⟨o,ho,r⟩:=st;⟨o,k it (by simp) o ho,r⟩
 item:=by
  intro X hP hw hK hc i pins s σ H E I hf st hg
  subst hP hw hK
  obtain⟨c,hx⟩:=hg
  obtain⟨f0,f1,f2,f3,f4,f5⟩:=hf it (by simp)
  refine wpAny_pyNext_wide_item st hx λh' st' sb=>?_
  have I1:Inv X pins σ H {s with heap:=h',toks:=s.toks+1}:=I.turned (λb o hb e=>(sb.2 b hb).trans e) f0 f1 f3 f4 f5
  obtain⟨o,e,cc,d⟩:=id st'
  exact⟨_,rfl,VB e cc d (by decide) ⟨.str ⟨#[c]⟩,H,I1,⟨_,rfl⟩,⟨rfl,c,hx,rfl⟩,st',λb hb=>(hf b hb).1⟩⟩
 done:=by
  intro X hP hw hK hc i pins s σ H E I hf st hg
  subst hP hw hK
  obtain⟨f0,f1,f2,f3,f4,f5⟩:=hf it (by simp)
  exact wpAny_pyNext_wide_end (I.ok.hd hc) st hg λh' eb=>⟨rfl,I.turned (λb o hb e=>eb b o hb e) f0 f1 f3 f4 f5⟩
 self:=λ_ _ _ _ _ st h=>wpAny_pyIter_striter_wide st h
section
def lC(z:Str):List D:=z.cps.toList.map λc=>.str ⟨#[c]⟩
def ME:D->M Src:=λx=>match x with
 | .str z=>pure ⟨lC z,λ_=>true⟩
 | .tup l=>t5 (.tup l)
 | .ref r=>t5 (.ref r)
 |_=>M.stuck
end
section
end
theorem hV{w:jk}{K:zh}{base:Heap}{CX:CXT}{k n:Nat}{f:Addr}(hn:ps.length=n):M0 P w K mg base CX k f fd ps (spD ⟨K,mg⟩ n λ_=>M.stuck):=
 ⟨λvs H Q E h=>by rw[hn];exact h.1,λA outer s H args us vs Q E hr=>by
  intros
  rename_i h
  first
   |exact h.2.elim
   |(obtain⟨_,_,_,_,_,_,z⟩:=h;exact z.elim)⟩
end DL
namespace W
open PySem PySem.Spec L2 DL
open PyProof.Rows hiding St
theorem st1:([d].map some++zm n none:DSt)[0]? =some (some d):=by rfl
theorem LF{P:Bool->Prop}:(∃k,D.bl b= .bl k/\P k)↔P b:=⟨fun⟨k,e,p⟩=>by cases e;exact p,λp=>⟨b,rfl,p⟩⟩
theorem R5{P:α->Prop}:(∃k,some b=some k/\P k)↔P b:=⟨fun⟨k,e,p⟩=>by cases e;exact p,λp=>⟨b,rfl,p⟩⟩
theorem kc:Wp (gtD (.int i) (.int j)) G Q↔Q (.bl (decide (j<i))) G:=j7
theorem ix_tup:Wp (ixD (.tup l) (.int i)) G Q↔∃d,atI l i=some d/\Q d G:=L4
theorem R6:Wp (t3 (.bl b)) G B↔B b G:=j7
theorem O2:Wp (eqD (.int i) (.int j)) G Q↔Q (.bl (decide (i=j))) G:=by
 have e:eqN 40 G (.int i) (.int j)=some (decide (i=j)):=by rfl
 rw[dA,e];exact R5
theorem R8(h:Wp m G λa G'=>a=x/\G'=G):m G=some (.ok x,G):=by
 obtain⟨a,G',e,e1,e2⟩:=h
 subst e1 e2
 exact e
theorem lO{g:Fg}{e:Fe}{G:DH}{I:DSt->Prop}(hck:ck G=true):∀items (σ:DSt),I σ->
 (∀d∈items,∀ σ,I σ->∃ WY,g d σ G=some (.ok WY,G)/\I WY/\t WY G=some (.ok true,G)/\e WY G=some (.ok (f d),G))->M9 g t e ck items σ G=some (.ok (items.map f),G)
 |[],σ,_,_=>by unfold M9;simp only[hck,if_true,List.map]
 |d::r,σ,i,h=>by
   obtain⟨WY,h1,i1,h2,h3⟩:=h d (by simp) σ i
   have h4:=lO hck r WY i1 λd hd=>h d (by simp[hd])
   unfold M9
   simp only[hck,if_true]
   rw[M.bind_ok h1,M.bind_ok h2,if_pos rfl,M.bind_ok h3,M.bind_ok h4]
   rfl
theorem eD6{it:DSt->M Src}{g:Fg}{e:Fe}{G:DH}{σ:DSt}{s:Src}(I:DSt->Prop)(hs:it σ G=some (.ok s,G))(hn:s.items.length<=zg)(hck:s.ck G=true)(hi:I (T1 caps σ))
 (h:∀d∈s.items,∀ σ,I σ->∃ WY,g d σ G=some (.ok WY,G)/\I WY/\t WY G=some (.ok true,G)/\e WY G=some (.ok (f d),G)):
 Wp (N6 it caps g t e σ) G Q↔Q (.ref G.length) (G++[.lst (s.items.map f)]):=by
 unfold N6
 simp only[j5]
 rw[lB hs,if_pos hn]
 simp only[j5,kB]
 rw[lB (lO hck s.items _ hi h),R3]
theorem lK:∀l:List α,i7 (l.map λx=>D.bl (f x))=some (l.map f)
 |[]=>rfl
 |a::r=>by show (i7 (r.map λx=>D.bl (f x))).map (f a :: ·)=_;rw[lK r];rfl
theorem B9:Wp (ltD (.int i) (.int j)) G Q↔Q (.bl (decide (i<j))) G:=by
 have e:ltN 40 G (.int i) (.int j)=some (decide (i<j)):=by rfl
 rw[RC,e];exact R5
theorem Z2:Wp (O6 (.int i) (.int j)) G Q↔Q (.int (i+j)) G:=j7
theorem Cm(l:List D):DL.cutD l (some 1) none=l.drop 1:=by
 unfold DL.cutD
 rw[HT.sIx_none,show (some (1:Int))=some ((1:Nat):Int)from rfl,HT.sIx_nat]
 rcases l with _|⟨a,r⟩
 ·rfl
 ·simp[zM]
section
theorem E7:Wp (H0 g b ck [] σ) G P↔ck G=true/\P (.nx σ) G:=by
 unfold H0
 constructor
 · rintro⟨a,G',e,q⟩
   by_cases h:ck G=true
   ·simp only[h,if_true]at e;cases e;exact⟨h,q⟩
   ·simp only[h]at e;exact J7 e
 · rintro⟨h,q⟩
   exact⟨_,G,by simp only[h,if_true],q⟩
theorem P7:Wp (H0 g b ck (d::r) σ) G P↔ck G=true/\Wp (g d σ) G λWY G1=>Wp (b WY) G1 λfl G2=>match fl with
 | .nx X2=>Wp (H0 g b ck r X2) G2 P
 | .ct X2=>Wp (H0 g b ck r X2) G2 P
 | .bk X2=>P (.nx X2) G2
 | .rt d=>P (.rt d) G2:=by
 have e:Wp (H0 g b ck (d::r) σ) G P↔ck G=true/\Wp (do
  match <-b (<-g d σ) with
  | .nx X2=>H0 g b ck r X2
  | .ct X2=>H0 g b ck r X2
  | .bk X2=>pure (.nx X2)
  | .rt d=>pure (.rt d):M Fl) G P:=by
  rw[H0]
  constructor
  · rintro⟨a,G',e,q⟩
    by_cases h:ck G=true
    ·simp only[h,if_true]at e;exact⟨h,a,G',e,q⟩
    ·simp only[h]at e;exact J7 e
  · rintro⟨h,a,G',e,q⟩
    exact⟨a,G',by simp only[h,if_true];exact e,q⟩
 rw[e]
 simp only[j5]
 refine and_congr_right λ_=>?_
 constructor
 · rintro⟨WY,G1,e1,fl,G2,e2,q⟩
   refine⟨WY,G1,e1,fl,G2,e2,?_⟩
   cases fl<;>first
    |exact q
    |exact j7.mp q
 · rintro⟨WY,G1,e1,fl,G2,e2,q⟩
   refine⟨WY,G1,e1,fl,G2,e2,?_⟩
   cases fl<;>first
    |exact q
    |exact j7.mpr q
theorem A7:Wp (S1 it g b σ) G P↔Wp (it σ) G λs G1=>Wp (H0 g b s.ck s.items σ) G1 P:=by unfold S1;simp only[j5]
end
theorem kA:Wp (Q1 (.int i) (.int j)) G Q↔Q (.int (i-j)) G:=j7
theorem AK:Wp (neD (.int i) (.int j)) G Q↔Q (.bl (!decide (i=j))) G:=by
 have e:eqN 40 G (.int i) (.int j)=some (decide (i=j)):=by rfl
 rw[t4,e];exact R5
theorem atI_nat{k:Nat}(h:l[k]? =some s):atI l (k:Int)=some s:=by
 have hk:k<l.length:=by
  by_cases hk:k<l.length
  ·exact hk
  ·rw[zO (by omega)]at h;exact J7 h
 unfold atI ixN
 rw[if_pos (by omega),if_pos (by omega)]
 simpa using h
section
theorem u5(h:0<j):Wp (K1 (.int i) (.int j)) G Q↔Q (.int (i % j)) G:=by
 have e:K1 (.int i) (.int j)=if 0<j then pure (.int (i % j))else M.stuck:=rfl
 rw[e,if_pos h];exact j7
theorem M3(h:0<j/\j<2 ^ 100):Wp (M4 (.int i) (.int j)) G Q↔Q (.int (i / j)) G:=by
 have e:M4 (.int i) (.int j)=if fB i j then pure (.int (i / j))else M.stuck:=rfl
 rw[e,if_pos (show fB i j from h)];exact j7
theorem L5(h:L3 i j):Wp (N1 (.int i) (.int j)) G Q↔Q (.int (i*j)) G:=by
 have e:N1 (.int i) (.int j)=if L3 i j then pure (.int (i*j))else M.stuck:=rfl
 rw[e,if_pos h];exact j7
theorem E5{l:List D}(h:G[r]? =some (.lst l)):Wp (ixD (.ref r) (.int i)) G Q↔∃d,atI l i=some d/\Q d G:=by
 have e:ixD (.ref r) (.int i)= (do
  let l <-O4 r >>= DL.listOf
  K0 (atI l i)):=rfl
 rw[e]
 simp only[j5,O5,h,R5,DL.listOf,j7,L4]
theorem nM{d:D}{R:Unit->DH->Prop}(h:G[r]? =some (.lst l))(hj:ixN l.length k=some j):Wp (HA (.ref r) (.int k) d) G R↔R () (G.set r (.lst (l.set j d))):=by
 unfold HA
 simp only[j5,O5,h,R5,hj,tB]
theorem NG:Wp (F1 fo fi d σ) G S↔Wp (fo σ) G λo G1=>Wp (fi σ) G1 λi G2=>Wp (HA o i d) G2 λ_ G3=>S σ G3:=by
 unfold F1;simp only[j5,j7]
end
theorem BH(h:cA i j):Wp (F6 (.int i) (.int j)) G Q↔Q (.int (i ^ j.toNat)) G:=by
 have e:F6 (.int i) (.int j)=if cA i j then pure (.int (i ^ j.toNat))else M.stuck:=rfl
 rw[e,if_pos h];exact j7
theorem p18:Wp (F6 (.int 10) (.int 18)) G Q↔Q (.int 1000000000000000000) G:=by
 rw[BH (by decide)];exact Iff.rfl
theorem Nb:Wp (A6 (.int i)) G Q↔Q (.int (-i)) G:=j7
theorem vE{l:List D}{k:Int}(h0:0<=k)(h1:k<l.length):∃d,d∈l/\atI l k=some d:=by
 obtain⟨n,rfl⟩:=yK h0
 have hn:n<l.length:=by omega
 exact⟨l[n],jd hn,atI_nat (ze hn)⟩
theorem sz{l:List D}(h:Nat.ble l.length 100=true:=by rfl):l.length<=zg:=zI (JG h) (by decide)
theorem lU{G t:DH}:(G++t)[G.length+k]? =t[k]? :=by
 rw[yZ (by omega)];congr 1;omega
theorem Pf{G t:DH}:(G++t)[G.length]? =t[0]? :=lU (k:=0)
section
theorem E6:Wp (mtE t m fo fs σ) G Q↔Wp (fo σ) G λx G1=>Wp (t x) G1 λ_ G2=>Wp (fs σ) G2 λxs G3=>Wp (m x xs) G3 Q:=by
 unfold mtE;simp only[j5]
theorem L9(h:G[r]? =some (.lst l)):Wp (Z3 (.ref r)) G R↔R () G:=by
 delta Z3;exact j5.trans ((O5.trans (by rw[h];exact R5)).trans j7)
theorem ED{l:List D}(h:G[r]? =some (.lst l))(hl:l.length<zg):Wp (l8 (.ref r) [y]) G Q↔Q .non (G.set r (.lst (l++[y]))):=by
 have e:l8 (.ref r) [y]= (do
  let l <-lstM r
  if l.length<zg then do
   let _ <-d4 r (.lst (l++[y]))
   pure .non
  else M.stuck):=rfl
 rw[e]
 unfold lstM
 simp only[j5,O5,h,R5,j7,hl,if_true,tB]
theorem S5{l:List D}(h:G[r]? =some (.lst l)):Wp (T8 [.ref r]) G Q↔Q (.tup l) G:=by
 have e:T8 [.ref r]= (do
  let l <-O4 r >>= DL.listOf
  pure (.tup l)):=rfl
 rw[e]
 simp only[j5,O5,h,R5,DL.listOf,j7]
theorem dU:Wp (qA [.tup l]) G Q↔Q (.ref G.length) (G++[.lst l]):=R3
theorem rng1:Wp (T4 fs σ) G R↔Wp (fs σ) G λxs G1=>Wp (match xs with
 |[.int j]=>if -(2 ^ 62)<=j/\j<2 ^ 62 then pure ⟨K3 0 j.toNat,λ_=>true⟩else M.stuck
 |_=>M.stuck:M Src) G1 R:=by
 delta T4;exact j5
theorem rng1_int(h: -(2 ^ 62)<=j/\j<2 ^ 62):Wp (match [D.int j] with
 |[.int j]=>if -(2 ^ 62)<=j/\j<2 ^ 62 then pure ⟨K3 0 j.toNat,λ_=>true⟩else M.stuck
 |_=>M.stuck:M Src) G R↔R ⟨K3 0 j.toNat,λ_=>true⟩ G:=by
 show Wp (if -(2 ^ 62)<=j/\j<2 ^ 62 then pure ⟨K3 0 j.toNat,λ_=>true⟩else M.stuck:M Src) G R↔_
 rw[if_pos h];exact j7
theorem HC{a b:List D}(ha:G[i]? =some (.lst a))(hb:G[j]? =some (.lst b))(hl:a.length+b.length<=zg):Wp (O6 (.ref i) (.ref j)) G Q↔Q (.ref G.length) (G++[.lst (a++b)]):=by
 have e:O6 (.ref i) (.ref j)= (do
  match <-O4 i,<-O4 j with
  | .lst a,.lst b=>if a.length+b.length<=zg then N7 (.lst (a++b))else M.stuck
  |_,_=>M.stuck):=rfl
 rw[e]
 simp only[j5,O5,ha,hb,R5,if_pos hl,R3]
theorem C5(hl:a.length+b.length<=zg):Wp (O6 (.tup a) (.tup b)) G Q↔Q (.tup (a++b)) G:=by
 have e:O6 (.tup a) (.tup b)=if a.length+b.length<=zg then pure (.tup (a++b))else M.stuck:=rfl
 rw[e,if_pos hl];exact j7
theorem IY:Wp (R9 σ) G R↔R none G:=j7
theorem CZ:Wp (S8 f σ) G R↔Wp (f σ) G λx G1=>∃i,x= .int i/\R (some i) G1:=by
 delta S8
 refine Iff.trans j5 ?_
 constructor
 · rintro⟨x,G1,e,q⟩
   refine⟨x,G1,e,?_⟩
   rcases x with _|_|i|_|_|_|_|_<;>try (exact(SA.mp q).elim;done)
   ·exact⟨i,rfl,j7.mp q⟩
 · rintro⟨x,G1,e,i,rfl,q⟩
   exact⟨_,G1,e,j7.mpr q⟩
theorem sl_tup{lo hi:Option Int}:Wp (slD (.tup l) lo hi) G Q↔Q (.tup (DL.cutD l lo hi)) G:=j7
theorem Qq{P:Int->Prop}:(∃k,D.int i= .int k/\P k)↔P i:=⟨fun⟨k,e,p⟩=>by cases e;exact p,λp=>⟨i,rfl,p⟩⟩
end
theorem j8{G:DH}:(G++[o])[G.length]? =some o:=Pf
theorem V0{G t:DH}{p:Nat}(e:G[p]? =some o):(G++t)[p]? =some o:=by
 have hlt:p<G.length:=by
  by_cases hi:p<G.length
  ·exact hi
  ·rw[zO (by omega)]at e;exact J7 e
 rw[zK hlt];exact e
def Gr(G G':DH):Prop:=G.length<=G'.length/\∀i,i<G.length->G'[i]? =G[i]?
theorem Gr.trans(h:Gr G G1)(k:Gr G1 G2):Gr G G2:=⟨zI h.1 k.1,λi hi=>by rw[k.2 i (by have:=h.1;omega),h.2 i hi]⟩
theorem Gr.app:Gr G (G++t):=⟨by simp,λi hi=>zK hi⟩
theorem Gr.at{p:Nat}(h:Gr G G')(e:G[p]? =some o):G'[p]? =some o:=by
 have hl:p<G.length:=by
  by_cases hi:p<G.length
  ·exact hi
  ·rw[zO (by omega)]at e;cases e
 rw[h.2 p hl];exact e
theorem Qh{σ:DSt}{l:List D}{R:Src->DH->Prop}(e:G[p]? =some (.lst l)):Wp (t5 (.ref p)) G R↔R ⟨l,ckO p (.lst l)⟩ G:=by
 have h:t5 (.ref p)= (do
  let o <-O4 p
  let l <-DL.listOf o
  pure ⟨l,ckO p o⟩):=rfl
 rw[h]
 simp only[j5,O5,e,R5,DL.listOf,j7]
section
theorem Mv:Wp (d6 o o' a b c σ) G Q↔Wp (a σ) G λx G1=>Wp (b σ) G1 λy G2=>Wp (o x y) G2 λz G3=>∃k,z= .bl k/\if k=true then Wp (c σ) G3 λw G4=>Wp (o' y w) G4 Q else Q (.bl false) G3:=by
 unfold d6;simp only[j5,SJ,i8,j7]
theorem W8:Wp (M9 g t e ck [] σ) G R↔ck G=true/\R [] G:=by
 unfold M9
 constructor
 · rintro⟨a,G',e,q⟩
   by_cases h:ck G=true
   ·simp only[h,if_true]at e;cases e;exact⟨h,q⟩
   ·simp only[h]at e;exact J7 e
 · rintro⟨h,q⟩
   exact⟨_,G,by simp only[h,if_true],q⟩
theorem X3:Wp (M9 g t e ck (d::r) σ) G R↔ck G=true/\Wp (g d σ) G λWY G1=>Wp (t WY) G1 λb G2=>if b=true then Wp (e WY) G2 λy G3=>Wp (M9 g t e ck r WY) G3 λys G4=>R (y::ys) G4 else Wp (M9 g t e ck r WY) G2 R:=by
 have h0:Wp (M9 g t e ck (d::r) σ) G R↔ck G=true/\Wp (do
  let WY <-g d σ
  if <-t WY then do
   let y <-e WY
   let ys <-M9 g t e ck r WY
   pure (y::ys)
  else M9 g t e ck r WY:M (List D)) G R:=by
  rw[M9]
  constructor
  · rintro⟨a,G',e,q⟩
    by_cases h:ck G=true
    ·simp only[h,if_true]at e;exact⟨h,a,G',e,q⟩
    ·simp only[h]at e;exact J7 e
  · rintro⟨h,a,G',e,q⟩
    exact⟨a,G',by simp only[h,if_true];exact e,q⟩
 rw[h0]
 simp only[j5,i8,j7]
theorem wp_comp:Wp (N6 it caps g t e σ) G Q↔Wp (it σ) G λs G1=>s.items.length<=zg/\Wp (M9 g t e s.ck s.items (T1 caps σ)) G1 λys G2=>Q (.ref G2.length) (G2++[.lst ys]):=by
 unfold N6
 simp only[j5]
 constructor
 · rintro⟨s,G1,e1,q⟩
   refine⟨s,G1,e1,?_⟩
   by_cases h:s.items.length<=zg
   · rw[if_pos h]at q
     simp only[j5,kB,R3]at q
     exact⟨h,q⟩
   ·rw[if_neg h]at q;exact(SA.mp q).elim
 · rintro⟨s,G1,e1,h,q⟩
   refine⟨s,G1,e1,?_⟩
   dsimp only
   rw[if_pos h]
   simp only[j5,kB,R3]
   exact q
theorem GG(hck:ck G=true)(S:DSt->Prop):∀items σ,S σ->
 (∀d∈items,∀ σ,S σ->∃ WY,g d σ G=some (.ok WY,G)/\S WY/\t WY G=some (.ok (p d),G)/\e WY G=some (.ok d,G))->M9 g t e ck items σ G=some (.ok (items.filter p),G)
 |[],σ,_,_=>by unfold M9;simp only[hck,if_true,List.filter_nil]
 |d::r,σ,i,h=>by
   obtain⟨WY,h1,i1,h2,h3⟩:=h d (by simp) σ i
   have h4:=GG hck S r WY i1 λd hd=>h d (by simp[hd])
   unfold M9
   simp only[hck,if_true]
   rw[M.bind_ok h1,M.bind_ok h2]
   by_cases hp:p d=true
   · rw[if_pos hp,M.bind_ok h3,M.bind_ok h4,List.filter_cons_of_pos hp]
     rfl
   ·rw[if_neg hp,h4,List.filter_cons_of_neg hp]
end
section
theorem vp:Wp (eqD (.str a) (.str b)) G Q↔Q (.bl (a==b)) G:=by
 have e:eqN 40 G (.str a) (.str b)=some (a==b):=by rfl
 rw[dA,e];exact R5
theorem KN:Wp (ltD (.str a) (.str b)) G Q↔Q (.bl (decide (a.cps.toList<b.cps.toList))) G:=by
 have e:ltN 40 G (.str a) (.str b)=some (decide (a.cps.toList<b.cps.toList)):=by rfl
 rw[RC,e];exact R5
theorem MN:Wp (leD (.str a) (.str b)) G Q↔Q (.bl (!decide (b.cps.toList<a.cps.toList))) G:=j7
theorem vI(h:a.length+b.length<=zg):Wp (O6 (.str a) (.str b)) G Q↔Q (.str (a++b)) G:=by
 have e:O6 (.str a) (.str b)=if a.length+b.length<=zg then pure (.str (a++b))else M.stuck:=rfl
 rw[e,if_pos h];exact j7
theorem bA(h:z.length<=zg):Wp (V9 [.str z]) G Q↔Q (.int z.length) G:=by
 have e:V9 [.str z]=if z.length<=zg then pure (.int z.length)else M.stuck:=rfl
 rw[e,if_pos h];exact j7
theorem KL:Wp (nC x y) G Q↔∃k,inB x y G=some k/\Q (.bl (!k)) G:=LD (by unfold nC rK;cases inB x y G<;>rfl)
theorem SE:Wp (inD x y) G Q↔∃k,inB x y G=some k/\Q (.bl k) G:=LD (by unfold inD rK;cases inB x y G<;>rfl)
theorem Dj(e:G[p]? =some (.lst l)):Wp (ME (.ref p)) G R↔R ⟨l,ckO p (.lst l)⟩ G:=Qh (σ:= []) e
end
def IA(c:Nat):Bool:=decide (97<=c)&&decide (c<=122)
def lV(z:Str):Bool:=z.cps.toList.all IA
end W
namespace DL
open PySem PySem.Spec L2
open PyProof.Rows hiding St
theorem pT:Jm (.type "list_reverseiterator") "__len__" =pure none:=by rw[Jd,Yn];kernel_rfl
theorem Wk:Jm (.type "list_reverseiterator") "__length_hint__" =pure (some (.builtin "list_reverseiterator.__length_hint__")):=by rw[Jd,Yn];kernel_rfl
section
theorem fU(hT:s.TypeIs (.ref I) "list_reverseiterator")(h:Q false s):zC (zH prog w) A (Ys (.ref I)) Q E s:=by
 unfold Ys
 refine za (wpAny_specialOf hT pT ?_)
 show zC _ A (specialOf (Value.ref I) (jO "__length_hint__") >>= _) _ _ _
 refine za (wpAny_specialOf hT Wk ?_)
 generalize hid:("list_reverseiterator.__length_hint__" :String)=id0
 wp_delta
 rw[show splitId id0=some ("list_reverseiterator", "__length_hint__")from by subst hid;decide +kernel]
 subst hid
 refine za (wpAny_isInstance (b:=true) hT (by rw[isSubtype_type];kernel_rfl) ?_)
 refine zq ?_
 exact h
theorem Cv(hh:A.handled=none)(hI:s.heap.IsRevIter I l ((items.size:Int)-1))(hl:s.heap.IsList l items)(hne:l≠I)(S:Addr)(hSI:S≠I)(hSl:S≠l)(res:zj)(c₀:Nat)(hS:s.heap.get? S=some {cls:=.type "list",data:=.seq #[] c₀})
 (hR:∀h' tk acc' c',(∀b o,b≠S->b≠I->s.heap.get? b=some o->h'.get? b=some o)->h'.get? S=some {cls:=.type "list",dict:=none,data:=.seq acc' c',slots:= #[]}->ItemsOf (λi v=>items[items.size-1-i]? =some v) acc' items.size->R (.ok (.ret res)) {s with heap:=h',toks:=tk}) (hn:items.size<=zg):
 zC (zH prog w) A.in1 (yJ (.ref S) (.ref I) res)
  (λfin s'=>match fin with| .done f=>R (.ok f) s'| .again c'=>c'.quiet=true/\Zw (zH prog w) A c' R s') (λe s'=>R (.error e) s') s:=by
 have hSf:S∉ [I,l]:=by simp only[zp,zS,or_false,not_or];exact⟨hSI,hSl⟩
 have W:=Walks.listRev (prog:=prog) (w:=w) (A:=A.in1) hh I l hne items
 have st:(0<=items.size/\s.heap.IsRevIter I l ((items.size:Int)-1-((0:Nat):Int))/\s.heap.IsList l items):=⟨zY _,by simpa using hI,hl⟩
 unfold yJ
 refine za (Zj hI.typeIs ?_)
 have h1:YE (.ref S) (.ref I)=false:=by simp[YE,hSI]
 rw[if_neg (by rw[h1];decide)]
 refine za (wpAny_pyIter_revIter hI ?_)
 refine za (ju (fU hI.typeIs ?_))
 refine wpAny_ite_split (λhab=>absurd hab (by decide)) (λ_=>?_)
 refine zq ⟨yI PySem.F.plain_extend_loop _,codeAny_extend_loopS W.toS hn S hSf res items.size 0 _ #[] c₀ rfl (zY _) st hS (ItemsOf.nil _) λs' acc' c' hm hS' hacc=>?_⟩
 rw[Moved.eq_with hm]
 refine hR s'.heap s'.toks acc' c' (λb o hb hbI e=>hm.heap b o (λhmem=>?_) e) hS' hacc
 rcases zp.mp hmem with e'|hmem
 ·exact hb e'
 ·exact hbI (zk.mp hmem)
theorem DV(hh:A.handled=none)(hI:s.heap.IsRevIter I l ((items.size:Int)-1))(hl:s.heap.IsList l items)(hne:l≠I)(S:Addr)(hSI:S≠I)(hSl:S≠l)(hS:s.heap.get? S=some {cls:=.type "list",data:=.seq #[]})
 (hR:∀h' tk acc' c',(∀b o,b≠S->b≠I->s.heap.get? b=some o->h'.get? b=some o)->h'.get? S=some {cls:=.type "list",dict:=none,data:=.seq acc' c',slots:= #[]}->ItemsOf (λi v=>items[items.size-1-i]? =some v) acc' items.size->R (.ok (.ret .none)) {s with heap:=h',toks:=tk}) (hn:items.size<=zg):
 zC (zH prog w) A.in1 (yM.«list.__init__» ⟨[.ref S,.ref I], []⟩)
  (λfin s'=>match fin with| .done f=>R (.ok f) s'| .again c'=>c'.quiet=true/\Zw (zH prog w) A c' R s') (λe s'=>R (.error e) s') s:=by
 show zC _ _ (do let old <-YT (.ref S);Builtin.List.listUpdate (.ref S) (λ_=> #[]);letGo old.toList.reverse;yJ (.ref S) (.ref I) .none) _ _ s
 refine za ?_
 unfold YT
 refine za (jP hS rfl (zq ?_))
 show zC _ _ (updateSeq S (λ_=> #[]) >>= λ_=>letGo (#[]:Array zj).toList.reverse >>= λ_=>yJ (.ref S) (.ref I) .none) _ _ s
 refine za (Ye hS rfl ?_)
 have hS₂:=ZK (jg (λ_=>(#[]:Array zj))) hS rfl
 have oth:∀b o,b≠S->s.heap.get? b=some o->(s.heap.update S (jg (λ_=>(#[]:Array zj)))).get? b=some o:=
  λb o hb e=>(xr _ _ (Ne.symm hb)).trans e
 refine za (xh ?_)
 refine Cv hh (hI.at λo e=>oth I o (Ne.symm hSI) e) (hl.at λo e=>oth l o (Ne.symm hSl) e) hne S hSI hSl .none _ hS₂ (λh' tk acc' c' hk hS' hacc=>?_) hn
 exact hR h' tk acc' c' (λb o hb hbI e=>hk b o hb hbI (oth b o hb e)) hS' hacc
theorem cU(hh:A.handled=none)(hI:s.heap.IsRevIter I l ((items.size:Int)-1))(hl:s.heap.IsList l items)(hne:l≠I)(hn:items.size<=zg)
 (hQ:∀h' tk acc' c',(∀b o,b≠I->s.heap.get? b=some o->h'.get? b=some o)->h'.get? s.heap.objs.size=some {cls:=.type "list",dict:=none,data:=.seq acc' c',slots:= #[]}->ItemsOf (λi v=>items[items.size-1-i]? =some v) acc' items.size->Q (.ref s.heap.objs.size) {s with heap:=h',toks:=tk}):
 zC (zH prog w) A (call (.type "list") [.ref I]) Q E s:=by
 refine callType_codes (Q₁:=λobj X0=>obj= .ref s.heap.objs.size/\X0= {s with heap:=s.heap.push {cls:=.type "list",data:=.seq #[]}}) PySem.F.called_list (PySem.F.typeCall_list_1 _) PySem.F.entry_list_init
  (code_list_new _ ⟨rfl,rfl⟩) λobj X0 h₁=>?_
 obtain⟨rfl,rfl⟩:=h₁
 have hS:(s.heap.push {cls:=.type "list",data:=.seq #[]}).get? s.heap.objs.size=some {cls:=.type "list",data:=.seq #[]}:=zw _ rfl
 have hltI:I<s.heap.objs.size:=by obtain⟨_,e,_⟩:=hI;exact zu e
 have hltl:l<s.heap.objs.size:=by obtain⟨_,e,_⟩:=hl;exact zu e
 refine⟨⟨_,hS,rfl⟩,PySem.F.args_list_init_2 _ _,DV (A:=A.in1) hh (hI.at λo e=>zd _ e) (hl.at λo e=>zd _ e) hne _ (xf hltI) (xf hltl) hS (λh' tk acc' c' hk hS' hacc=>?_) hn⟩
 exact⟨rfl,hQ h' tk acc' c' (λb o hbI e=>hk b o (zF (zu e)) hbI (zd _ e)) hS' hacc⟩
end
def mC:D->M D:=λx=>match x with
 | .ref r=>do
   let l <-O4 r >>= listOf
   N7 (.lst l.reverse)
 |_=>M.stuck
section
theorem Vf{its:List zj}(h:ItemsOf (λi v=>its.toArray[its.toArray.size-1-i]? =some v) acc its.toArray.size):acc.toList=its.reverse:=by
 have hl:acc.toList.length=its.length:=by rw[jW,h.1];simp
 apply Zm
 intro i
 by_cases hi:i<its.length
 · have hi':i<acc.size:=by rw[h.1];simpa using hi
   have hv:=h.2 i acc[i] (xb hi')
   rw[List.getElem?_reverse hi,yr,xb hi',<-hv]
   simp
 ·rw[zO (by lia),zO (by rw[JV];lia)]
theorem Gp(he:DE X Z e fa)(hc:X.calm=true)(hg1:Gl X "list")(hm1:X.mg "list" =none)(hg2:Gl X "reversed")(hm2:X.mg "reversed" =none)
 (hs1:zP [Expr.Call (.Name "reversed" p2) [e] [] pos2] X.env= [(false,eval (.Call (.Name "reversed" p2) [e] [] pos2) X.env)]) (hs2:zP [e] X.env= [(false,eval e X.env)])
 (hb1:zV "list" =some (.type "list"):=by first|rfl|decide +kernel) (hb2:zV "reversed" =some (.type "reversed"):=by first|rfl|decide +kernel):
 DE X Z (.Call (.Name "list" p1) [.Call (.Name "reversed" p2) [e] [] pos2] [] pos1) (unE mC fa):=by
 refine⟨?_⟩
 intro pins s σ H Q I hE0
 refine hE0.elim λZ6 μ G sr h p=>?_
 refine Call_ (B6 I hg1 hm1 hb1 (yd ?_ hs1 rfl))
 rw[hs1]
 refine xZ (Call_ (B6 I hg2 hm2 hb2 (yd ?_ hs2 rfl)))
 rw[hs2]
 refine xZ (thn (he.h pins s σ H _ I ⟨Z6,μ,G,sr,h,(d9.bind p).mono λd X1 G1 H1 x1 h1 p1 v rv=>(⟨d,X1,G1,rv,h1,p1⟩:gG (wc X) Z mC v H1 Q)⟩) λv s1 ⟨x,H1,I1,r1,d,X1,G1,rd,h1,p1⟩=>?_)
 refine Zh ?_
 rcases d with _|_|_|_|_|r|_|_<;>try (exact p1.elim;done)
 ·
   obtain⟨l,a,vs,rfl,rl,hq,p2⟩:=BB h1 rd p1
   cases r1
   obtain⟨its,rr,ht,hz⟩:=I1.list hq
   refine call_reversed_list ht.isList ?_
   refine Zh ?_
   have hlt:a<s1.heap.objs.size:=by obtain⟨_,e,_⟩:=ht.isList;exact zu e
   have hI:(s1.heap.push (revObj a ((its.toArray.size:Int)-1))).IsRevIter s1.heap.objs.size a ((its.toArray.size:Int)-1):=⟨_,zw _ rfl,rfl,rfl⟩
   refine cU (I.ok.hd hc) hI (ht.isList.push _) (zF hlt) (by rw[zi,<-rr.length];exact hz) λh' tk acc' c' hk hS' hacc=>?_
   have e2:=Vf hacc
   have hD:s1.heap.objs.size<=(s1.heap.push (revObj a ((its.toArray.size:Int)-1))).objs.size:=by rw[yo];exact JU _
   have hf:=I1.hok.fresh hD
   have hS2:h'.get? (s1.heap.push (revObj a ((its.toArray.size:Int)-1))).objs.size=some {cls:=.type "list",data:=.seq its.reverse.toArray c'}:=by
    rw[hS',<-e2,ZM]
   exact⟨.ref _,upd H1 _ (.lst vs.reverse),I1.laid (λb u q=>hk b u (zF (zu q)) (zd _ q)) hD ⟨by rw[JV];exact hz,its.reverse,c',rr.reverse,hS2⟩,rfl,V3 h1 rl.reverse p2 _ hf⟩
end
end DL
namespace DL
open PySem PySem.Spec L2 Builtin Builtin.Str
open PyProof.Rows hiding St
section
variable{X:Cx}{Z:XC}{e:Expr}{fa:Fe}{p2 pos:Pos}{lo hi:Option Expr}{fl fh:Fo}
theorem KK(p:IsPart v o):∃l:Option (Int×Tok),v=partValue l/\l.map (·.1)=o:=by
 cases p with
 |none=>exact⟨none,rfl,rfl⟩
 |int i t=>exact⟨some (i,t),rfl,rfl⟩
theorem Hj:SlR X (λx lo hi H Q=>∃z,x= .str z/\z.length<=zg/\Q (.str (yA z lo hi)) H):=by
 intro pins s σ H x v vl vu lo hi sl Q I rx hs pl pu h
 obtain⟨z,rfl,hz,q⟩:=h
 obtain⟨t,rfl⟩:=rx
 obtain⟨l,el,eml⟩:=KK pl
 obtain⟨u,eu,emu⟩:=KK pu
 subst el eu eml emu
 refine⟨"str",_,PySem.F.slot_str_getitem.lookup,YZ _ z t,?_⟩
 refine wpAny_getItem_str_slice (st:=none) (let ⟨o,h1,h2,h3⟩:=hs;⟨o,h1,h2,h3⟩) rfl ?_
 unfold sliceMade
 unfold yA at q
 unfold slicePicked
 have e1:((Option.map (λx:Int×Tok=>x.1) none).getD 1)= (1:Int):=rfl
 simp only[e1]
 by_cases hc:((1:Int)==1&&(strSliceIndices (l.map (·.1)) (u.map (·.1)) 1 z.length).length==z.length)=true
 · rw[if_pos hc]at q
   rw[if_pos hc]
   exact⟨.str z,H,I,⟨t,rfl⟩,q⟩
 · rw[if_neg hc]at q
   rw[if_neg hc]
   refine⟨?_,.str _,H,I.tok _,⟨_,rfl⟩,q⟩
   have hle:=Txt.slice_le z (l.map (·.1)) (u.map (·.1))
   unfold yA at hle
   rw[if_neg hc]at hle
   exact zI hle hz
def slT:D->Option Int->Option Int->M D:=λx lo hi=>match x with
 | .str z=>if z.length<=zg then pure (.str (yA z lo hi))else M.stuck
 | .tup l=>slD (.tup l) lo hi
 | .ref r=>slD (.ref r) lo hi
 |_=>M.stuck
def R1(f:Fe)(lo hi:Fo):Fe:=λσ=>do
 let x <-f σ
 let l <-lo σ
 let h <-hi σ
 slT x l h
theorem Cc:SlD X Z slT:=SlR.mono (Hj.or (Kx)) λx lo hi H Q ⟨dx,μ,G,rx,hr,p⟩=>by
 rcases dx with _|_|_|z|l|r|_|_<;>try (exact p.elim;done)
 ·
   unfold slT at p
   dsimp only at p
   split at p
   · rename_i hz
     exact .inl ⟨z,A1 rx,hz,d9.ok p hr _ (by unfold f9;rfl)⟩
   ·exact p.elim
 ·exact .inr ⟨.tup l,μ,G,rx,hr,p⟩
 ·exact .inr ⟨.ref r,μ,G,rx,hr,p⟩
theorem dD5(he:DE X Z e fa)(hl:DOp X Z lo fl)(hu:DOp X Z hi fh):DE X Z (.Subscript e (.Slice lo hi none p2) pos) (R1 fa fl fh):=
 DE.of (Sc Cc he.h hl.h hu.h) λσ H Q hE0=>hE0.elim λZ6 μ G s h p=>⟨Z6,μ,G,s,h,(d9.bind p).mono λd X1 G1 H1 x1 h1 p1 v rv=>
  ⟨Z6,X1,G1,s.mono x1,h1,(d9.bind p1).mono λl WZ G2 H2 x2 h2 p2=>⟨Z6,WZ,G2,s.mono (x1.trans x2),h2,(d9.bind p2).mono λu WP G3 H3 x3 h3 p3=>⟨d,WP,G3,rv.mono (x2.trans x3),h3,p3⟩⟩⟩⟩
end
section
end
end DL
namespace W
open PySem PySem.Spec L2 DL Builtin Builtin.Str
open PyProof.Rows hiding St
section
theorem TK{lo hi:Fo}:Wp (R1 f lo hi σ) G Q↔Wp (f σ) G λx G1=>Wp (lo σ) G1 λl G2=>Wp (hi σ) G2 λh G3=>Wp (slT x l h) G3 Q:=by
 unfold R1;simp only[j5]
theorem sW{lo hi:Option Int}(h:z.length<=zg):Wp (slT (.str z) lo hi) G Q↔Q (.str (yA z lo hi)) G:=by
 have e:slT (.str z) lo hi=if z.length<=zg then pure (.str (yA z lo hi))else M.stuck:=rfl
 rw[e,if_pos h];exact j7
theorem Hg(e:G[r]? =some (.lst l)):Wp (mC (.ref r)) G Q↔Q (.ref G.length) (G++[.lst l.reverse]):=by
 have h:mC (.ref r)= (do
  let l <-O4 r >>= DL.listOf
  N7 (.lst l.reverse)):=rfl
 rw[h]
 simp only[j5,O5,e,R5,DL.listOf,j7,R3]
end
end W
namespace DL
open PySem PySem.Spec L2
open PyProof.Rows hiding St
def D3:D->D->M D:=λx y=>match y with
 | .non=>pure (.bl (NI x))
 | .bl c=>match x with
   | .bl d=>pure (.bl (d==c))
   |_=>M.stuck
 |_=>M.stuck
def F7:D->D->M D:=λx y=>match y with
 | .non=>pure (.bl (!NI x))
 | .bl c=>match x with
   | .bl d=>pure (.bl (d != c))
   |_=>M.stuck
 |_=>M.stuck
def N9(a b:Fe):Fe:=λσ=>do
 let x <-a σ
 if <-t3 x then pure x else b σ
def B2(a b:Fe):Fe:=λσ=>do
 let x <-a σ
 if <-t3 x then b σ else pure x
section
theorem UT:OpR X (zT .Is) (λx y H Q=>(y= .non/\Q (.bl (decide (x= .non))) H)\/∃c d,x= .bl c/\y= .bl d/\Q (.bl (c==d)) H):=by
 intro pins s σ H x y v u Q I rx ry h
 rcases h with h|⟨c,d,rfl,rfl,q⟩
 ·exact Bq pins s σ H x y v u Q I rx ry h
 · cases rx
   cases ry
   exact is_bool ⟨.bl (c==d),H,I,rfl,q⟩
theorem Mh:OpR X (zT .IsNot) (λx y H Q=>(y= .non/\Q (.bl (!decide (x= .non))) H)\/∃c d,x= .bl c/\y= .bl d/\Q (.bl (c != d)) H):=by
 intro pins s σ H x y v u Q I rx ry h
 rcases h with h|⟨c,d,rfl,rfl,q⟩
 ·exact oT pins s σ H x y v u Q I rx ry h
 · cases rx
   cases ry
   exact isnot_bool ⟨.bl (c != d),H,I,rfl,q⟩
theorem mV:OpD X Z (zT .Is) D3:=OpD.of UT λx y H Q hE0=>hE0.elim λdx dy μ G rdx rdy hr p=>by
 rcases dy with _|d|_|_|_|_|_|_<;>try (exact p.elim;done)
 ·exact .inl ⟨fD rdy,by rw[BL rdx];exact d9.ok p hr _ ofB⟩
 ·
   rcases dx with _|c|_|_|_|_|_|_<;>try (exact p.elim;done)
   ·exact .inr ⟨c,d,c6 rdx,c6 rdy,d9.ok p hr _ ofB⟩
theorem Lp:OpD X Z (zT .IsNot) F7:=OpD.of Mh λx y H Q hE0=>hE0.elim λdx dy μ G rdx rdy hr p=>by
 rcases dy with _|d|_|_|_|_|_|_<;>try (exact p.elim;done)
 ·exact .inl ⟨fD rdy,by rw[BL rdx];exact d9.ok p hr _ ofB⟩
 ·
   rcases dx with _|c|_|_|_|_|_|_<;>try (exact p.elim;done)
   ·exact .inr ⟨c,d,c6 rdx,c6 rdy,d9.ok p hr _ ofB⟩
theorem RM{G:DH}{d:D}{v:V}{f:Bool->M α}{K:α->List Addr->DH->Hp->Prop}(h:J0 (wc X) μ G H)(rv:f9 (wc X) μ H d v)(p:d9 (wc X) Z μ H ((t3 d >>= f) G) K):
 ∃k,FK X.K v H k/\d9 (wc X) Z μ H (f k G) K:=by
 have p1:=d9.bind p
 rcases d with _|b|b|y|l|r|_|_<;>try (exact p1.elim;done)
 ·rw[fD rv];exact⟨false,rfl,d9.ok p1 h⟩
 ·rw[c6 rv];exact⟨b,rfl,d9.ok p1 h⟩
 ·rw[L0 rv];exact⟨_,rfl,d9.ok p1 h⟩
 ·
   rw[A1 rv]
   unfold t3 at p1
   dsimp only at p1
   split at p1
   ·rename_i hz;exact⟨_,⟨hz,rfl⟩,d9.ok p1 h⟩
   ·exact p1.elim
 ·
   unfold f9 at rv
   obtain⟨a,vs,rfl,q,rl⟩:=rv
   exact⟨!vs.isEmpty,.inr (.inl ⟨vs,q,rfl⟩),by rw[rC rl];exact d9.ok p1 h⟩
 ·
   unfold f9 at rv
   obtain⟨a,m,rfl⟩:=rv
   obtain⟨o,g,p2⟩:=M7 p1
   have ro:=h.obj r o a g m
   rcases o with l|l|l|l
   ·obtain⟨vs,q,rl⟩:=ro;exact⟨!vs.isEmpty,.inl ⟨vs,SqL.of q,rfl⟩,by rw[rC rl];exact d9.ok p2 h⟩
   ·obtain⟨vs,q,rl⟩:=ro;exact⟨!vs.isEmpty,.inl ⟨vs,q.sq,rfl⟩,by rw[rC rl];exact d9.ok p2 h⟩
   ·obtain⟨vs,q,rl⟩:=ro;exact⟨!vs.isEmpty,.inr (.inr ⟨vs,q,rfl⟩),by rw[EL rl];exact d9.ok p2 h⟩
   ·exact p2.elim
theorem qT{T6:List Expr}(ha:DE X Z a fa)(hb:DE X Z (.BoolOp .Or (b::T6) pos) fb):DE X Z (.BoolOp .Or (a::b::T6) pos) (N9 fa fb):=by
 refine⟨?_⟩
 intro pins s σ H Q I hE0
 refine hE0.elim λZ6 μ G sr h p=>?_
 refine BoolOp_or (thn (ha.h pins s σ H _ I ⟨Z6,μ,G,sr,h,(d9.bind p).mono λd X1 G1 H1 x1 h1 p1 v rv=>(⟨d,X1,G1,x1,rv,h1,p1⟩:∃d X1 G1,Ext μ H X1 H1/\f9 (wc X) X1 H1 d v/\J0 (wc X) X1 G1 H1/\d9 (wc X) Z X1 H1 ((t3 d >>= λk=>if k=true then pure d else fb Z6) G1) λd X9 _ H'=>∀v,f9 (wc X) X9 H' d v->Q v H')⟩) λv s1 ⟨x,H1,I1,r1,d,X1,G1,x1,rd,h1,p1⟩=>?_)
 obtain⟨k,tk,p2⟩:=RM h1 rd p1
 refine thn (uK pins s1 σ H1 x v (λc H'=>c=k/\H'=H1) I1 r1 ⟨k,tk,rfl,rfl⟩) λc s2 ⟨H2,I2,e1,e2⟩=>?_
 subst e1 e2
 rcases c with _|_
 ·exact hb.h pins s2 σ H2 Q I2 ⟨Z6,X1,G1,sr.mono x1,h1,p2⟩
 ·exact⟨x,H2,I2,r1,d9.ok p2 h1 _ rd⟩
theorem wg{T6:List Expr}(ha:DE X Z a fa)(hb:DE X Z (.BoolOp .And (b::T6) pos) fb):DE X Z (.BoolOp .And (a::b::T6) pos) (B2 fa fb):=by
 refine⟨?_⟩
 intro pins s σ H Q I hE0
 refine hE0.elim λZ6 μ G sr h p=>?_
 refine BoolOp_and (thn (ha.h pins s σ H _ I ⟨Z6,μ,G,sr,h,(d9.bind p).mono λd X1 G1 H1 x1 h1 p1 v rv=>(⟨d,X1,G1,x1,rv,h1,p1⟩:∃d X1 G1,Ext μ H X1 H1/\f9 (wc X) X1 H1 d v/\J0 (wc X) X1 G1 H1/\d9 (wc X) Z X1 H1 ((t3 d >>= λk=>if k=true then fb Z6 else pure d) G1) λd X9 _ H'=>∀v,f9 (wc X) X9 H' d v->Q v H')⟩) λv s1 ⟨x,H1,I1,r1,d,X1,G1,x1,rd,h1,p1⟩=>?_)
 obtain⟨k,tk,p2⟩:=RM h1 rd p1
 refine thn (uK pins s1 σ H1 x v (λc H'=>c=k/\H'=H1) I1 r1 ⟨k,tk,rfl,rfl⟩) λc s2 ⟨H2,I2,e1,e2⟩=>?_
 subst e1 e2
 rcases c with _|_
 ·exact⟨x,H2,I2,r1,d9.ok p2 h1 _ rd⟩
 ·exact hb.h pins s2 σ H2 Q I2 ⟨Z6,X1,G1,sr.mono x1,h1,p2⟩
end
end DL
namespace W
open PySem PySem.Spec L2 DL
open PyProof.Rows hiding St
section
theorem vN:Wp (N9 a b σ) G Q↔Wp (a σ) G λx G1=>Wp (t3 x) G1 λk G2=>if k=true then Q x G2 else Wp (b σ) G2 Q:=by unfold N9;simp only[j5,i8,j7]
theorem nE:Wp (B2 a b σ) G Q↔Wp (a σ) G λx G1=>Wp (t3 x) G1 λk G2=>if k=true then Wp (b σ) G2 Q else Q x G2:=by unfold B2;simp only[j5,i8,j7]
end
end W
namespace DL
open PySem PySem.Spec L2
open PyProof.Rows hiding St
structure C8(F:List D->M D)(n:Nat)(x:Str)(P:zW)(w:jk)(K:zh)(mg:Str->Option zj)(base:Heap)(k:Nat):Prop where
 ex:∃f fd ps,M0 P w K mg base CX0 k f fd ps (spD ⟨K,mg⟩ n F)/\mg x=some (.ref f)/\ya K (.ref f)=true/\n4 K fd ps []
theorem C8.of{P:zW}{w:jk}{K:zh}{base:Heap}{k n:Nat}{x:Str}{st:Stmt}{f:Addr}(c:FF K mg x st ps f fd)(h:M0 P w K mg base CX0 k f fd ps (spD ⟨K,mg⟩ n F)):C8 F n x P w K mg base k:=
 ⟨f,fd,ps,h,c.m,c.F.kp,c.b⟩
def bltL:List Str:= ["len", "isinstance", "all", "any", "sum", "min", "max", "abs", "sorted", "tuple", "list", "int", "str", "bool", "dict", "zip", "enumerate", "range", "reversed", "set"]
structure BLs(mg:Str->Option zj):Prop where
 h:∀b∈bltL,mg b=none
theorem iD:(yS p l).any (·.1)=l.any (·.1):=by
 unfold yS
 rw[YJ]
 rfl
theorem cB:∀ {es},es.all Z4=true->(zP es env).any (·.1)=false
 |[],_=>rfl
 |e::es,h=>by
   rw[jU,jt]at h
   rw[B5 h.1,yb,cB h.2]
   rfl
section
theorem Dq(hN:∃N ps sc,x5 N ps sc/\X.N=N)(hi:X.N[i]? =some x)(hx:Loc X.env.scope x)(hf:X.fn x=true\/X.env.scope.names.lookup x=some .local):DG X Z (.Name x pos) (y0 i):=by
 obtain⟨N,ps,sc,S,e⟩:=hN
 exact pO (by rw[e];exact S.nd) hi hx hf
theorem FX(ha:DE X Z e fa)(hr:DA X Z es fs)(hs:Z4 e=true):DA X Z (e::es) (d0 fa fs):=LJ ha hr (B5 hs)
theorem LZ(hF:∃k kk,C8 F n x X.prog X.w X.K X.mg X.base k/\U4 kk X.A/\k<=kk)(hg:Gl X x)(ha:DA X Z (e::es) fs)(hdb:(x==("__debug__" :Str))=false)(hs:(e::es).all Z4=true):
 DE X Z (.Call (.Name x p) (e::es) [] pos) (x0 (fnX n F) fs):=by
 obtain⟨k,kk,hF,hr,hk⟩:=hF
 obtain⟨f,fd,ps,h1,h2,h3,h4⟩:=hF.ex
 rw[jU,jt]at hs
 exact Qk h1 (hr.mono hk) hg h2 h3 h4 ha hdb (B5 hs.1) (by rw[iD];exact cB hs.2)
structure BD(F:List D->M D)(x:Str)(X:Cx)(Z:XC):Prop where
 ex:(∃id,C1 X Z (.builtin id) F/\zV x=some (.builtin id))\/(∃T,C1 X Z (.type T) F/\zV x=some (.type T))
theorem Lk(hc:X.calm=true)(hF:X.calm=true->BD F x X Z)(hb:BLs X.mg)(hx:bltL.elem x=true)(hg:Gl X x)(ha:DA X Z (e::es) fs)(hn:x≠ "__name__")(hdb:(x==("__debug__" :Str))=false)(hs:(e::es).all Z4=true):
 DE X Z (.Call (.Name x p) (e::es) [] pos) (x0 F fs):=by
 have hm:=hb.h x (List.elem_iff.mp hx)
 rw[jU,jt]at hs
 rcases (hF hc).ex with⟨id,h1,h2⟩|⟨T,h1,h2⟩
 ·exact iT h1 hg hm h2 ha hn hdb (B5 hs.1) (by rw[iD];exact cB hs.2)
 ·exact IW h1 hg hm h2 ha hn hdb (B5 hs.1) (by rw[iD];exact cB hs.2)
theorem MW(_:X.calm=true):BD V9 "len" X Z:=⟨.inl ⟨_,UY,wx⟩⟩
theorem FR(_:X.calm=true):BD O8 "isinstance" X Z:=⟨.inl ⟨_,sU,FV⟩⟩
theorem EZ(h:X.calm=true):BD u7 "all" X Z:=⟨.inl ⟨_,Dx h,fZ⟩⟩
theorem Dz(h:X.calm=true):BD QC "any" X Z:=⟨.inl ⟨_,oY h,HR⟩⟩
theorem HX(_:X.calm=true):BD C3 "abs" X Z:=⟨.inl ⟨_,OZ,Wx⟩⟩
theorem GY(_:X.calm=true):BD T8 "tuple" X Z:=⟨.inr ⟨_,VX,qp⟩⟩
theorem GR(_:X.calm=true):BD qA "list" X Z:=⟨.inr ⟨_,IT,RZ⟩⟩
theorem Wv(_:X.calm=true):BD l9 "int" X Z:=⟨.inr ⟨_,EU,LR⟩⟩
theorem Qz:∀n∈ ["int", "bool", "str", "tuple", "list", "dict"],zV (jO n)=some (.type n):=by decide +kernel
theorem pR(hb:BLs X.mg)(hn:n∈ ["int", "bool", "str", "tuple", "list", "dict"])(hx:bltL.elem (jO n)=true)(hg:Gl X (jO n))(hnn:jO n≠ "__name__")(hd:(jO n==("__debug__" :Str))=false):DE X Z (.Name (jO n) pos) (cE (.ty n)):=
 Pc hg (hb.h _ (List.elem_iff.mp hx)) (Qz n hn) hnn hd
theorem Gj(he:DE X Z e fa)(hc:X.calm=true)(hb:BLs X.mg)(hg1:Gl X "list")(hg2:Gl X "reversed")(hs:Z4 e=true):DE X Z (.Call (.Name "list" p1) [.Call (.Name "reversed" p2) [e] [] pos2] [] pos1) (unE mC fa):=
 Gp he hc hg1 (hb.h _ (by decide +kernel)) hg2 (hb.h _ (by decide +kernel)) (rA rfl) (rA hs)
theorem fB3(hb:BLs X.mg)(hg:Gl X "range")(ha:DA X Z [a] fs)(hs:Z4 a=true):DI X Z tg (.Call (.Name "range" p) [a] [] pos) (T4 fs):=Kb hg (hb.h _ (by decide +kernel)) ha (rA hs)
theorem vc(hb:BLs X.mg)(hg:Gl X "zip")(ha:DA X Z [a,b] fs)(hs:Z4 a=true)(hs2:Z4 b=true):DI X Z (.Tuple es1 x1 tp) (.Call (.Name "zip" p) [a,b] [] pos) (wC fs):=HW hg (hb.h _ (by decide +kernel)) ha (Mb hs hs2) (rA hs2) qw
def d5(sc:Scope):List Str:=(sc.names.filterMap λy=>if y.2 == .local&&y.1 != (".0" :Str)then some y.1 else none)++(sc.names.filterMap λy=>if y.2 == .free then some y.1 else none)
theorem Wh(hc:X.calm=true)(hi:DI X Z tg iter it)(k:∃XN ps osc,x5 XN ps osc/\X.env.scope=osc/\X.N=XN/\BF osc scope (d5 scope) XN caps=true)(nd:(d5 scope).Nodup)
 (hg:(d5 scope).Nodup->∀C s H ex,DG (U0 X scope (d5 scope) C s H ex) ZF tg gg) (ht:∀C s H ex,DTs (U0 X scope (d5 scope) C s H ex) ZF ifs tt) (he:∀C s H ex,DE (U0 X scope (d5 scope) C s H ex) ZF elt fe)
 (hf:∀x,yG iter X.env x=pure x):DE X Z (.ListComp elt [⟨tg,iter,ifs,0⟩] scope pos) (N6 it caps gg tt fe):=let ⟨_,_,_,_,hs,hN,k⟩:=k;ET hc hi (A4.of k hs hN) (hg nd) ht he hf
theorem rS(hc:X.calm=true)(hi:DI X Z tg iter it)(k:∃XN ps osc,x5 XN ps osc/\X.env.scope=osc/\X.N=XN/\BF osc scope (d5 scope) XN caps=true)(nd:(d5 scope).Nodup)
 (hg:(d5 scope).Nodup->∀C s H ex,DG (U0 X scope (d5 scope) C s H ex) ZF tg gg) (ht:∀C s H ex,DTs (U0 X scope (d5 scope) C s H ex) ZF ifs tt) (he:∀C s H ex,DE (U0 X scope (d5 scope) C s H ex) ZF elt fe)
 (hf:∀x,yG iter X.env x=pure x) (hgo:DG X Z (.Name y py) g2) (hsw:JY (.ListComp elt [⟨tg,iter,ifs,0⟩] scope pos) (some (.Name y py)) spos.line X.env=pure true):
 DS X Z (.Assign [.Name y py] (.ListComp elt [⟨tg,iter,ifs,0⟩] scope pos) spos) (v8 (N6 it caps gg tt fe) g2):=let ⟨_,_,_,_,hs,hN,k⟩:=k;Nx hc hi (A4.of k hs hN) (hg nd) ht he hf hgo hsw
end
section
end
end DL
namespace W
open PySem PySem.Spec L2 DL
open PyProof.Rows hiding St
section
end
end W
namespace DL
open PySem PySem.Spec L2
open PyProof.Rows hiding St
def Itd(a:Addr)(o:Obj)(kvs:List (Key×V)):It:=
 ⟨λi H=>H a=some (.frz o (.dK kvs))/\∃kv,kvs[i]? =some kv,λi H x H'=>H'=H/\∃kv,kvs[i]? =some kv/\x=kV kv.1,λi H=>H a=some (.frz o (.dK kvs))/\kvs.length<=i⟩
theorem IN:∀ {kvs} {vs} {i:Nat} {kv:κ×V},KV kvs vs->kvs[i]? =some kv->∃v,vs[i]? =some (kv.1,v)
 |_,_,_,_,.nil,e=>by simp at e
 |_,_,0,_,.cons h t,e=>by
   simp only[zQ,zZ]at e
   subst e
   exact⟨_,by rw[zQ,h.1]⟩
 |_,_,i+1,_,.cons h t,e=>by
   simp only[jq]at e ⊢
   exact IN t e
theorem Cb(h:(Q9 P w).is k u=true):K4 (kV k) u:=by
 rcases O3 h with⟨i,t,rfl,rfl⟩|⟨x,t,rfl,rfl⟩
 ·exact⟨t,rfl⟩
 ·exact⟨t,rfl⟩
theorem nP(I:Inv X pins σ H s)(ho:o.data= .dict es ep)(e:H a=some (.frz o (.dK kvs))):
 (a==yR)=false/\∃vs,KV kvs vs/\s.heap.DictAt (Q9 X.prog X.w) a vs ep:=by
 obtain⟨hget,hz,hS,vs,r,m⟩:=(show R0 X.prog X.w H s.heap a (.frz o (.dK kvs))from I.hok a _ e)
 obtain⟨ep',dat⟩:=m.dictAt
 have hep:ep'=ep:=by
  obtain⟨o',es',h1,_,h3,_⟩:=id dat
  rw[hget]at h1
  cases h1
  rw[ho]at h3
  cases h3
  rfl
 subst hep
 exact⟨hS,vs,r,dat⟩
theorem oO{P:zW}{w:jk}{K:zh}{tg:Expr}{a:Addr}{o:Obj}{ep:Nat}(ho:o.data= .dict es ep)(it:Addr):L6 P w K tg (Itd a o kvs) [it] it (λi h=>h.IsKeyIter it a i kvs.length ep) where
 mem:=by simp
 obj:=λi h st b hb=>by
  have e:b=it:=by simpa using hb
  subst e
  obtain⟨o,e,c,d⟩:=st
  exact⟨o,e,λv z=>by rw[d]at z;cases z⟩
 keep:=λi h h' st k=>let ⟨o,ho,r⟩:=st;⟨o,k it (by simp) o ho,r⟩
 item:=by
  intro X hP hw hK hc i pins s σ H E I hf st hg
  subst hP hw hK
  obtain⟨hfr,kv,hx⟩:=hg
  obtain⟨f0,f1,f2,f3,f4,f5⟩:=hf it (by simp)
  obtain⟨hS,vs,rel,dat⟩:=nP I ho hfr
  obtain⟨v,hv⟩:=IN rel hx
  have hlen:kvs.length=vs.length:=yN rel
  rw[hlen]at st
  refine wpAny_pyNext_dict_item st dat hv λkey h' hk st' sb=>?_
  have I1:Inv X pins σ H {s with heap:=h'}:=I.turned (λb o hb e=>(sb.2 b hb).trans e) f0 f1 f3 f4 f5
  obtain⟨o',e,cc,d⟩:=id st'
  refine⟨_,rfl,VB e cc d (by decide) ⟨kV kv.1,H,I1,Cb hk,⟨rfl,kv,hx,rfl⟩,by rw[hlen];exact st',λb hb=>(hf b hb).1⟩⟩
 done:=by
  intro X hP hw hK hc i pins s σ H E I hf st hg
  subst hP hw hK
  obtain⟨hfr,hi⟩:=hg
  obtain⟨f0,f1,f2,f3,f4,f5⟩:=hf it (by simp)
  obtain⟨hS,vs,rel,dat⟩:=nP I ho hfr
  have hlen:kvs.length=vs.length:=yN rel
  rw[hlen]at st hi
  exact wpAny_pyNext_dict_end (I.ok.hd hc) st dat (zO hi) λh' eb=>⟨rfl,I.turned (λb o hb e=>eb b o hb e) f0 f1 f3 f4 f5⟩
 self:=λ_ _ _ _ _ st h=>wpAny_pyIter_keyiter st h
theorem J0.setR(h:J0 c μ G H)(g:G[i]? =some o)(n:¬F4 (some o))(m:μ[i]? =some a)(k:Ext μ H μ (upd H a u))(ho:C6 c μ (upd H a u) a o'):J0 c μ (G.set i o') (upd H a u):=by
 have hi:i<G.length:=lt_of_get g
 have get:∀j,(G.set i o')[j]? =if i=j then some o' else G[j]? :=λj=>by
  rw[YI]
  by_cases e:i=j
  ·subst e;simp[hi]
  ·simp[e]
 refine⟨by simp[h.len],λj l b ej el=>?_,λj o2 b gj mj=>?_⟩
 · rcases h.inj j l b ej el with e|e|e
   ·exact .inl e
   · by_cases ij:i=j
     ·subst ij;rw[g]at e;exact(n e).elim
     ·right;left;rw[get,if_neg ij];exact e
   · by_cases ij:i=l
     ·subst ij;rw[g]at e;exact(n e).elim
     ·right;right;rw[get,if_neg ij];exact e
 · rw[get]at gj
   by_cases ij:i=j
   · subst ij
     rw[if_pos rfl]at gj
     cases gj
     rw[m]at mj
     cases mj
     exact ho
   · rw[if_neg ij]at gj
     have q:=h.obj j o2 b gj mj
     by_cases hr:F4 (some o2)
     ·exact q.mono k (.inr hr)
     · have nb:b≠a:=λe=>by
        subst e
        rcases h.inj i j b m mj with e|e|e
        ·exact ij e
        ·rw[g]at e;exact n e
        ·rw[gj]at e;exact hr e
       exact q.mono k (.inl (v7 nb))
section
theorem Inv.freeze(I:Inv X pins σ H s)(e:H a=some (.dK kvs))(ho:s.heap.get? a=some o):Inv X pins σ (upd H a (.frz o (.dK kvs))) s:=by
 have q:R0 X.prog X.w H s.heap a (.dK kvs):=I.hok a _ e
 exact I.write (by rw[e];exact trivial) (.inl rfl) (λb u _ z=>z) ⟨o,ho⟩ ⟨ho,q⟩
def iW(K:zh)(tl:TE):TI:=λσ H R=>tl σ H λx H1=>((∃z,x= .str z/\R (Its z) H1)\/(∃k a xs,x= .ref a/\Sq K k H1 a xs/\R (if k=true then Itt K a else Itl K a) H1))\/
 (∃a kvs,x= .ref a/\H1 a=some (.dK kvs)/\∀o,R (Itd a o kvs) (upd H1 a (.frz o (.dK kvs))))\/(∃a o kvs,x= .ref a/\H1 a=some (.frz o (.dK kvs))/\R (Itd a o kvs) H1)
theorem Mc(hl:PE X e tl):PI X tg e (iW X.K tl):=by
 intro pins s σ H R I h
 refine thn (hl pins s σ H _ I h) λv s1 hE1=>hE1.elim λx H1 I1 r1 q1=>?_
 have fpo:∀b∈ [s1.heap.objs.size],D0 X pins H1 b:=λb hb=>by
  have z:b=s1.heap.objs.size:=by simpa using hb
  subst z
  exact I1.fpOk (zo _) (I1.hok.fresh (zo _))
 rcases q1 with(⟨z,rfl,q⟩|⟨k,a,xs,rfl,hq,q⟩)|⟨a,kvs,rfl,hq,q⟩|⟨a,o,kvs,rfl,hq,q⟩
 · obtain⟨t,rfl⟩:=(show ∃t,v=Value.str z t from r1)
   refine wpAny_pyIter_strU ?_
   have I2:Inv X pins σ H1 {s1 with heap:=s1.heap.push {cls:=.type (xY z),data:=.fields #[.str z t,.int 0 0]}}:=I1.kept λb o z=>zd _ z
   have hg:(s1.heap.push {cls:=.type (xY z),data:=.fields #[.str z t,.int 0 0]}).get? s1.heap.objs.size=some {cls:=.type (xY z),data:=.fields #[.str z t,.int 0 0]}:=zw _ rfl
   by_cases ha:z.cps.all (· < 128)=true
   · have e:xY z= "str_ascii_iterator":=by unfold xY;rw[if_pos ha]
     refine⟨s1.heap.objs.size, [s1.heap.objs.size],_,_,H1,rfl,I2,Ff z t _,?_,fpo,q⟩
     rw[e]at hg ⊢
     exact⟨_,hg,rfl,rfl⟩
   · have e:xY z= "str_iterator":=by unfold xY;rw[if_neg ha]
     refine⟨s1.heap.objs.size, [s1.heap.objs.size],_,_,H1,rfl,I2,qv z t _,?_,fpo,q⟩
     rw[e]at hg ⊢
     exact⟨_,hg,rfl,rfl⟩
 · cases r1
   rcases k with _|_
   ·
     obtain⟨its,rv,p,hz⟩:=I1.list hq
     exact xM p.isList ⟨s1.heap.objs.size, [s1.heap.objs.size],_,_,H1,rfl,I1.kept λb o z=>zd _ z,ES a _,⟨_,zw _ rfl,rfl,rfl⟩,fpo,q⟩
   ·
     obtain⟨its,rv,p,hz⟩:=I1.tuple hq
     exact wpAny_pyIter_tuple (show s1.heap.IsTuple a its.toArray from p) ⟨s1.heap.objs.size, [s1.heap.objs.size],_,_,H1,rfl,I1.kept λb o z=>zd _ z,oZ a _,⟨_,zw _ rfl,rfl,rfl⟩,fpo,q⟩
 · cases r1
   obtain⟨hz,hS,vs,rel,dd⟩:=CB I1.hok hq
   obtain⟨ep,dat⟩:=dd.dictAt
   obtain⟨o,es,h1,h2,h3,h4⟩:=id dat
   have hlen:kvs.length=vs.length:=yN rel
   have I2:=DL.Inv.freeze I1 hq h1
   have fpo2:∀b∈ [s1.heap.objs.size],D0 X pins (upd H1 a (.frz o (.dK kvs))) b:=λb hb=>by
    have z:b=s1.heap.objs.size:=by simpa using hb
    subst z
    exact I2.fpOk (zo _) (I2.hok.fresh (zo _))
   refine wpAny_pyIter_dict hS dat ⟨s1.heap.objs.size, [s1.heap.objs.size],_,_,upd H1 a (.frz o (.dK kvs)),rfl,I2.kept λb o z=>zd _ z,oO h3 _,?_,fpo2,q o⟩
   rw[hlen]
   exact⟨_,zw _ rfl,rfl,rfl⟩
 · cases r1
   obtain⟨hget,hz,hS,vs,rel,dd⟩:=(show R0 X.prog X.w H1 s1.heap a (.frz o (.dK kvs))from I1.hok a _ hq)
   obtain⟨ep,dat⟩:=dd.dictAt
   obtain⟨o',es,h1,h2,h3,h4⟩:=id dat
   rw[hget]at h1
   cases h1
   have hlen:kvs.length=vs.length:=yN rel
   refine wpAny_pyIter_dict hS dat ⟨s1.heap.objs.size, [s1.heap.objs.size],_,_,H1,rfl,I1.kept λb o z=>zd _ z,oO h3 _,?_,fpo,q⟩
   rw[hlen]
   exact⟨_,zw _ rfl,rfl,rfl⟩
def BJ:Key->D
 | .inl i=>.int i
 | .inr x=>.str x
def WC(l:List (Key×D)):List D:=l.map λkv=>BJ kv.1
def gB:D->M Src:=λx=>match x with
 | .ref r=>do
   match <-O4 r with
   | .dct l=>do
     let _ <-d4 r (.rod l)
     pure ⟨WC l,λ_=>true⟩
   | .rod l=>pure ⟨WC l,λ_=>true⟩
   |_=>ME (.ref r)
 |d=>ME d
def itW(f:Fe):DSt->M Src:=λσ=>do gB (<-f σ)
theorem vH{v:V}{R:It->Hp->Prop}(h1:J0 (wc X) X1 G1 H1)(rv:f9 (wc X) X1 H1 d v)(p1:d9 (wc X) Z X1 H1 (ME d G1) λs X9 _ H'=>∀J,ItD (wc X) X9 H' J s->R J H'):
 (∃z,v= .str z/\R (Its z) H1)\/(∃k a xs,v= .ref a/\Sq X.K k H1 a xs/\R (if k=true then Itt X.K a else Itl X.K a) H1):=by
 have main:∀dd:D,(∀z,dd≠ .str z)->f9 (wc X) X1 H1 dd v->d9 (wc X) Z X1 H1 (t5 dd G1) (λs X9 _ H'=>∀J,ItD (wc X) X9 H' J s->R J H')->(∃z,v= .str z/\R (Its z) H1)\/(∃k a xs,v= .ref a/\Sq X.K k H1 a xs/\R (if k=true then Itt X.K a else Itl X.K a) H1):=by
  intro dd _ rv p1
  have p1':d9 (wc X) Z X1 H1 ((t5 dd >>= λs=>(pure s:M Src)) G1) λs X9 _ H'=>∀J,ItD (wc X) X9 H' J s->R J H':=by
   have e:(t5 dd >>= λs=>(pure s:M Src))=t5 dd:=by
    funext G
    rw[M.bind_eq]
    rcases t5 dd G with _|q
    ·rfl
    ·obtain⟨r,G'⟩:=q;cases r<;>rfl
   rw[e];exact p1
  obtain⟨sr,k,a,vs,rfl,q,rl,is,ck,_,p2⟩:=AJ h1 rv p1'
  refine .inr ⟨k,a,vs,rfl,q,d9.ok p2 h1 _ λX9 G' H' x' h' ck' i=>?_⟩
  obtain⟨vs',q',rl'⟩:=is X9 G' H' x' h' ck'
  refine⟨λd hd=>?_,λhi=>?_⟩
  · obtain⟨y,hy,ry⟩:=rl'.get hd
    cases k with
    |true=>
      rw[if_pos rfl]
      exact⟨⟨vs',y,q',hy⟩,λx H2 ⟨e1,e2⟩=>by subst e1;exact⟨Ext.refl _ _,h',rO rl' hd (e2 vs' q')⟩⟩
    |false=>
      rw[if_neg ja]
      exact⟨⟨vs',y,q',hy⟩,λx H2 ⟨e1,e2⟩=>by subst e1;exact⟨Ext.refl _ _,h',rO rl' hd (e2 vs' q')⟩⟩
  · cases k with
    |true=>rw[if_pos rfl];exact⟨vs',q',by rw[<-rl'.length];exact hi⟩
    |false=>rw[if_neg ja];exact⟨vs',q',by rw[<-rl'.length];exact hi⟩
 cases d with
 |str z=>
   refine .inl ⟨z,A1 rv,d9.ok p1 h1 _ λX9 G' H' x' h' ck' i=>⟨λd hd=>?_,λhi=>?_⟩⟩
   · simp only[lC,zB]at hd
     cases hc:z.cps.toList[i]? with
     |none=>rw[hc]at hd;cases hd
     |some c=>
       rw[hc]at hd
       cases hd
       have hc':z.cps[i]? =some c:=by rw[<-yr];exact hc
       exact⟨⟨c,hc'⟩,λx H2 ⟨e1,c2,e2,e3⟩=>by
        subst e1
        rw[hc']at e2
        cases e2
        exact⟨Ext.refl _ _,h',by rw[e3];unfold f9;rfl⟩⟩
   · simp only[lC,zc]at hi
     show z.cps[i]? =none
     rw[<-yr]
     exact zO hi
 |tup l=>exact main (.tup l) (λz q=>nomatch q) rv p1
 |ref r=>exact main (.ref r) (λz q=>nomatch q) rv p1
 |_=>exact p1.elim
theorem UN{H:Hp}:∀ {l} {kvs} {i:Nat} {kd},z0 c μ H l kvs->l[i]? =some kd->∃v,kvs[i]? =some (kd.1,v)
 |[],_,_,_,_,e=>by simp at e
 |(k,d)::r,_,0,_,h,e=>by
  obtain⟨v,t,rfl,_,_⟩:=h
  simp only[zQ,zZ]at e
  subst e
  exact⟨v,rfl⟩
 |(k,d)::r,_,i+1,_,h,e=>by
  obtain⟨v,t,rfl,_,ht⟩:=h
  simp only[jq]at e ⊢
  exact UN ht e
theorem mY(k:Key):f9 c μ H (BJ k) (kV k):=by
 cases k<;>(unfold BJ f9;rfl)
theorem nQ{c:Wc}{H:Hp}(e:H a=some (.frz o (.dK kvs)))(rk:z0 c μ H l kvs):ItD c μ H (Itd a o kvs) ⟨WC l,λ_=>true⟩:=by
 intro X9 G' H' x h' _ i
 have e':=x.frz _ _ _ e
 refine⟨λd hd=>?_,λhi=>⟨e',by rw[<-rk.length];simpa [WC]using hi⟩⟩
 simp only[WC,zB]at hd
 cases hl:l[i]? with
 |none=>rw[hl]at hd;cases hd
 |some kd=>
   rw[hl]at hd
   cases hd
   obtain⟨v,hv⟩:=UN rk hl
   exact⟨⟨e',_,hv⟩,λy H2 ⟨e1,kv,e2,e3⟩=>by
    subst e1
    rw[hv]at e2
    cases e2
    exact⟨Ext.refl _ _,h',by rw[e3];exact mY _⟩⟩
theorem cW(he:DE X Z e f):DI X Z tg e (itW f):=
 DI.of (Mc he.h) λσ H R hE0=>hE0.elim λZ6 μ G s h p=>⟨Z6,μ,G,s,h,(d9.bind p).mono λd X1 G1 H1 x1 h1 p1 v rv=>by
  cases d with
  |ref r=>
    have rv':=rv
    unfold f9 at rv'
    obtain⟨a,m,rfl⟩:=rv'
    obtain⟨o,g,p2⟩:=M7 p1
    have ro:=h1.obj r o a g m
    rcases o with l|l|l|l
    ·exact .inl (vH h1 rv p2)
    ·exact .inl (vH h1 rv p2)
    ·
      obtain⟨kvs,q,rk⟩:=ro
      refine .inr (.inl ⟨a,kvs,rfl,q,λo=>?_⟩)
      have x:Ext X1 H1 X1 (upd H1 a (.frz o (.dK kvs))):=Ext.mut (js m) q (λ_ z=>nomatch z) (λ_ _ z=>nomatch z) _
      have hk':=rk.mono x
      have h2:J0 (wc X) X1 (G1.set r (.rod l)) (upd H1 a (.frz o (.dK kvs))):=h1.setR g (λz=>z) m x ⟨kvs,o,N8,hk'⟩
      have p3:=d9.from p2 x
      exact d9.ok p3 h2 _ (nQ N8 hk')
    ·
      obtain⟨kvs,o,q,rk⟩:=ro
      exact .inr (.inr ⟨a,o,kvs,rfl,q,d9.ok p2 h1 _ (nQ q rk)⟩)
  |_=>exact .inl (vH h1 rv p1)⟩
end
end DL
namespace W
open PySem PySem.Spec L2 DL
open PyProof.Rows hiding St
section
theorem wp_itW:Wp (itW f σ) G R↔Wp (f σ) G λx G1=>Wp (gB x) G1 R:=by
 unfold itW;simp only[j5]
theorem rY:Wp (gB (.str z)) G R↔R ⟨lC z,λ_=>true⟩ G:=j7
theorem srcW_tup:Wp (gB (.tup l)) G R↔R ⟨l,λ_=>true⟩ G:=j7
theorem iB(e:G[p]? =some (.lst l)):Wp (gB (.ref p)) G R↔R ⟨l,ckO p (.lst l)⟩ G:=by
 unfold gB
 simp only[j5,O5,e,R5]
 exact Dj e
end
end W
namespace DL
open PySem PySem.Spec L2
open PyProof.Rows hiding St
section
theorem Lm{a:Addr}{o:Obj}{n:Nat}(hT:T= "list"\/T= "tuple")(ho:s.heap.get? a=some o)(hc:o.cls= .type T)(hd:o.data= .seq vs.toArray n)(h64:vs.length<64)(hS:StrsAre vs ss)
 (h:∀(h1 h':Heap) (tk e:Nat) out ss',(∀b o,s.heap.get? b=some o->h1.get? b=some o)->(∀b o,h1.get? b=some o->h'.get? b=some o)->h'.get? h1.objs.size=some (jh "list" out.toArray e)->StrsAre out ss'->ss'.Perm ss->sortedS ss'=true->Q (.ref h1.objs.size) {s with heap:=h',toks:=tk}):
 zC (zH prog w) A (call (.builtin "sorted") [.ref a]) Q E s:=by
 have hz:vs.length<=zg:=zI (ym h64) (by decide)
 refine Ze Jb Xp Xr (args_sorted1 _) ?_
 unfold yM.«sorted»
 refine za (zq ?_)
 refine za (wpAny_collect_seq a hT ho hc hd (λh1 hk=>?_) (by rw[zi];exact hz))
 refine za (xm ?_ hz)
 have hoL:(h1.push (jh "list" vs.toArray 0)).get? h1.objs.size=some (jh "list" vs.toArray 0):=zw _ rfl
 refine za (ju (ye Yz ⟨_,hoL,rfl⟩ Yi (list_sort_treeK strKind_oneLt hoL hS.keysOf (λv₁ v₂ T6 e=>keyKind_strs (by rw[<-e];exact hS)) h64 λst' a1 a2=>⟨_,rfl,?_⟩) (Js _)))
 obtain⟨ss',b1,b2,b3⟩:=sorted_out_str hS a1 a2
 obtain⟨e,he⟩:=sortedHeap_at hoL
 refine zq ⟨_,rfl,h h1 _ s.toks e ((Yj st').map (·.2)).toList ss' hk (λb o hb=>?_) (by rw[ZM];exact he) b1 b2 b3⟩
 have hlt:b<h1.objs.size:=zu hb
 rw[sortedHeap_old (zF hlt) (by rw[Xf];exact yD hlt),xt _ _ _ (zF hlt)]
 exact hb
end
def sD(l:List D):M D:=do
 let ss <-K0 (P3 l)
 if ss.length<64 then N7 (.lst ((V6 ss).map .str))else M.stuck
def e9:List D->M D:=λds=>match ds with
 |[.tup l]=>sD l
 |[.ref r]=>do
   match <-O4 r with
   | .lst l=>sD l
   | .dct l=>do
     let ss <-K0 (U5 l)
     if ss.length<64 then N7 (.lst ((V6 ss).map .str))else M.stuck
   |_=>M.stuck
 |_=>M.stuck
section
theorem IE:∀ {l} {ss} {vs} {us},P3 l=some ss->u9 c μ H l vs->J1 vs us->StrsAre us ss
 |[],_,_,_,e,r,v=>by cases e;cases r;cases v;exact .nil
 | .str x::t,ss,_,_,e,r,v=>by
   replace e:=show (P3 t).map (_ :: ·)=some _ from e
   rcases h:P3 t with _|q
   ·rw[h]at e;exact J7 e
   ·
     rw[h]at e
     cases e
     obtain⟨v0,tl,rfl,r0,rt⟩:=r
     cases v with
     |cons ru rt2=>
       rw[A1 r0]at ru
       obtain⟨tk,rfl⟩:=ru
       exact .cons _ _ (IE h rt rt2)
 | .non::_,_,_,_,e,_,_=>by exact J7 e
 | .bl _::_,_,_,_,e,_,_=>by exact J7 e
 | .int _::_,_,_,_,e,_,_=>by exact J7 e
 | .tup _::_,_,_,_,e,_,_=>by exact J7 e
 | .ref _::_,_,_,_,e,_,_=>by exact J7 e
 | .fn _::_,_,_,_,e,_,_=>by exact J7 e
 | .ty _::_,_,_,_,e,_,_=>by exact J7 e
theorem bQ:∀ {l} {ss},P3 l=some ss->ss.length=l.length
 |[],_,e=>by cases e;rfl
 | .str x::t,ss,e=>by
   replace e:=show (P3 t).map (_ :: ·)=some _ from e
   rcases h:P3 t with _|q
   ·rw[h]at e;exact J7 e
   ·rw[h]at e;cases e;simp[bQ h]
 | .non::_,_,e=>by exact J7 e
 | .bl _::_,_,e=>by exact J7 e
 | .int _::_,_,e=>by exact J7 e
 | .tup _::_,_,e=>by exact J7 e
 | .ref _::_,_,e=>by exact J7 e
 | .fn _::_,_,e=>by exact J7 e
 | .ty _::_,_,e=>by exact J7 e
theorem GK(I:Inv X pins σ H s)(hr:J0 (wc X) μ G H)(rl:u9 (wc X) μ H l vs)(rv:J1 vs us)(hT:T= "list"\/T= "tuple")(ho:s.heap.get? a=some o)(hc:o.cls= .type T)(hd:o.data= .seq us.toArray n)
 (p:d9 (wc X) Z μ H (sD l G) λd X9 _ H'=>∀v,f9 (wc X) X9 H' d v->Q v H'):zC (zH X.prog X.w) X.A (call (.builtin "sorted") [.ref a]) (EP X pins σ Q) X.xe s:=by
 obtain⟨ss,es,p2⟩:=V2 p
 split at p2
 case isFalse=>exact p2.elim
 rename_i h64
 have hS:=IE es rl rv
 have hlen0:us.length=ss.length:=by rw[bQ es,rl.length,rv.length]
 refine Lm hT ho hc hd (by lia) hS λh1 h' tk e out ss' k1 k2 he hS' hp hs=>?_
 have e2:=pQ hp hs
 subst e2
 obtain⟨ws,ew,rv',rl2⟩:=dG (μ:=μ) hS'
 have I1:Inv X pins σ H {s with heap:=h1,toks:=tk}:=I.kept k1
 have hf:=I1.hok.fresh (zo _)
 have hlen:ws.length<=zg:=by
  rw[ew,zc]
  have e3:(V6 ss).length=ss.length:=(jC ss leS).length_eq
  have:(64:Nat)<=zg:=by decide
  lia
 exact⟨.ref h1.objs.size,upd H h1.objs.size (.lst ws),I1.laid k2 (zo _) ⟨hlen,out,e,rv',he⟩,rfl,V3 hr rl2 p2 _ hf⟩
theorem vT(hc:X.calm=true):C1 X Z (.builtin "sorted") e9:=⟨by
 intro pins s σ H xs us Q I r hE0
 obtain⟨ds,μ,G,rl,hr,p⟩:=hE0
 rcases ds with _|⟨_|_|_|_|l|i|_|_,_|⟨_,_⟩⟩<;>try exact p.elim
 all_goals (delta e9 at p;dsimp only at p)
 · obtain⟨v,rfl,rv⟩:=B1 rl
   obtain⟨u,rfl,ru⟩:=U1 r
   unfold f9 at rv
   obtain⟨a,vs,rfl,q,rl'⟩:=rv
   cases ru
   obtain⟨its,rv,⟨o,h1,h2,n,h3⟩,hz⟩:=I.tuple q
   exact GK I hr rl' rv (.inr rfl) h1 h2 h3 p
 · obtain⟨v,rfl,rv⟩:=B1 rl
   obtain⟨u,rfl,ru⟩:=U1 r
   have rv':=rv
   unfold f9 at rv'
   obtain⟨a,m,rfl⟩:=rv'
   cases ru
   obtain⟨o,g,p1⟩:=M7 p
   have ro:=hr.obj i o a g m
   rcases o with l|l|l|l
   ·
     obtain⟨vs,q,rl'⟩:=ro
     obtain⟨its,rv,pl,hz⟩:=I.list (SqL.of q)
     obtain⟨o,h1,h2,n,h3⟩:=pl.isList
     exact GK I hr rl' rv (.inl rfl) h1 h2 h3 p1
   ·exact p1.elim
   ·
     refine(Fj (Z:=Z) hc).h pins s σ H [.ref a] [.ref a] Q I r ⟨[.ref i],μ,G,rl,hr,?_⟩
     have eo:O4 i G=some (.ok (.dct l),G):=by unfold O4;simp only[g]
     have e:EI [.ref i] G= ((do
      let ss <-K0 (U5 l)
      if ss.length<64 then N7 (.lst ((V6 ss).map .str))else M.stuck:M D)) G:=by
      show ((O4 i >>= λo=>match o with
       | .dct l => (do
         let ss <-K0 (U5 l)
         if ss.length<64 then N7 (.lst ((V6 ss).map .str))else M.stuck:M D)
       |_=>M.stuck):M D) G=_
      rw[M.bind_ok eo]
     rw[e]
     exact p1
   ·exact p1.elim⟩
theorem bY(h:X.calm=true):BD e9 "sorted" X Z:=⟨.inl ⟨_,vT h,gJ⟩⟩
end
end DL
namespace W
open PySem PySem.Spec L2 DL
open PyProof.Rows hiding St
section
theorem Kw(hs:P3 l=some ss)(h64:ss.length<64):Wp (sD l) G Q↔Q (.ref G.length) (G++[.lst ((V6 ss).map .str)]):=by
 unfold sD
 simp only[j5,L4,hs,R5,if_pos h64,R3]
theorem UZ(e:G[r]? =some (.lst l))(hs:P3 l=some ss)(h64:ss.length<64):Wp (e9 [.ref r]) G Q↔Q (.ref G.length) (G++[.lst ((V6 ss).map .str)]):=by
 unfold e9
 simp only[j5,O5,e,R5]
 exact Kw hs h64
theorem Bh(e:G[r]? =some (.dct l))(hs:U5 l=some ss)(h64:ss.length<64):Wp (e9 [.ref r]) G Q↔Q (.ref G.length) (G++[.lst ((V6 ss).map .str)]):=by
 unfold e9
 simp only[j5,O5,e,R5,L4,hs,if_pos h64,R3]
end
end W
namespace DL
open PySem
theorem wS:Jm (.type "list") "keys" =pure none:=by rw[Jd,Yn];kernel_rfl
section
theorem Hf{h:Heap}{t:Nat}{os:OsState}{a:Addr}{o:Obj}{k:Nat}
 (hx:h.get? a=some o) (hc:o.cls= .type "list") (hdat:o.data= .seq xs k) (hd:o.dict=none) (hA:A.handled=none)
 (hq:∀h' tk,(∀b ob,h.get? b=some ob->h'.get? b=some ob)->Q none ⟨h',g,d,tk,os⟩):
 zC (zH prog w) A (getAttr? (.ref a) "keys") Q E ⟨h,g,d,t,os⟩:=by
 obtain⟨c,dct,dat,sl⟩:=o
 simp only at hc hdat hd
 subst hc hdat hd
 have hT:∀tk',(⟨h,g,d,tk',os⟩:zv).TypeIs (.ref a) "list":=λ_=>⟨_,hx,rfl⟩
 have f1:=sub_AttributeError
 have f3:=Zt.lookup
 have f4:=Zt.bind (.ref a)
 have f5:=am_list_getattr_none
 unfold getAttr? getAttrBy? getAttrBy
 repeat (any_goals (first|assumption|exact hT _|((with_reducible show zC _ _ (call (Value.builtin "list.__getattribute__") _ _) _ _ _);refine xD Zt (hT _) am_entry_list_getattribute (F.args_list_getattribute_2 _ _) (meets_getattribute_miss_list a xs k sl "keys" _ wS (by decide +kernel) (by decide +kernel)) ⟨hx,hA,λh' tk' e hx'=>?_⟩)|wp_step))
 obtain⟨t',u',he⟩:=hx'.there
 have hTe:∀tk'',(⟨h',g,d,tk'',os⟩:zv).TypeIs (.ref e) "AttributeError":=λ_=>⟨_,he,rfl⟩
 show zC _ _ (getattributeRaised _ _ _ _ _ _ _) _ _ _
 unfold getattributeRaised
 repeat (any_goals (first|assumption|exact hTe _|wp_step))
 exact hq _ _ hx'.keeps
end
end DL
namespace DL
open PySem
open PyProof.Rows (IsTup)
theorem UL:entryFor table "dict.update.loop" =some yM.«dict.update.loop»:=entryFor_of_tree (by kernel_rfl)
theorem DF:plainId "dict.update.loop" =true:=by decide +kernel
section
variable{prog:zW}{w:jk}{A:jA}{R:Result->zv->Prop}{I:Addr}{fp wr:List Addr}{n:Nat}{P:Nat->zj->Prop}{St:Nat->Heap->Prop}{K:Type}[DecidableEq K]{knd:KeyKind prog w K}
theorem kw(h:Yk s.heap ta #[x,y])(q:Q [x,y] s):zC (zH prog w) A (YU (.ref ta)) Q E s:=by
 obtain⟨o,ho,hc,m,hd⟩:=h
 have hT:s.TypeIs (.ref ta) "tuple":=⟨_,ho,hc⟩
 unfold YU
 refine za (Zj hT ?_)
 rw[if_pos (by decide)]
 exact za (jP ho hd (zq q))
theorem gX(W:Walks prog w A.in1 I fp wr n P St)(S:Addr)(hSf:S∉fp)(h0:Heap)(ps:List (K×zj))(hn:ps.length=n)
 (hval:∀i v,P i v->∃ta key kv,v= .ref ta/\ps[i]? =some kv/\Yk h0 ta #[key,kv.2]/\knd.is kv.1 key=true/\ta≠S/\ta∉wr) (hsz:n<=zg):
 ∀k i s m tk,n-i=k->i<=n->St i s.heap->s.heap.DictOf knd S (Jn [] (ps.take i))->(∀b o,b≠S->b∉wr->h0.get? b=some o->s.heap.get? b=some o)->
  (∀h' tk',h'.DictOf knd S (Jn [] ps)->(∀b o,b≠S->b∉wr->h0.get? b=some o->h'.get? b=some o)->R (.ok (.ret .none)) {s with heap:=h',toks:=tk'})->
  Zw (zH prog w) A (.builtin "dict.update.loop" ⟨[.ref S,.ref I,.int m tk,.none], []⟩) R s:=by
 have hSw:S∉wr:=λh=>hSf (W.sub _ h)
 intro k
 induction k with
 |zero=>
   intro i s m tk hk hi hst hS hh hR
   have hin:i=n:=by lia
   subst hin
   refine xq UL ?_
   rw[yw DF _]
   show zC _ A.in1 (ZV (.ref I) >>= _) _ _ s
   refine za (W.done s _ _ hst λh' tk' hm=>?_)
   show zC _ A.in1 (Builtin.Dict.addKeywords S [] >>= _) _ _ _
   refine za (zq ?_)
   refine zq (hR h' tk' ?_ λb o hb hb' e=>hm b o hb' (hh b o hb hb' e))
   rw[xv (by lia)]at hS
   obtain⟨o,es,ep,ho,T6⟩:=hS
   exact⟨o,es,ep,hm S _ hSw ho,T6⟩
 |succ k ih=>
   intro i s m tk hk hi hst hS hh hR
   have hlt:i<n:=by lia
   refine xq UL ?_
   rw[yw DF _]
   show zC _ A.in1 (ZV (.ref I) >>= _) _ _ s
   refine za (W.item i s _ _ hlt hst λv h' tk' hP hst' hm=>?_)
   obtain⟨ta,key,kv,rfl,hkv,⟨ot,hot,hct,mt,hdt⟩,hkey,hne,hnw⟩:=hval i v hP
   have hS':h'.DictOf knd S (Jn [] (ps.take i)):=by
    obtain⟨o,es,ep,ho,T6⟩:=hS
    exact⟨o,es,ep,hm S _ hSw ho,T6⟩
   have ht':Yk h' ta #[key,kv.2]:=⟨ot,hm ta _ hnw (hh ta _ hne hnw hot),hct,mt,hdt⟩
   refine za (ju ?_)
   refine za (xL (kw ht' ?_))
   refine ju ?_
   have hlen:(Jn [] (ps.take i)).length<=zg:=by
    have:=merged_length_le [] (ps.take i)
    rw[jD,yy]at this
    lia
   refine wpAny_dictSet_pairs hkey hS' λh'' hd'' hsb=>?_
   refine zq ⟨yI DF _,ih (i+1) _ _ _ (by lia) hlt (W.frame _ _ _ hst' λb hb o e=>?_) ?_ (λb o hb hb' e=>?_) λh3 tk3 hd3 hk3=>hR h3 tk3 hd3 hk3⟩
   ·rw[hsb.2 b (λh:b=S=>hSf (by rw[<-h];exact hb))];exact e
   ·rw[merged_take_succ [] ps i kv hkv];exact hd''
   ·rw[hsb.2 b hb];exact hm b o hb' (hh b o hb hb' e)
end
section
variable{prog:zW}{w:jk}{A:jA}{E:VSP}{s:zv}{K:Type}[DecidableEq K]{knd:KeyKind prog w K}
theorem Kj{m:Nat}(hx:s.heap.get? src=some o)(hc:o.cls= .type "list")(hd:o.data= .seq items m)(hdict:o.dict=none)(hA:A.handled=none)
 (hn:ps.length=items.size) (hsz:items.size<=zg) (hval:∀(i:Nat) (v:zj),items[i]? =some v->∃(ta:Addr) (key:zj) (kv:K×zj),v= .ref ta/\ps[i]? =some kv/\Yk s.heap ta #[key,kv.2]/\knd.is kv.1 key=true)
 (h:∀h' tk,h'.DictOf knd s.heap.objs.size (Jn [] ps)->(∀b o,s.heap.get? b=some o->h'.get? b=some o)->Q (.ref s.heap.objs.size) {s with heap:=h',toks:=tk}):
 zC (zH prog w) A (call (.type "dict") [.ref src]) Q E s:=by
 refine callType_codes (Q₁:=λobj X0=>obj= .ref s.heap.objs.size/\X0= {s with heap:=s.heap.push {cls:=.type "dict",data:=.dict #[]}}) F.kt_called_dict (F.kt_typeCall_dict_1 _) F.entry_dict_init (kt_code_dict_new _ ⟨rfl,rfl⟩) ?_
 rintro obj X0 ⟨rfl,rfl⟩
 have hnew:(s.heap.push {cls:=.type "dict",data:=.dict #[]}).DictOf knd s.heap.objs.size []:=Jj s.heap
 have hlt:src<s.heap.objs.size:=zu hx
 have hx1:(s.heap.push {cls:=.type "dict",data:=.dict #[]}).get? src=some o:=zd _ hx
 have hT1:Shared.TypeIs {s with heap:=s.heap.push {cls:=.type "dict",data:=.dict #[]}} (.ref src) "list":=⟨_,hx1,hc⟩
 refine⟨hnew.typeIs,F.args_dict_init_2 _ _,?_⟩
 unfold yM.«dict.__init__»
 refine za ?_
 unfold Builtin.Dict.selfAndRest
 refine za (wpAny_notOrdered_dict hnew.typeIs ?_)
 show zC _ _ (pure (s.heap.objs.size, [Value.ref src])) _ _ _
 refine zq ?_
 show zC _ _ (YM "dict.__init__" s.heap.objs.size (.ref src) [] .none) _ _ _
 unfold YM
 refine za (Zj hT1 ?_)
 rw[if_pos (by decide)]
 have hA2:A.in1.in1.handled=none:=by simp[hA]
 refine za (Hf hx1 hc hd hdict hA2 λh2 tk2 k2=>?_)
 simp only[Option.isNone_none,if_true]
 refine za (Zn ?_)
 have hx2:h2.get? src=some o:=k2 _ _ hx1
 have hl2:h2.IsList src items:=⟨o,hx2,hc,m,hd⟩
 have hS2:h2.DictOf knd s.heap.objs.size []:=by
  obtain⟨o,es,ep,ho,T6⟩:=hnew
  exact⟨o,es,ep,k2 _ _ ho,T6⟩
 have hlt2:s.heap.objs.size<h2.objs.size:=by
  obtain⟨o,es,ep,ho,T6⟩:=hS2
  exact zu ho
 refine za (xM hl2 ?_)
 have hA1:A.in1.in1.handled=none:=hA2
 refine zq ⟨yI DF _,?_⟩
 have hkeep:∀b ob,s.heap.get? b=some ob->h2.get? b=some ob:=λb ob e=>k2 _ _ (zd _ e)
 refine gX (knd:=knd) (JN hA1 h2.objs.size src (zF (xF hlt hlt2)) items) s.heap.objs.size ?_ s.heap ps hn ?_ hsz items.size 0 _ _ _ (by lia) (zY _) ?_ ?_ ?_ ?_
 · simp only[zp,zS,or_false,not_or]
   exact⟨zF hlt2,xf hlt⟩
 · intro i v hv
   obtain⟨ta,key,kv,e1,e2,e3,e4⟩:=hval i v hv
   have hta:ta<s.heap.objs.size:=by obtain⟨_,e,_⟩:=e3;exact zu e
   exact⟨ta,key,kv,e1,e2,e3,e4,zF hta,by simp only[zp,zS,or_false];exact zF (xF hta hlt2)⟩
 ·exact⟨⟨_,zw _ rfl,rfl,rfl⟩,hl2.push _⟩
 · show Heap.DictOf knd (h2.push _) _ _
   exact hS2.push _
 · intro b ob hb hb' e
   exact zd _ (hkeep b ob e)
 · intro h' tk' hd' hk'
   refine⟨rfl,h h' tk' hd' λb ob e=>hk' b ob ?_ ?_ e⟩
   ·exact zF (zu e)
   · simp only[zp,zS,or_false]
     exact zF (xF (zu e) hlt2)
end
end DL
namespace DL
open PySem PySem.Spec L2
open PyProof.Rows hiding St
def pC:D->Option (Key×D)
 | .tup [k,v]=>match f8 k with
   |some q=>some (q,v)
   |none=>none
 |_=>none
def nA:List D->Option (List (Key×D))
 |[]=>some []
 |d::r=>match pC d,nA r with
   |some p,some ps=>some (p::ps)
   |_,_=>none
def putAll(acc:List (Key×D))(l:List (Key×D)):List (Key×D):=l.foldl (λacc kv=>F5 acc kv.1 kv.2) acc
def ID:List D->M D:=λds=>match ds with
 |[.ref r]=>do
   let l <-O4 r >>= listOf
   let ps <-K0 (nA l)
   N7 (.dct (putAll [] ps))
 |_=>M.stuck
section
variable{X:Cx}{Z:XC}{μ:List Addr}{H:Hp}{G:DH}
theorem Lw(h:pC d=some p):∃k,d= .tup [k,p.2]/\f8 k=some p.1:=by
 rcases d with _|_|_|_|l|_|_|_<;>try (cases h;done)
 rcases l with _|⟨k,_|⟨v,_|⟨_,_⟩⟩⟩<;>try (cases h;done)
 delta pC at h
 dsimp only at h
 rcases e:f8 k with _|q
 ·rw[e]at h;cases h
 ·rw[e]at h;cases h;exact⟨k,rfl,e⟩
theorem bR{σ:St}(I:Inv X pins σ H s):∀ {l:List D} {ps} {vs:List V} {its},nA l=some ps->u9 (wc X) μ H l vs->J1 vs its->
 ∃(kvs:List (Key×V)) (ws:List (Key×zj)),z0 (wc X) μ H ps kvs/\KV kvs ws/\ws.length=its.length/\∀(i:Nat) v,its[i]? =some v->∃(ta:Addr) (key:zj) (kv:Key×zj),v= .ref ta/\ws[i]? =some kv/\Yk s.heap ta #[key,kv.2]/\(Q9 X.prog X.w).is kv.1 key=true
 |[],ps,vs,its,e,rl,rv=>by
   cases e;cases rl;cases rv
   exact⟨[], [],rfl,.nil,rfl,λi v h=>by simp at h⟩
 |d::r,ps,vs,its,e,rl,rv=>by
   replace e:(match pC d,nA r with|some p,some ps=>some (p::ps)|_,_=>none)=some ps:=e
   rcases e1:pC d with _|p
   ·rw[e1]at e;cases e
   ·
     rcases e2:nA r with _|qs
     ·rw[e1,e2]at e;cases e
     ·
       rw[e1,e2]at e
       cases e
       obtain⟨v,t,rfl,r0,rt⟩:=rl
       cases rv with
       |cons q0 qt=>
         obtain⟨kvs,ws,h1,h2,h3,h4⟩:=bR I e2 rt qt
         obtain⟨k,rfl,hk⟩:=Lw e1
         unfold f9 at r0
         obtain⟨a,us,rfl,hq,ru⟩:=r0
         obtain⟨x,y,rfl,rx,ry⟩:=wV ru
         obtain⟨its2,rr,ht,_⟩:=I.tuple hq
         obtain⟨p1,p2⟩:=p
         cases rr with
         |cons rr0 rr1=>
           cases rr1 with
           |cons rr2 rr3=>
             cases rr3
             rename_i w0 w1
             have ex:=wI hk rx
             subst ex
             cases (show _=Value.ref a from q0)
             refine⟨(p1,y)::kvs,(p1,w1)::ws,⟨y,kvs,rfl,ry,h1⟩,.cons ⟨rfl,rr2⟩ h2,by simp[h3],λi v hv=>?_⟩
             cases i with
             |zero=>
               simp only[zQ,zZ]at hv
               subst hv
               exact⟨a,w0,(p1,w1),rfl,rfl,ht,sB rr0⟩
             |succ i=>exact h4 i v (by simpa using hv)
theorem gM:∀ {ps} {kvs} {acc} {acc'},z0 c μ H ps kvs->z0 c μ H acc acc'->z0 c μ H (putAll acc ps) (kvs.foldl (λacc kv=>C2 acc kv.1 kv.2) acc')
 |[],_,_,_,r,q=>by cases r;exact q
 |(k,d)::t,_,_,_,r,q=>by
  obtain⟨v,kt,rfl,rv,rt⟩:=r
  have z:=gM rt (gQ (k:=k) rv q)
  exact z
theorem LN:∀ {kvs} {ws} {acc:List (Key×V)} {acc'},KV kvs ws->KV acc acc'->KV (kvs.foldl (λacc kv=>C2 acc kv.1 kv.2) acc) (Jn acc' ws)
 |_,_,_,_,.nil,q=>q
 |_,_,_,_,.cons (a:=p) (b:=r) ⟨e,rv⟩ t,q=>by
   obtain⟨k,v⟩:=p
   obtain⟨k',u⟩:=r
   cases (show k=k' from e)
   have z:=LN t (q.put k rv)
   exact z
theorem Bf{σ:St}{Q:VK}{ps:List (Key×D)}{h':Heap}{tk:Nat}(I:Inv X pins σ H s)(hr:J0 (wc X) μ G H)(h1:z0 (wc X) μ H ps kvs)(h2:KV kvs ws)(hz:ws.length<=zg)
 (p:d9 (wc X) Z μ H (N7 (.dct (putAll [] ps)) G) λd X9 _ H'=>∀v,f9 (wc X) X9 H' d v->Q v H')
 (hd:h'.DictOf (Q9 X.prog X.w) s.heap.objs.size (Jn [] ws)) (hk:∀b o,s.heap.get? b=some o->h'.get? b=some o):EP X pins σ Q (.ref s.heap.objs.size) {s with heap:=h',toks:=tk}:=by
 have k3:=LN h2 (.nil:KV [] [])
 have hl:(kvs.foldl (λacc kv=>C2 acc kv.1 kv.2) []).length<=zg:=by
  rw[k3.length]
  have:=merged_length_le [] ws
  rw[yy]at this
  lia
 have hq:H s.heap.objs.size=none:=I.hok.fresh (zo _)
 refine⟨.ref s.heap.objs.size,_,I.laid hk (zo _) (VP hl (beq_eq_false_iff_ne.mpr (Ne.symm (zF I.big))) k3 hd),rfl,?_⟩
 have k:Ext μ H (μ++[s.heap.objs.size]) (upd H s.heap.objs.size (.dK (kvs.foldl (λacc kv=>C2 acc kv.1 kv.2) []))):=Ext.add hq _
 have e0:z0 (wc X) μ H (putAll [] ps) (kvs.foldl (λacc kv=>C2 acc kv.1 kv.2) []):=gM h1 rfl
 refine p (μ++[s.heap.objs.size]) _ k (hr.new hq ⟨_,N8,e0.mono k⟩) _ ?_
 unfold f9
 exact⟨s.heap.objs.size,by rw[<-hr.len];simp,rfl⟩
theorem mT(hc:X.calm=true):C1 X Z (.type "dict") ID:=⟨by
 intro pins s σ H xs us Q I r hE0
 obtain⟨ds,μ,G,rl,hr,p⟩:=hE0
 have hh:X.A.handled=none:=I.ok.hd hc
 rcases ds with _|⟨_|_|_|_|l|i|_|_,_|⟨_,_⟩⟩<;>try exact p.elim
 all_goals (delta ID at p;dsimp only at p)
 · obtain⟨v,rfl,rv⟩:=B1 rl
   obtain⟨u,rfl,ru⟩:=U1 r
   obtain⟨l,a,vs,rfl,rl',q,p1⟩:=BB hr rv p
   cases ru
   obtain⟨ps,eps,p2⟩:=V2 p1
   obtain⟨its,rr,⟨o,n,g1,g2,g3,g4⟩,hz⟩:=I.list q
   obtain⟨kvs,ws,h1,h2,h3,h4⟩:=bR I eps rl' rr
   have hlen:=rr.length
   exact Kj g1 g2 g4 g3 hh (by simpa using h3) (by simp only[zi];lia) (λi v hv=>h4 i v (by simpa using hv)) λh' tk hd hk=>Bf I hr h1 h2 (by lia) p2 hd hk⟩
theorem BR(h:X.calm=true):BD ID "dict" X Z:=⟨.inr ⟨_,mT h,gW⟩⟩
end
section
end
end DL
namespace W
open PySem PySem.Spec L2 DL
open PyProof.Rows hiding St
end W
namespace DL
open PySem PySem.Spec L2
open PyProof.Rows hiding St
def ixG:D->D->M D:=λx y=>match x,y with
 | .ref r,.str z=>do
   match <-O4 r with
   | .dct l=>K0 (u3 l (.inr z))
   |_=>M.stuck
 |_,_=>ixD x y
section
theorem TR:IxR X (λx y H Q=>∃a kvs k v,x= .ref a/\y=kV k/\H a=some (.dK kvs)/\Q2 kvs k=some v/\Q v H):=by
 intro value slice pins s σ H x y v u Q I rx ry h hs
 obtain⟨a,kvs,k,z,rfl,rfl,e,l,q⟩:=h
 cases rx
 obtain⟨zz,hd,vs,rel,dd⟩:=CB I.hok e
 obtain⟨w',hw,rw'⟩:=B8.some_of (by rw[<-l];exact rel.val k)
 exact ZZ dd.typeIs PySem.F.slot_dict_getitem.lookup (wpAny_getItem_of (sB ry) dd.mapOf hw ⟨rfl,z,H,I.tok _,rw',q⟩) hs
theorem pV:IxD X Z ixG:=IxR.mono (TR.or vP) λx y H Q hE0=>hE0.elim λdx dy μ G rx ry hr p=>by
 by_cases c:∃r z,dx= .ref r/\dy= .str z
 · obtain⟨r,z,rfl,rfl⟩:=c
   refine .inl ?_
   unfold f9 at rx
   obtain⟨a,m,rfl⟩:=rx
   have p':d9 (wc X) Z μ H ((O4 r >>= λo=>match o with| .dct l=>K0 (u3 l (.inr z))|_=>M.stuck:M D) G) λd X9 _ H'=>∀v,f9 (wc X) X9 H' d v->Q v H':=p
   obtain⟨o,g,p1⟩:=M7 p'
   have ro:=hr.obj r o a g m
   rcases o with _|_|l|_<;>try (exact p1.elim;done)
   ·
     obtain⟨kvs,q,rk⟩:=ro
     obtain⟨d,ed,k⟩:=iK hr p1
     have z1:=kI (k:=.inr z) rk
     rw[ed]at z1
     obtain⟨v,ev,rv⟩:=z1
     exact⟨a,kvs,.inr z,v,rfl,A1 ry,q,ev,k v rv⟩
 · refine .inr ⟨dx,dy,μ,G,rx,ry,hr,?_⟩
   have e:ixG dx dy=ixD dx dy:=by
    rcases dx with _|_|_|_|_|r|_|_<;>try (rfl;done)
    ·
      rcases dy with _|_|_|z|_|_|_|_<;>try (rfl;done)
      ·exact absurd ⟨r,z,rfl,rfl⟩ c
   rw[<-e]
   exact p
theorem eL2(ha:DE X Z a fa)(hb:DE X Z b fb)(hs:pF b):DE X Z (.Subscript a b pos) (c7 ixG fa fb):=PK pV ha hb hs
end
end DL
namespace W
open PySem PySem.Spec L2 DL
open PyProof.Rows hiding St
theorem Md(h:G[r]? =some (.dct l))(k:u3 l (.inr z)=some d):Wp (ixG (.ref r) (.str z)) G Q↔Q d G:=by
 have e:ixG (.ref r) (.str z)= (O4 r >>= λo=>match o with| .dct l=>K0 (u3 l (.inr z))|_=>M.stuck:M D):=rfl
 rw[e]
 simp only[j5,O5,h,R5,L4,k,zZ,exists_eq_left']
end W
namespace DL
open PySem PySem.W
open PyProof.Rows hiding St
def tOk{α:Type}(lt:Nat->Nat->Bool)(n:Nat):KasT α->(α->Prop)->Prop
 | .ret a,Q=>Q a
 | .ask i j k,Q=>i<n/\j<n/\tOk lt n (k (lt i j)) Q
section
theorem tOk.bind:∀t,tOk lt n t (λa=>tOk lt n (f a) Q)->tOk lt n (t.bind f) Q
 | .ret _,h=>h
 | .ask i j k,h=>⟨h.1,h.2.1,tOk.bind (k (lt i j)) h.2.2⟩
theorem tOk.mono(hq:∀a,Q a->Q' a):∀t,tOk lt n t Q->tOk lt n t Q'
 | .ret a,h=>hq a h
 | .ask i j k,h=>⟨h.1,h.2.1,tOk.mono hq (k (lt i j)) h.2.2⟩
theorem tOk.wp(hc:∀i j C,i<n->j<n->C (lt i j) s->cmp i j C s):∀t,tOk lt n t Q->t.kasWp cmp (λa s'=>s'=s/\Q a) s
 | .ret a,h=>⟨rfl,h⟩
 | .ask i j k,h=>hc i j _ h.1 h.2.1 (tOk.wp hc (k (lt i j)) h.2.2)
end
structure l6(lt:Nat->Nat->Bool)(n:Nat):Prop where
 tr:∀i j k,lt i j=true->lt j k=true->lt i k=true
 tot:∀i j,i<n->j<n->i≠j->lt i j=false->lt j i=true
structure E1(p:Array Nat)(n:Nat):Prop where
 pm:p.toList.Perm (jr n)
section
theorem E1.size(h:E1 p n):p.size=n:=by have:=h.pm.length_eq;simpa using this
theorem E1.bd(h:E1 p n)(hk:k<n):p.getD k 0<n:=by
 have hs:=h.size
 have e:p.getD k 0=p[k]'(by lia):=by simp[Zv,hs,hk]
 rw[e]
 have:p[k]'(by lia)∈p.toList:=by simp
 have:=h.pm.mem_iff.mp this
 simpa using this
theorem E1.ne(h:E1 p n)(hi:i<n)(hj:j<n)(hij:i≠j):p.getD i 0≠p.getD j 0:=by
 have hs:=h.size
 have nd:p.toList.Nodup:=h.pm.nodup_iff.mpr List.nodup_range
 have e1:p.getD i 0=p.toList[i]'(by simp;lia):=by simp[Zv,hs,hi]
 have e2:p.getD j 0=p.toList[j]'(by simp;lia):=by simp[Zv,hs,hj]
 rw[e1,e2]
 intro e
 exact hij ((YW nd).mp e)
def C4(lt:Nat->Nat->Bool)(p:Array Nat)(m:Nat):Prop:=∀i j,i<j->j<m->lt (p.getD i 0) (p.getD j 0)=true
def eB(lt:Nat->Nat->Bool)(p:Array Nat)(m:Nat):Prop:=∀i j,i<j->j<m->lt (p.getD j 0) (p.getD i 0)=true
theorem qk(O:l6 lt n)(hk:1<=k)(h:C4 lt p k)(hl:lt (p.getD (k-1) 0) (p.getD k 0)=true):C4 lt p (k+1):=by
 intro i j hij hj
 by_cases hj':j<k
 ·exact h i j hij hj'
 · have ej:j=k:=by lia
   subst ej
   by_cases hi:i=j-1
   ·rw[hi];exact hl
   ·exact O.tr _ _ _ (h i (j-1) (by lia) (by lia)) hl
theorem RT(O:l6 lt n)(hk:1<=k)(h:eB lt p k)(hl:lt (p.getD k 0) (p.getD (k-1) 0)=true):eB lt p (k+1):=by
 intro i j hij hj
 by_cases hj':j<k
 ·exact h i j hij hj'
 · have ej:j=k:=by lia
   subst ej
   by_cases hi:i=j-1
   ·rw[hi];exact hl
   ·exact O.tr _ _ _ hl (h i (j-1) (by lia) (by lia))
theorem HJ(O:l6 lt n)(P:E1 p n):∀f k,1<=k->k+f<=n->C4 lt p k->tOk lt n (kas_asc p f k) (λm=>k<=m/\m<=k+f/\C4 lt p m/\(m<k+f->lt (p.getD m 0) (p.getD (m-1) 0)=true))
 |0,k,h1,h2,u=>⟨zo _,zo _,u,λz=>by lia⟩
 |f+1,k,h1,h2,u=>by
   unfold kas_asc
   refine⟨P.bd (by lia),P.bd (by lia),?_⟩
   rcases e:lt (p.getD k 0) (p.getD (k-1) 0)with _|_
   ·
     have hl:=O.tot _ _ (P.bd (show k<n by lia)) (P.bd (show k-1<n by lia)) (P.ne (by lia) (by lia) (by lia)) e
     simp only[jw,if_false]
     exact(HJ O P f (k+1) (by lia) (by lia) (qk O h1 u hl)).mono λm ⟨a,b,c,d⟩=>⟨by lia,by lia,c,λz=>d (by lia)⟩
   ·exact⟨zo _,by lia,u,λ_=>e⟩
theorem lP(O:l6 lt n)(P:E1 p n):∀f k,1<=k->k+f<=n->eB lt p k->tOk lt n (kas_desc f p k 0) (λr=>r.1=p/\r.2.2=0/\k<=r.2.1/\r.2.1<=k+f/\eB lt p r.2.1)
 |0,k,h1,h2,u=>⟨rfl,rfl,zo _,zo _,u⟩
 |f+1,k,h1,h2,u=>by
   unfold kas_desc
   refine⟨P.bd (by lia),P.bd (by lia),?_⟩
   rcases e:lt (p.getD k 0) (p.getD (k-1) 0)with _|_
   ·
     have hl:=O.tot _ _ (P.bd (show k<n by lia)) (P.bd (show k-1<n by lia)) (P.ne (by lia) (by lia) (by lia)) e
     simp only[jw,if_false]
     refine⟨P.bd (by lia),P.bd (by lia),?_⟩
     rw[hl]
     exact⟨rfl,rfl,zo _,zU _ _,u⟩
   ·
     simp only[if_true,yc,if_false,gt_iff_lt]
     exact(lP O P f (k+1) (by lia) (by lia) (RT O h1 u e)).mono λr ⟨a,b,c,d,g⟩=>⟨a,b,by lia,by lia,g⟩
theorem lD(p:Array Nat)(k:Nat):p.getD k 0= (p[k]?).getD 0:=by
 by_cases h:k<p.size<;>simp[Zv,h]
theorem HN(P:E1 p n):E1 (kas_rev p i j) n:=⟨(Xs.mp (mirror_perm p i j _)).trans P.pm⟩
theorem Fk(P:E1 p n)(hm:m<=n)(d:eB lt p m):C4 lt (kas_rev p 0 m) m:=by
 intro i j hij hj
 have hs:=P.size
 have e:∀k,k<m->(kas_rev p 0 m).getD k 0=p.getD (m-1-k) 0:=λk hk=>by
  rw[lD,lD]
  unfold kas_rev
  rw[getElem?_mirror_all (by lia),if_pos ⟨zY _,hk⟩,Nat.zero_add]
 rw[e i (by lia),e j hj]
 exact d (m-1-j) (m-1-i) (by lia) (by lia)
theorem nV(O:l6 lt n)(P:E1 p n)(h2:2<=n)(d:eB lt p 2):tOk lt n (kas_descPart 1 n p) (λr=>E1 r.2 n/\1<=r.1/\r.1<=n/\C4 lt r.2 r.1):=by
 unfold kas_descPart
 refine tOk.bind _ ((lP O P (n-(1+1)) (1+1) (by lia) (by lia) d).mono λr ⟨a,b,c,e,g⟩=>?_)
 obtain⟨r1,r2,r3⟩:=r
 dsimp only at a b c e g ⊢
 subst a b
 rw[if_neg (yc 0)]
 unfold kas_tail3
 refine tOk.bind _ ((HJ O (HN P) (n-r2) r2 (by lia) (by lia) (Fk P (by lia) g)).mono λm ⟨a1,a2,a3,_⟩=>?_)
 exact⟨HN P,by lia,by lia,a3⟩
theorem Tm(O:l6 lt n)(P:E1 p n)(h2:2<=n):tOk lt n (kas_count n p) (λr=>E1 r.2 n/\1<=r.1/\r.1<=n/\C4 lt r.2 r.1):=by
 unfold kas_count
 refine tOk.bind _ ((HJ O P (n-1) 1 (zo _) (by lia) (λi j _ _=>by lia)).mono λm ⟨a1,a2,a3,a4⟩=>?_)
 by_cases hm:m=n
 · rw[if_pos (by simpa using hm)]
   exact⟨P,a1,by lia,a3⟩
 · rw[if_neg (by simpa using hm)]
   by_cases h1:m>1
   · rw[if_pos h1]
     refine⟨P.bd (by lia),P.bd (by lia),?_⟩
     rw[a3 0 (m-1) (by lia) (by lia)]
     exact⟨P,a1,by lia,a3⟩
   · rw[if_neg h1]
     have em:m=1:=by lia
     subst em
     refine nV O P h2 λi j hij hj=>?_
     have e1:i=0:=by lia
     have e2:j=1:=by lia
     subst e1 e2
     exact a4 (by lia)
theorem CI(O:l6 lt n)(P:E1 p n)(hk:k<n)(u:C4 lt p k):∀f l r,l<=r->r<=k->r-l<=f->(∀i,i<l->lt (p.getD i 0) (p.getD k 0)=true)->(∀i,r<=i->i<k->lt (p.getD k 0) (p.getD i 0)=true)->
 tOk lt n (kas_place p k f l r) (λL=>L<=k/\(∀i,i<L->lt (p.getD i 0) (p.getD k 0)=true)/\∀i,L<=i->i<k->lt (p.getD k 0) (p.getD i 0)=true)
 |0,l,r,h1,h2,h3,a,b=>⟨by lia,a,λi hi=>b i (by lia)⟩
 |f+1,l,r,h1,h2,h3,a,b=>by
   unfold kas_place
   by_cases h:l>=r
   · rw[if_pos h]
     exact⟨by lia,a,λi hi=>b i (by lia)⟩
   · rw[if_neg h]
     have hm1:l<=(l+r) / 2:=by lia
     have hm2:(l+r) / 2<r:=by lia
     refine⟨P.bd hk,P.bd (by lia),?_⟩
     rcases e:lt (p.getD k 0) (p.getD ((l+r) / 2) 0)with _|_
     ·
       simp only[jw,if_false]
       have hl:=O.tot _ _ (P.bd hk) (P.bd (show (l+r) / 2<n by lia)) (P.ne hk (by lia) (by lia)) e
       refine CI O P hk u f _ r (by lia) h2 (by lia) (λi hi=>?_) b
       by_cases ei:i= (l+r) / 2
       ·rw[ei];exact hl
       ·exact O.tr _ _ _ (u i ((l+r) / 2) (by lia) (by lia)) hl
     ·
       simp only[if_true]
       refine CI O P hk u f l _ hm1 (by lia) (by lia) a λi hi hik=>?_
       by_cases ei:i= (l+r) / 2
       ·rw[ei];exact e
       ·exact O.tr _ _ _ e (u _ i (by lia) hik)
theorem LQ(O:l6 lt n):∀f k p,E1 p n->k+f=n->C4 lt p k->tOk lt n (kas_bin f p k) (λq=>E1 q n/\C4 lt q n)
 |0,k,p,P,h,u=>⟨P,by rw[<-h];exact u⟩
 |f+1,k,p,P,h,u=>by
   unfold kas_bin
   refine tOk.bind _ ((CI O P (show k<n by lia) u k 0 k (zY _) (zo _) (by lia) (λi hi=>by lia) (λi h1 h2=>by lia)).mono λL ⟨hL,a,b⟩=>?_)
   have hs:=P.size
   refine LQ O f (k+1) _ ⟨(Xs.mp (bubble_perm p k (k-L))).trans P.pm⟩ (by lia) ?_
   have e:∀i,(bubble p k (k-L)).getD i 0=if i=L then p.getD k 0 else if L<i/\i<=k then p.getD (i-1) 0 else p.getD i 0:=λi=>by
    rw[lD,getElem?_bubble (by lia) _ (by lia),show k-(k-L)=L by lia]
    split
    ·rw[<-lD]
    ·split<;>rw[<-lD]
   intro i j hij hj
   rw[e i,e j]
   by_cases h1:i=L
   · rw[if_pos h1,if_neg (by lia),if_pos (by lia)]
     exact b (j-1) (by lia) (by lia)
   · rw[if_neg h1]
     by_cases h2:j=L
     · rw[if_pos h2,if_neg (by lia)]
       exact a i (by lia)
     · rw[if_neg h2]
       by_cases h3:L<i
       · rw[if_pos (by lia),if_pos (by lia)]
         exact u _ _ (by lia) (by lia)
       · rw[if_neg (by lia)]
         by_cases h4:L<j
         · rw[if_pos (by lia)]
           by_cases h5:i<j-1
           ·exact u _ _ h5 (by lia)
           ·lia
         · rw[if_neg (by lia)]
           exact u _ _ hij (by lia)
theorem OQ(O:l6 lt n)(h2:2<=n):tOk lt n (kas_sort n) (λq=>E1 q n/\C4 lt q n):=by
 unfold kas_sort
 refine tOk.bind _ ((Tm O ⟨by simp⟩ h2).mono λr ⟨a,b,c,d⟩=>?_)
 by_cases h:r.1<n
 · rw[if_pos h,show max r.1 1=r.1 by lia]
   exact LQ O _ _ _ a (by lia) d
 · rw[if_neg h]
   exact⟨a,by rw[show n=r.1 by lia];exact d⟩
end
end DL
namespace DL
open PySem PySem.Spec L2
open PyProof.Rows hiding St
def N3(F:List D->M D):List D->M (List D)
 |[]=>pure []
 |d::r=>do
   let k <-noX (F [d])
   let ks <-N3 F r
   pure (k::ks)
def mG:D->Option (Int×Str)
 | .tup [.int a,.str x]=>some (a,x)
 |_=>none
def aT:D->Option (Int×Str)
 | .str x=>some (0,x)
 |_=>none
def F8(f:D->Option (Int×Str)):List D->Option (List (Int×Str))
 |[]=>some []
 |d::r=>match f d,F8 f r with
   |some a,some b=>some (a::b)
   |_,_=>none
def sC(l:List D):Option (List (Int×Str)):=match F8 mG l with
 |some q=>some q
 |none=>F8 aT l
def O0(p q:Int×Str):Bool:=if p.1=q.1 then decide (p.2.cps.toList<q.2.cps.toList)else decide (p.1<q.1)
def A8(p q:(Int×Str)×D):Bool:= !O0 q.1 p.1
def iC(qs:List (Int×Str))(l:List D):List D:=((qs.zip l).mergeSort A8).map (·.2)
def gA(F:List D->M D)(l:List D):M D:=do
 let ks <-N3 F l
 let qs <-K0 (sC ks)
 if qs.Nodup then N7 (.lst (iC qs l))else M.stuck
def uA(F:List D->M D):D->M D
 | .tup l=>if l.length<64 then gA F l else M.stuck
 | .ref r=>do
   match <-O4 r with
   | .lst l=>if l.length<64 then gA F l else M.stuck
   | .dct l=>do
     let ss <-K0 (U5 l)
     if ss.length<64 then gA F (ss.map .str)else M.stuck
   |_=>M.stuck
 |_=>M.stuck
def mB(F:List D->M D)(f:Fe):Fe:=λσ=>do
 let x <-f σ
 uA F x
theorem VE(p:Int×Str):O0 p p=false:=by
 unfold O0
 rw[if_pos rfl,decide_eq_false]
 exact ZT _
theorem FC(h1:O0 p q=true)(h2:O0 q r=true):O0 p r=true:=by
 unfold O0 at *
 by_cases e1:p.1=q.1
 · rw[if_pos e1]at h1
   by_cases e2:q.1=r.1
   · rw[if_pos e2]at h2
     rw[if_pos (e1.trans e2)]
     simp only[decide_eq_true_eq]at *
     exact Yt h1 h2
   · rw[if_neg e2]at h2
     rw[if_neg (by rw[e1];exact e2),e1]
     exact h2
 · rw[if_neg e1]at h1
   simp only[decide_eq_true_eq]at h1
   by_cases e2:q.1=r.1
   · rw[if_pos e2]at h2
     rw[if_neg (by rw[<-e2];exact e1),<-e2]
     exact decide_eq_true h1
   · rw[if_neg e2]at h2
     simp only[decide_eq_true_eq]at h2
     rw[if_neg (by lia)]
     exact decide_eq_true (by lia)
theorem aD(h:p≠q)(h1:O0 p q=false):O0 q p=true:=by
 unfold O0 at *
 by_cases e1:p.1=q.1
 · rw[if_pos e1]at h1
   rw[if_pos e1.symm]
   simp only[decide_eq_false_iff_not,decide_eq_true_eq]at *
   have hle:q.2.cps.toList<=p.2.cps.toList:=h1
   refine je λn=>h ?_
   have hle2:p.2.cps.toList<=q.2.cps.toList:=n
   have e:=List.le_antisymm hle2 hle
   cases p with|mk a x=>cases q with|mk b y=>
   dsimp only at e1 e
   subst e1
   congr 1
   cases x;cases y
   congr 1
   exact xJ.mp e
 · rw[if_neg e1]at h1
   rw[if_neg (λe=>e1 e.symm)]
   simp only[decide_eq_false_iff_not,decide_eq_true_eq]at *
   lia
theorem Pq{qs:List (Int×Str)}(nd:qs.Nodup):∀a∈qs.zip l,∀b∈qs.zip l,a.1=b.1->a=b:=by
 intro a ha b hb e
 obtain⟨i,hi,rfl⟩:=ZS.mp ha
 obtain⟨j,hj,rfl⟩:=ZS.mp hb
 simp only[List.getElem_zip]at e ⊢
 have:=(YW nd).mp e
 subst this
 rfl
theorem kN(nd:qs.Nodup){z:List ((Int×Str)×D)}(hp:z.Perm (qs.zip l))(hs:z.Pairwise λa b=>A8 a b=true):z.map (·.2)=iC qs l:=by
 unfold iC
 congr 1
 have h2:((qs.zip l).mergeSort A8).Pairwise λa b=>A8 a b=true:=yH (λa b c h1 h2=>by
  unfold A8 at *
  simp only[xB]at *
  refine xC.mpr λh=>?_
  by_cases e:a.1=b.1
  ·rw[e]at h;rw[h]at h2;cases h2
  · have:=FC h (aD (λz=>e z.symm) h1)
    rw[this]at h2;cases h2) (λa b=>by
  unfold A8
  by_cases e:a.1=b.1
  ·rw[e,VE];rfl
  · cases q:O0 b.1 a.1 with
    |false=>rfl
    |true=>
      have:O0 a.1 b.1=false:=by
       refine xC.mpr λh=>?_
       have:=FC q h
       rw[VE]at this;cases this
      rw[this];rfl) _
 refine Za (λa b ha hb h1 h2=>?_) hs h2 (hp.trans (jC _ _).symm)
 refine Pq nd a (hp.mem_iff.mp ha) b ((jC _ _).mem_iff.mp hb) (je λn=>?_)
 unfold A8 at *
 simp only[xB]at *
 have:=aD (λz=>n z.symm) h1
 rw[this]at h2;cases h2
def Cx.rm(X:Cx)(A:jA):Cx:={X with A:=A,xe:=λ_ _=>False}
section
theorem uM(I:Inv X pins σ H s)(h1:A.handled=X.A.handled)(h2:A.frames=X.A.frames/\A.guards=X.A.guards):Inv (Cx.rm X A) pins σ H s:=
 ⟨⟨I.ok.mod,I.ok.kind,I.ok.glob,I.ok.blt,I.ok.above,I.ok.inj,I.ok.has,I.ok.cab,λc=>h1.trans (I.ok.hd c),h2.1.trans I.ok.frames,I.ok.stk,I.ok.exf,I.ok.bs,I.ok.bsz,I.ok.noex,I.ok.exfs,I.ok.funs,I.ok.frf,h2.2.trans I.ok.gd⟩,I.os,I.bare,I.base,I.loc,I.cell,I.free,I.freeC,I.pin,I.hok,I.len⟩
theorem KI(I:Inv (Cx.rm X A) pins σ H s)(h1:A.handled=X.A.handled)(h2:A.frames=X.A.frames/\A.guards=X.A.guards):Inv X pins σ H s:=
 ⟨⟨I.ok.mod,I.ok.kind,I.ok.glob,I.ok.blt,I.ok.above,I.ok.inj,I.ok.has,I.ok.cab,λc=>h1.symm.trans (I.ok.hd c),h2.1.symm.trans I.ok.frames,I.ok.stk,I.ok.exf,I.ok.bs,I.ok.bsz,I.ok.noex,I.ok.exfs,I.ok.funs,I.ok.frf,h2.2.symm.trans I.ok.gd⟩,I.os,I.bare,I.base,I.loc,I.cell,I.free,I.freeC,I.pin,I.hok,I.len⟩
end
section
theorem IK(hF:M0 X.prog X.w X.K X.mg X.base CX0 k f fd ps (spD (wc X) 1 F))(hb:n4 X.K fd ps [])(hA:U4 k A)(h1:A.handled=X.A.handled)(h2:A.frames=X.A.frames/\A.guards=X.A.guards){a kS:Addr}{e1:Nat}
 (fa:∀H':Hp,H' a=none->D0 X pins H' a) (fk:∀H':Hp,H' kS=none->D0 X pins H' kS) (ne:a≠kS) {R:zv->Prop}
 (hbd:∀x s (R:zv->Prop),zC (zH X.prog X.w) A (call (.ref f) [x]) (λk s'=>∃ks e,xl ks<64/\s'.heap.get? kS=some (jh "list" (zR ks) e)/\R {s' with heap:=s'.heap.update kS (jg (·.push k))}) (λ_ _=>False) s->
   zC (zH X.prog X.w) A (body x ⟨⟩) (λr s'=>r= .yield ⟨⟩/\R s') E s):∀(r:List D) (rv:List V) ru (dn:List D) (dv:List V) (du:List zj) (e:Nat) (μ:List Addr) (G:DH) (H:Hp) (s:zv),
   u9 (wc X) μ H r rv->J1 rv ru->u9 (wc X) μ H dn dv->J1 dv du->J0 (wc X) μ G H->Inv X pins σ H s->s.heap.get? kS=some (jh "list" (zR du) e)->s.heap.get? a=some (jh "list" #[] e1)->H a=none->H kS=none->du.length+ru.length<64->
   d9 (wc X) ZF μ H (N3 F r G) (λks X9 G' H'=>∀(s':zv) (kv:List V) (ku:List zj) (e':Nat),Ext μ H X9 H'->J0 (wc X) X9 G' H'->u9 (wc X) X9 H' (dn++ks) kv->J1 kv ku->Inv X pins σ H' s'->s'.heap.get? kS=some (jh "list" (zR ku) e')->s'.heap.get? a=some (jh "list" #[] e1)->H' a=none->H' kS=none->R s')->
   zC (zH X.prog X.w) A (forIn ru PUnit.unit body) (λ_ s'=>R s') E s
 |[],_,_,dn,dv,du,e,μ,G,H,s,r1,r2,q1,q2,hr,I,g1,g2,n1,n2,hl,p=>by
   cases r1;cases r2
   rw[XB]
   exact zq (d9.ok p hr s dv du e (Ext.refl _ _) hr (by rw[yz];exact q1) q2 I g1 g2 n1 n2)
 |d::r,_,_,dn,dv,du,e,μ,G,H,s,r1,r2,q1,q2,hr,I,g1,g2,n1,n2,hl,p=>by
   obtain⟨v,rv,rfl,rd,rr⟩:=r1
   cases r2 with
   |cons ru rur=>
   rename_i u ur
   rw[ZH]
   have hfp:∀b∈ [a,kS],D0 X pins H b:=λb hb=>by
    rcases zp.mp hb with rfl|hb
    ·exact fa H n1
    ·rw[zk]at hb;subst hb;exact fk H n2
   have IX:=uM (I.pinned hfp (λb hb=>by
    rcases zp.mp hb with rfl|hb
    ·exact⟨_,g2,λv z=>by cases z⟩
    ·rw[zk]at hb;subst hb;exact⟨_,g1,λv z=>by cases z⟩)) h1 h2
   have pb:=NA (d9.bind p)
   have call:=HD (X:=Cx.rm X A) (Q:=λv' H'=>∃k X1 G1,Ext μ H X1 H'/\J0 (wc X) X1 G1 H'/\f9 (wc X) X1 H' k v'/\d9 (wc X) ZF X1 H' ((N3 F r >>= λks=>pure (k::ks)) G1) _) hF hA hb .nil RD IX (show J1 [v] [u]from .cons ru .nil)
    (⟨rfl, [d],μ,G,⟨v, [],rfl,rd,rfl⟩,hr,pb.mono λk X1 G1 H1 x1 hr1 p1 v' rv'=>⟨k,X1,G1,x1,hr1,rv',p1⟩⟩)
   refine za (jE (hbd u s (λs'=>zC (zH X.prog X.w) A (forIn ur PUnit.unit body) (λ_ s'=>R s') E s') (jE call (λkv s' hk=>?_) λ_ _ z=>z)) (λq s' hq=>?_) λ_ _ z=>z)
   · obtain⟨v',H',I',rv',k0,X1,G1,x1,hr1,rk,p1⟩:=hk
     have I2:=KI I' h1 h2
     obtain⟨g1',n2',_⟩:=I2.pin (kS,jh "list" (zR du) e) (zE _ (zE _ (R4 (by simp) g1)))
     obtain⟨g2',n1',_⟩:=I2.pin (a,jh "list" #[] e1) (zE _ (zE _ (R4 (by simp) g2)))
     rw[zM]at hl
     refine⟨du,e,by lia,g1',?_⟩
     have ea:(zR du).push kv=zR (du++[kv]):=by simp
     obtain⟨c2,hc2⟩:∃c2,(s'.heap.update kS (jg (·.push kv))).get? kS=some (jh "list" (zR (du++[kv])) c2):=⟨_,by rw[<-ea];exact yX g1' (·.push kv)⟩
     have I3:=aA (h':=s'.heap.update kS (jg (·.push kv))) (t':=s'.toks) I2.unpinned (λb hb=>by rw[zk]at hb;subst hb;exact fk H' n2') (λb o hb e=>by
      rw[zk]at hb
      rw[jz _ _ _ _ hb];exact e)
     refine IK hF hb hA h1 h2 fa fk ne hbd r rv ur (dn++[k0]) (dv++[v']) (du++[kv]) c2 X1 G1 H' _ (rr.mono x1) rur (u9.append (q1.mono x1) ⟨v', [],rfl,rk,rfl⟩) (q2.append (show J1 [v'] [kv]from .cons rv' .nil)) hr1 I3 hc2 (by rw[jz _ _ _ _ ne];exact g2') n1' n2' (by rw[zA,jc];lia) ?_
     refine(d9.bind p1).mono λks WZ G2 H2 x2 hr2 p2 s3 kv2 ku2 e2 x2' hr2' a1 a2 a3 a4 a5 a6 a7=>?_
     exact d9.ok p2 hr2 s3 kv2 ku2 e2 (x1.trans x2) hr2 (by rw[xA]at a1;exact a1) a2 a3 a4 a5 a6 a7
   · obtain⟨rfl,hq⟩:=hq
     exact hq
end
section
theorem FS{ch:List Addr}(I:Inv X pins σ H s)(hf:∀b∈ch,D0 X pins H b)(ha:a∈ch)(k:∀b o,b∉ch->s.heap.get? b=some o->h'.get? b=some o)
 (new:R0 X.prog X.w (upd H a (.lst ws)) h' a (.lst ws)):Inv X pins σ (upd H a (.lst ws)) {s with heap:=h',toks:=t'}:=by
 have hq:H a=none:=(hf a ha).1
 have nch:∀b u,H b=some u->b∉ch:=λb u e z=>by rw[(hf b z).1]at e;cases e
 refine I.step (λb hb=>⟨(hf b hb).2.2.2.1,(hf b hb).2.1,(hf b hb).2.2.2.2.1,(hf b hb).2.2.2.2.2⟩) (λb o _ _ hc e _=>k b o hc e) (λb o _ _ hc e _=>⟨o.slots,k b o hc e⟩)
  (λb o hc e n=>by rw[v7 (λz=>hc (by rw[z];exact ha))];exact n) (λb o hc e=>⟨o,k b o hc e⟩) (λb xs e=>by rw[v7 (v6 e hq)];exact e) (λb o u e=>by rw[v7 (v6 e hq)];exact e)
  (λb ps e=>⟨#[],by rw[v7 (v6 e hq),e];simp⟩) (λm hm=>?_) (λb u e=>?_) I.bare
 · obtain⟨o,es,ep,ho,r⟩:=hm
   exact⟨o,es,ep,k _ o (λz=>(hf _ z).2.1 rfl) ho,r⟩
 · by_cases hb:b=a
   · subst hb
     rw[N8]at e
     cases e
     exact new
   · rw[v7 hb]at e
     refine(I.hok b u e).stay (λc v hc q=>k c v ?_ q) (λc q=>by rw[v7 (v6 q hq)];exact q) λc xs q=>by rw[v7 (v6 q hq)];exact q
     rcases hc with z|z
     ·rw[z];exact nch b u e
     ·exact nch c _ z
def RA(h:Heap)(u:zj)(q:Int×Str):Prop:=∃a t t',u= .ref a/\Yk h a #[.int q.1 t,.str q.2 t']
def GA(u:zj)(q:Int×Str):Prop:=∃t,q.1=0/\u= .str q.2 t
def D8(P:zj->Int×Str->Prop)(ku:List zj)(qs:List (Int×Str)):Prop:=∀(i:Nat) (q:Int×Str),qs[i]? =some q->∃u,ku[i]? =some u/\P u q
theorem AH{g:D->Option (Int×Str)}{P:zj->Int×Str->Prop}(hg:∀d q v u,g d=some q->f9 (wc X) μ H d v->K4 v u->P u q):∀ {ks qs kv ku},F8 g ks=some qs->u9 (wc X) μ H ks kv->J1 kv ku->qs.length=ku.length/\D8 P ku qs
 |[],qs,kv,ku,e,r,rv=>by
   cases e;cases r;cases rv
   exact⟨rfl,λi q z=>by simp at z⟩
 |d::r,qs,kv,ku,e,rr,rv=>by
   obtain⟨v,tl,rfl,rd,rt⟩:=rr
   cases rv with
   |cons ru rur=>
   rename_i u ur
   unfold F8 at e
   rcases h1:g d with _|a
   ·rw[h1]at e;cases e
   rcases h2:F8 g r with _|b
   ·rw[h1,h2]at e;cases e
   rw[h1,h2]at e
   cases e
   obtain⟨hl,hk⟩:=AH hg h2 rt rur
   refine⟨by simp[hl],λi q z=>?_⟩
   cases i with
   |succ i=>simpa using hk i q (by simpa using z)
   |zero=>
     simp at z
     subst z
     exact⟨u,rfl,hg d a v u h1 rd ru⟩
theorem QR(I:Inv X pins σ H s){ks qs kv ku}(e:sC ks=some qs)(rr:u9 (wc X) μ H ks kv)(rv:J1 kv ku):qs.length=ku.length/\(D8 (RA s.heap) ku qs\/D8 GA ku qs):=by
 unfold sC at e
 rcases h:F8 mG ks with _|q
 · rw[h]at e
   have:=AH (P:=GA) (λd q v u h1 rd ru=>by
    rcases d with _|_|_|x|_|_|_|_<;>try (cases h1;done)
    cases h1
    rw[A1 rd]at ru
    obtain⟨t,rfl⟩:=ru
    exact⟨t,rfl,rfl⟩) e rr rv
   exact⟨this.1,.inr this.2⟩
 · rw[h]at e
   cases e
   have:=AH (P:=RA s.heap) (λd q v u h1 rd ru=>by
    unfold mG at h1
    split at h1
    · cases h1
      unfold f9 at rd
      obtain⟨ad,vs,rfl,q,rl⟩:=rd
      obtain⟨v1,t1,rfl,e1,v2,t2,rfl,e2,e3⟩:=rl
      cases e3
      rw[L0 e1,A1 e2]at q
      cases ru
      obtain⟨its,rvs,tp,_⟩:=I.tuple q
      cases rvs with
      |cons r1 rr1=>
        cases rr1 with
        |cons r2 rr2=>
          cases rr2
          obtain⟨t,rfl⟩:=r1
          obtain⟨t',rfl⟩:=r2
          exact⟨ad,t,t',rfl,tp⟩
    ·cases h1) h rr rv
   exact⟨this.1,.inl this.2⟩
end
section
theorem fY(hx:GA u q)(hy:GA u' q')(h:C (O0 q q') s):zC (zH prog w) A (keyLt' Jr u u') C E s:=by
 obtain⟨t,e,rfl⟩:=hx
 obtain⟨t',e',rfl⟩:=hy
 rw[YB]
 unfold O0 at h
 rw[if_pos (e.trans e'.symm)]at h
 exact oneLt_str h
theorem SX(hx:RA s.heap u q)(hy:RA s.heap u' q')(h:C (O0 q q') s):zC (zH prog w) A (keyLt' (tuples' true) u u') C E s:=by
 obtain⟨a,t,t',rfl,o,ho,hc,n,hd⟩:=hx
 obtain⟨b,v,v',rfl,o2,ho2,hc2,n2,hd2⟩:=hy
 refine PySem.W.kat_lt ho hd ho2 hd2 ?_
 show PySem.W.KatLex prog w A true _ C [(.int q.1 t,.int q'.1 v),(.str q.2 t',.str q'.2 v')] 0 s
 refine Zk (PySem.wpAny_eqBool_int (Xe (λe=>?_) λe=>?_))
 · have e1:q.1=q'.1:=by simpa using e
   refine Zp (Zk (eqBool_str (Xe (λe=>?_) λe=>?_)))
   · have e2:q.2=q'.2:=by simpa using e
     have eq:q=q':=Xy e1 e2
     refine Zp (PySem.W.kat_nil ?_)
     rw[eq,VE]at h
     exact h
   · refine Xd (PySem.W.kat_one _ _ (PySem.P.lt_str ?_))
     unfold O0 at h
     rw[if_pos e1]at h
     exact h
 · have e1:¬q.1=q'.1:=by simpa using e
   refine Xd ?_
   show zC (zH prog w) A (oneLt' true _ _) C _ s
   rw[<-YB]
   refine PySem.W.kat_lt_int ?_
   unfold O0 at h
   rw[if_neg e1]at h
   exact h
theorem AM{st:SortSt}(hout:(Yj st).map (·.2)=zR out)(hz:out.length<64)(hkz:ku.length<64)(hf:Xq st=none)(ho1:s.heap.get? kS=some (jh "list" (zR ku) e))(ho2:s.heap.get? a=some (jh "list" #[] e1))(ne:a≠kS)
 (h:∀(h':Heap) (e':Nat),(∀b o,b∉ [a,kS]->s.heap.get? b=some o->h'.get? b=some o)->h'.get? a=some (jh "list" (zR out) e')->P (.done (.ret .none)) {s with heap:=h'}):zC (zH prog w) A (ksk_tail a false e1 (.ref kS) st) P E s:=by
 have na:(s.heap.update kS (jg λ_=>(#[]:Array zj))).get? a=some (jh "list" #[] e1):=by rw[jz _ _ _ _ ne];exact ho2
 obtain⟨c2,hc2⟩:∃c2,((s.heap.update kS (jg λ_=>(#[]:Array zj))).update a (jg λ_=>zR out)).get? a=some (jh "list" (zR out) c2):=⟨_,yX na λ_=>zR out⟩
 unfold ksk_tail
 try dsimp only
 rw[hout]
 refine za (xo ho1 rfl ?_ (by rw[zi,jH];lia) (zY _))
 refine za (xh ?_)
 refine za (YA na rfl ?_)
 refine za (xo na rfl ?_ (zY _) (zI (xG (zi ..)) (by rw[jH];lia)))
 rw[hf]
 simp only[bne_self_eq_false,jw,if_false]
 refine zq (h _ c2 (λb o hb eo=>?_) hc2)
 have hb':b≠a/\b≠kS:=by simpa using hb
 rw[jz _ _ _ _ hb'.1,jz _ _ _ _ hb'.2]
 exact eo
theorem pY{qs:List (Int×Str)}{ku:List zj}(hq:qs.length=ku.length)(h2:2<=ku.length)(hk:D8 (RA s.heap) ku qs\/D8 GA ku qs):∃kd,(∀(Q:SortKind->zv->Prop) (E:VSP),Q kd s->zC (zH prog w) A (keyKind' ku.toArray) Q E s)/\∀(i j:Nat) q q' C,qs[i]? =some q->qs[j]? =some q'->C (O0 q q') s->xN prog w A kd ku i j C s:=by
 rcases hk with hk|hk
 · obtain⟨fs,T,hfs,hT⟩:∃fs:List zj,YL s.heap ku fs/\0<fs.length/\∀v∈fs,∃n t,v= .int n t:=by
    have gen:∀(ku:List zj) (qs:List (Int×Str)),qs.length=ku.length->D8 (RA s.heap) ku qs->∃fs:List zj,YL s.heap ku fs/\fs.length=ku.length/\∀v∈fs,∃n t,v= .int n t:=by
     intro ku
     induction ku with
     |nil=>exact λqs _ _=>⟨[],trivial,rfl,λv hv=>by cases hv⟩
     |cons u r ih=>
       intro qs hl hk
       rcases qs with _|⟨q,qr⟩
       ·simp at hl
       obtain⟨u',e1,ad,t,t',rfl,o,ho,hc,n,hd⟩:=hk 0 q rfl
       simp at e1
       subst e1
       obtain⟨fs,f1,f2,f3⟩:=ih qr (by simpa using hl) λi q hq=>by simpa using hk (i+1) q (by simpa using hq)
       refine⟨.int q.1 t::fs,YK ho hc hd rfl f1,by simp[f2],λv hv=>?_⟩
       rcases zp.mp hv with rfl|hv
       ·exact⟨_,_,rfl⟩
       ·exact f3 v hv
    obtain⟨fs,f1,f2,f3⟩:=gen ku qs hq hk
    exact⟨fs,f1,by lia,f3⟩
   refine⟨_,λQ E h=>JQ (T:=.type "int") T hfs (λv hv=>?_) (by decide) h,λi j q q' C e1 e2 hC=>?_⟩
   · obtain⟨n,t,rfl⟩:=hT v hv
     exact YS rfl
   · obtain⟨u,u1,u2⟩:=hk i _ e1
     obtain⟨v,v1,v2⟩:=hk j _ e2
     unfold xN
     rw[zD,zD,u1,v1]
     exact SX u2 v2 hC
 · have gen:∀(ku:List zj) (qs:List (Int×Str)),qs.length=ku.length->D8 GA ku qs->StrsAre ku (qs.map (·.2)):=by
    intro ku
    induction ku with
    |nil=>
      intro qs hl _
      rcases qs with _|⟨q,r⟩
      ·exact .nil
      ·simp at hl
    |cons u r ih=>
      intro qs hl hk
      rcases qs with _|⟨q,qr⟩
      ·simp at hl
      obtain⟨u',e1,t,_,rfl⟩:=hk 0 q rfl
      simp at e1
      subst e1
      exact .cons q.2 t (ih qr (by simpa using hl) λi q hq=>by simpa using hk (i+1) q (by simpa using hq))
   have hS:=gen ku qs hq hk
   refine⟨Jr,λQ E h=>?_,λi j q q' C e1 e2 hC=>?_⟩
   · rcases ku with _|⟨v1,_|⟨v2,vr⟩⟩
     ·simp at h2
     ·simp at h2
     · rw[keyKind_strs hS]
       exact zq h
   · obtain⟨u,u1,u2⟩:=hk i _ e1
     obtain⟨v,v1,v2⟩:=hk j _ e2
     unfold xN
     rw[zD,zD,u1,v1]
     exact fY u2 v2 hC
theorem Lb{e e1:Nat}{ku vs:List zj}{qs:List (Int×Str)}(hl:ku.length=vs.length)(h64:vs.length<64)(hq:qs.length=ku.length)(hk:D8 (RA s.heap) ku qs\/D8 GA ku qs)(nd:qs.Nodup)
 (ho1:s.heap.get? kS=some (jh "list" (zR ku) e)) (ho2:s.heap.get? a=some (jh "list" #[] e1)) (ne:a≠kS)
 (h:∀(h':Heap) (e':Nat) (p:List Nat),p.Perm (jr vs.length)->p.Pairwise (λi j=>O0 (qs.getD i (0, "")) (qs.getD j (0, ""))=true)->(∀b o,b∉ [a,kS]->s.heap.get? b=some o->h'.get? b=some o)->h'.get? a=some (jh "list" (zR (p.map λi=>vs.getD i Value.none)) e')->P (.done (.ret .none)) {s with heap:=h'}):
 zC (zH prog w) A (ksk_end a false vs.toArray e1 (.ref kS) (zR ku)) P E s:=by
 unfold ksk_end
 try dsimp only
 simp only[jw,if_false]
 by_cases h2:vs.toArray.size<2
 · rw[if_pos h2,if_pos h2]
   refine za (zq ?_)
   rw[StateT.run_pure]
   refine za (zq ?_)
   dsimp only
   have hv:(Yj (SortSt.mk' general' ((zR ku).zip vs.toArray) #[] 7 none)).map (·.2)=zR ((jr vs.length).map λi=>vs.getD i Value.none):=by
    show ((zR ku).zip vs.toArray).map (·.2)=_
    apply xJ.mp
    rw[Array.toList_map]
    apply xK
    ·simp[hl]
    · intro i hi hj
      simp at hi hj ⊢
      simp[hj]
   refine AM hv (by simp;lia) (by lia) rfl ho1 ho2 ne λh' e' k1 k2=>h h' e' _ (YN _) ?_ k1 k2
   have:vs.length<2:=by simpa using h2
   match hn:vs.length,this with
   |0,_=>simp
   |1,_=>simp[List.range_succ]
 · rw[if_neg h2,if_neg h2]
   have hn2:2<=vs.length:=by simpa using h2
   let lt:Nat->Nat->Bool:=λi j=>O0 (qs.getD i (0, "")) (qs.getD j (0, ""))
   have gq:∀i,i<vs.length->qs[i]? =some (qs.getD i (0, "")):=λi hi=>by
    rw[zD,ze (by lia)];rfl
   have O:l6 lt vs.length:=⟨λi j k h1 h2=>FC h1 h2,λi j hi hj hij h=>aD (λee=>hij ?_) h⟩
   case refine_1=>
    have e1:=gq i hi
    have e2:=gq j hj
    rw[ee]at e1
    have li:i<qs.length:=by lia
    exact(xy li nd).mp (e1.trans e2.symm)
   obtain⟨kd,hkd,hlt⟩:=pY hq (by lia) hk
   refine za (hkd _ _ ?_)
   · have run:=tOk.wp (λi j C hi hj hC=>hlt i j _ _ C (gq i hi) (gq j hj) hC) _ (OQ O hn2)
     refine za (jE (PySem.W.kat_run (Q:=λst' s'=>∃p:Array Nat,p.size=vs.length/\Yj st'=p.map (JR ((zR ku).zip vs.toArray))/\Xq st'=none/\s'=s/\E1 p vs.length/\C4 lt p vs.length) hl hn2 h64 (λp st' s' a1 a2 a3 a4=>⟨p,a1,a2,a3,a4⟩) run) ?_ λ_ _ x=>x)
     rintro⟨⟨⟩,st'⟩ s' ⟨p,hp,har,hf,rfl,P1,U⟩
     try dsimp only
     refine AM (JP hl har) (by rw[zc,jW,hp];exact h64) (by lia) hf ho1 ho2 ne λh' e' k1 k2=>h h' e' p.toList P1.pm ?_ k1 k2
     rw[Zi]
     intro i j hi hj hij
     have hi':i<p.size:=by simpa using hi
     have hj':j<p.size:=by simpa using hj
     have:=U i j hij (by lia)
     simpa [Zv,hi',hj',lt]using this
end
section
theorem Rm{p:List Nat}{l:List α}(h:p.Perm (jr n))(hn:l.length=n):(p.map λi=>l.getD i d).Perm l:=by
 have e:(jr n).map (λi=>l.getD i d)=l:=by
  apply xK
  ·simp[hn]
  · intro i hi hj
    simp[hj]
 have:=h.map λi=>l.getD i d
 rw[e]at this
 exact this
theorem UI{qs:List (Int×Str)}{l:List D}(h1:i<qs.length)(h2:i<l.length):(qs.zip l).getD i ((0, ""),.non)= (qs[i],l[i]):=by
 rw[zD,ze (by simp;lia),List.getElem_zip];rfl
theorem Dk{qs:List (Int×Str)}{vs:List zj}{p:List Nat}(hl:qs.length=l.length)(rl:u9 (wc X) μ H l ws)(rv:J1 ws vs)(nd:qs.Nodup)(hp:p.Perm (jr vs.length))(hs:p.Pairwise (λi j=>O0 (qs.getD i (0, "")) (qs.getD j (0, ""))=true)):
 ∃ws',J1 ws' (p.map λi=>vs.getD i Value.none)/\u9 (wc X) μ H (iC qs l) ws'/\ws'.length=vs.length:=by
 have hlv:l.length=vs.length:=by rw[rl.length,rv.length]
 have hz:(qs.zip l).length=vs.length:=by simp[hl,hlv]
 have e:=kN nd (Rm hp hz) (by
  rw[yf]
  refine hs.imp_of_mem λ{i j} hi hj h=>?_
  have li:i<vs.length:=by simpa using hp.mem_iff.mp hi
  have lj:j<vs.length:=by simpa using hp.mem_iff.mp hj
  have ei:((qs.zip l).getD i ((0, ""),.non)).1=qs.getD i (0, ""):=by rw[UI (by lia) (by lia),zD,ze (by lia)];rfl
  have ej:((qs.zip l).getD j ((0, ""),.non)).1=qs.getD j (0, ""):=by rw[UI (by lia) (by lia),zD,ze (by lia)];rfl
  unfold A8
  rw[ei,ej]
  simp only[xB]
  refine xC.mpr λh2=>?_
  have:=FC h h2
  rw[VE]at this;cases this)
 rw[xa]at e
 have main:∀p:List Nat,(∀i∈p,i<vs.length)->∃ws',J1 ws' (p.map λi=>vs.getD i Value.none)/\u9 (wc X) μ H (p.map λi=>((qs.zip l).getD i ((0, ""),.non)).2) ws'/\ws'.length=p.length:=by
  intro p
  induction p with
  |nil=>exact λ_=>⟨[],.nil,rfl,rfl⟩
  |cons i r ih=>
    intro hi
    obtain⟨ws',a1,a2,a3⟩:=ih λj hj=>hi j (zn _ hj)
    have li:=hi i (by simp)
    obtain⟨v,e1,r1⟩:=rl.get (d:=l[i]'(by lia)) (ze (by lia))
    obtain⟨u,e2,r2⟩:=rv.get e1
    refine⟨v::ws',?_,⟨v,ws',rfl,?_,a2⟩,by simp[a3]⟩
    · have:vs.getD i Value.none=u:=by rw[zD,e2];rfl
      rw[zL,this]
      exact .cons r2 a1
    · have:((qs.zip l).getD i ((0, ""),.non)).2=l[i]'(by lia):=by rw[UI (by lia) (by lia)]
      show f9 (wc X) μ H (((qs.zip l).getD i ((0, ""),.non)).2) v
      rw[this]
      exact r1
 obtain⟨ws',a1,a2,a3⟩:=main p λi hi=>by simpa using hp.mem_iff.mp hi
 exact⟨ws',a1,by rw[<-e];exact a2,by rw[a3,hp.length_eq];simp⟩
theorem CO(hF:M0 X.prog X.w X.K X.mg X.base CX0 k f fd ps (spD (wc X) 1 F))(hb:n4 X.K fd ps [])(hrm:U4 (k+2) X.A)(I:Inv X pins σ H s)(hr:J0 (wc X) μ G H)(h64:l.length<64)
 (hcol:∀Q',(∀h1 tk vs ws,(∀b o,s.heap.get? b=some o->h1.get? b=some o)->J1 ws vs->u9 (wc X) μ H l ws->Q' vs {s with heap:=h1,toks:=tk})->zC (zH X.prog X.w) X.A.in1 (collect u) Q' X.xe s)
 (p:d9 (wc X) Z μ H (gA F l G) (λd X9 _ H'=>∀v,f9 (wc X) X9 H' d v->Q v H')):zC (zH X.prog X.w) X.A (call (.builtin "sorted") [u] [(jO "key",.ref f)]) (EP X pins σ Q) X.xe s:=by
 refine call_function_entry_kw Jb Xp Xr (ksk_s1 _ _) ?_
 unfold yM.«sorted»
 refine za (zq ?_)
 refine za (hcol _ λh1 tk vs ws k1 rv rl=>?_)
 have hlv:l.length=vs.length:=by rw[rl.length,rv.length]
 refine za (xm ?_ (by rw[jH];lia))
 have I1:Inv X pins σ H {s with heap:=h1,toks:=tk}:=I.kept k1
 have hoL:(h1.push (jh "list" vs.toArray 0)).get? h1.objs.size=some (jh "list" vs.toArray 0):=zw _ rfl
 refine za (ju (wpAny_call_entry_kw Yz ⟨_,hoL,rfl⟩ Yi ?_ (ksk_l1 _ _)))
 show zC (zH X.prog X.w) X.A.in1.in1 (yM.«list.sort» ⟨[.ref h1.objs.size], [(jO "key",.ref f)]⟩) _ _ _
 rw[ksk_t1]
 unfold ksk_tree
 refine za (listItems_at hoL rfl ?_)
 refine za (xo hoL rfl ?_ (by rw[zi,jH];lia) (zY _))
 obtain⟨e1,ho1⟩:∃e1,((h1.push (jh "list" vs.toArray 0)).update h1.objs.size (jg λ_=>(#[]:Array zj))).get? h1.objs.size=some (jh "list" #[] e1):=⟨_,yX hoL λ_=> #[]⟩
 refine za (YA ho1 rfl ?_)
 refine za (Jl ?_ (by show vs.length<=_;rw[jH];lia))
 refine za (xm ?_ (zY _))
 refine ju ?_
 have hsz:((h1.push (jh "list" vs.toArray 0)).update h1.objs.size (jg λ_=>(#[]:Array zj))).objs.size=h1.objs.size+1:=by rw[Heap.size_update,Xf]
 have hkS:(((h1.push (jh "list" vs.toArray 0)).update h1.objs.size (jg λ_=>(#[]:Array zj))).push (jh "tuple" vs.toArray 0)).objs.size=h1.objs.size+2:=by rw[Xf,hsz]
 have keep:∀b o,h1.get? b=some o->((((h1.push (jh "list" vs.toArray 0)).update h1.objs.size (jg λ_=>(#[]:Array zj))).push (jh "tuple" vs.toArray 0)).push (jh "list" #[] 0)).get? b=some o:=λb o q=>by
  have hlt:b<h1.objs.size:=zu q
  rw[xt _ _ _ (by rw[hkS];exact zF (yD (yD hlt))),xt _ _ _ (by rw[hsz];exact zF (yD hlt)),jz _ _ _ _ (zF hlt),xt _ _ _ (zF hlt)]
  exact q
 have I2:Inv X pins σ H {s with heap:=(((h1.push (jh "list" vs.toArray 0)).update h1.objs.size (jg λ_=>(#[]:Array zj))).push (jh "tuple" vs.toArray 0)).push (jh "list" #[] 0),toks:=tk}:=I1.kept keep
 have na:H h1.objs.size=none:=I1.hok.fresh (zo _)
 have nk:H (h1.objs.size+2)=none:=I1.hok.fresh (zU _ _)
 have ga:((((h1.push (jh "list" vs.toArray 0)).update h1.objs.size (jg λ_=>(#[]:Array zj))).push (jh "tuple" vs.toArray 0)).push (jh "list" #[] 0)).get? h1.objs.size=some (jh "list" #[] e1):=zd _ (zd _ ho1)
 have gk:((((h1.push (jh "list" vs.toArray 0)).update h1.objs.size (jg λ_=>(#[]:Array zj))).push (jh "tuple" vs.toArray 0)).push (jh "list" #[] 0)).get? (h1.objs.size+2)=some (jh "list" (zR []) 0):=by
  rw[<-hkS];exact zw _ rfl
 have fa:∀H':Hp,H' h1.objs.size=none->D0 X pins H' h1.objs.size:=λH' hn=>I1.fpOk (zo _) hn
 have fk:∀H':Hp,H' (h1.objs.size+2)=none->D0 X pins H' (h1.objs.size+2):=λH' hn=>I1.fpOk (zU _ _) hn
 have ne:h1.objs.size≠h1.objs.size+2:=by lia
 unfold gA at p
 have pk:d9 (wc X) ZF μ H (N3 F l G) (λks X9 G' H'=>ks.length=l.length/\d9 (wc X) Z X9 H' ((K0 (sC ks) >>= λqs=>if qs.Nodup then N7 (.lst (iC qs l))else M.stuck) G') (λd X9 _ H'=>∀v,f9 (wc X) X9 H' d v->Q v H')):=by
  have q:=d9.bind p
  have hkl:∀(l:List D) (G:DH) (ks:List D) (G':DH),N3 F l G=some (.ok ks,G')->ks.length=l.length:=by
   intro l
   induction l with
   |nil=>intro G ks G' z;cases z;rfl
   |cons d r ih=>
     intro G ks G' z
     unfold N3 at z
     rw[M.bind_eq]at z
     match h:noX (F [d]) G,z with
     |some (.ok kk,G1),z=>
       dsimp only at z
       rw[M.bind_eq]at z
       match h2:N3 F r G1,z with
       |some (.ok ks,G2),z=>
         cases z
         simp[ih _ _ _ h2]
  have kne:∀(l:List D) (G:DH) (x:Str) (G':DH),N3 F l G≠some (.error x,G'):=by
   intro l
   induction l with
   |nil=>intro G x G' z;cases z
   |cons d r ih=>
     intro G x G' z
     unfold N3 at z
     rw[M.bind_eq]at z
     have nx:∀x G',noX (F [d]) G≠some (.error x,G'):=λx G' z=>by
      unfold noX at z
      try dsimp only at z
      split at z<;>cases z
     match h:noX (F [d]) G,z with
     |some (.error y,G1),z=>exact nx _ _ h
     |some (.ok kk,G1),z=>
       dsimp only at z
       rw[M.bind_eq]at z
       match h2:N3 F r G1,z with
       |some (.error y,G2),z=>exact ih _ _ _ h2
       |some (.ok ks,G2),z=>cases z
  match hh:N3 F l G,q with
  |some (.ok ks,G1),q=>exact λX9 H' x h=>⟨hkl _ _ _ _ hh,q X9 H' x h⟩
  |some (.error x,G1),q=>exact(kne _ _ _ _ hh).elim
 rw[hkS]
 show zC (zH X.prog X.w) X.A.in1.in1 (ksk_rest h1.objs.size (.ref f) false vs.toArray e1 (.ref (h1.objs.size+2))) _ _ _
 unfold ksk_rest
 refine za (Zn ?_)
 first
  |rw[List.forIn_toArray]
  |(rw[<-JX];simp only[List.toList_toArray])
  |rw[<-JX]
 refine za (IK (σ:=σ) hF hb hrm.in1.in1 rfl ⟨rfl,rfl⟩ fa fk ne (λx s0 R hx=>?_) l ws vs [] [] [] 0 μ G H _ rl rv rfl .nil hr I2 gk ga na nk (by simp;lia) ?_)
 · refine za (JK (jE hx (λkv s'' hk=>?_) λ_ _ hF=>hF.elim))
   obtain⟨ks,e,hks,g,hR⟩:=hk
   try dsimp only
   refine za (xo g rfl ?_ (by rw[zi,jH];lia) (zI (xG (Array.size_push ..)) (by rw[zi,jH];lia)))
   exact zq ⟨rfl,hR⟩
 · refine pk.mono λks X9 G' H' x1 hr1 ⟨hks,p1⟩ s' kv ku e' _ _ q1 q2 I' g1 g2 n1 n2=>?_
   rw[xR]at q1
   obtain⟨qs,eq,p2⟩:=V2 p1
   split at p2
   case isFalse=>exact p2.elim
   rename_i nd
   obtain⟨hl1,hk1⟩:=QR I' eq q1 q2
   try dsimp only
   refine za (listItems_at g1 rfl ?_)
   have hkv:ku.length=vs.length:=by
    rw[<-q2.length,<-q1.length,hks,hlv]
   refine Lb hkv (by lia) hl1 hk1 nd g1 g2 ne λh' e2 pp hp hs keep2 gg=>?_
   have rl':u9 (wc X) X9 H' l ws:=rl.mono x1
   obtain⟨ws',a1,a2,a3⟩:=Dk (by rw[hl1,hkv,hlv]) rl' rv nd hp hs
   refine⟨_,rfl,zq ⟨_,rfl,.ref h1.objs.size,upd H' h1.objs.size (.lst ws'),FS I' (λb hb=>?_) (by simp) keep2 ⟨by rw[a3,jH];lia,_,e2,a1,gg⟩,rfl,V3 hr1 a2 p2 _ n1⟩⟩
   rcases zp.mp hb with rfl|hb
   ·exact fa _ n1
   ·rw[zk]at hb;subst hb;exact fk _ n2
theorem EY(hc:X.calm=true)(hF:M0 X.prog X.w X.K X.mg X.base CX0 k f fd ps (spD (wc X) 1 F))(hb:n4 X.K fd ps [])(hrm:U4 (k+2) X.A)(I:Inv X pins σ H s)(hr:J0 (wc X) μ G H)(rd:f9 (wc X) μ H d v)(ru:K4 v u)
 (p:d9 (wc X) Z μ H (uA F d G) (λd X9 _ H'=>∀v,f9 (wc X) X9 H' d v->Q v H')):zC (zH X.prog X.w) X.A (call (.builtin "sorted") [u] [(jO "key",.ref f)]) (EP X pins σ Q) X.xe s:=by
 have seq:∀ {a:Addr} {T:String} {o:Obj} {its:List zj} {vs:List V} {n:Nat} {l:List D},(T= "list"\/T= "tuple")->s.heap.get? a=some o->o.cls= .type T->o.data= .seq its.toArray n->J1 vs its->u9 (wc X) μ H l vs->vs.length<=zg->
  d9 (wc X) Z μ H ((if l.length<64 then gA F l else M.stuck:M D) G) (λd X9 _ H'=>∀v,f9 (wc X) X9 H' d v->Q v H')->zC (zH X.prog X.w) X.A (call (.builtin "sorted") [.ref a] [(jO "key",.ref f)]) (EP X pins σ Q) X.xe s:=by
  intro a T o its vs n l hT h1 h2 h3 rv rl hz p
  split at p
  case isFalse=>exact p.elim
  rename_i h64
  refine CO hF hb hrm I hr h64 (λQ' hQ=>wpAny_collect_seq a hT h1 h2 h3 (λh' kk=>?_) (by rw[zi,<-rv.length];exact hz)) p
  exact hQ h' s.toks its vs kk rv rl
 unfold uA at p
 split at p
 · rename_i l
   unfold f9 at rd
   obtain⟨a,vs,rfl,q,rl⟩:=rd
   cases ru
   obtain⟨its,rv,⟨o,h1,h2,n,h3⟩,hz⟩:=I.tuple q
   exact seq (.inr rfl) h1 h2 h3 rv rl hz p
 · rename_i i
   unfold f9 at rd
   obtain⟨a,m,rfl⟩:=rd
   cases ru
   obtain⟨o,g,p1⟩:=M7 p
   have ro:=hr.obj i o a g m
   rcases o with l|l|l|l
   ·
     obtain⟨vs,q,rl⟩:=ro
     obtain⟨its,rv,pl,hz⟩:=I.list (SqL.of q)
     obtain⟨o,h1,h2,n,h3⟩:=pl.isList
     exact seq (.inl rfl) h1 h2 h3 rv rl hz p1
   ·exact p1.elim
   ·
     obtain⟨kvs,q,rk⟩:=ro
     obtain⟨ss,es,p2⟩:=V2 p1
     split at p2
     case isFalse=>exact p2.elim
     rename_i h64
     obtain⟨z,hd,vs,rel,dd⟩:=CB I.hok q
     obtain⟨ep,hat⟩:=dd.dictAt
     have hn:vs.length=ss.length:=by rw[pK es,<-rel.length,<-rk.length]
     refine CO hF hb hrm I hr (by simpa using h64) (λQ' hQ=>Ji (JO hd) (I.ok.hd hc) hat (by rw[jH];omega) λh1 tk acc hk hacc=>?_) p2
     have hS:StrsAre acc.toList ss:=lH es rk rel (by rw[jW];exact hacc.1) λj v e=>hacc.2 j v (by rw[<-yr];exact e)
     obtain⟨ws,ew,rv,rl2⟩:=dG (μ:=μ) hS
     exact hQ h1 tk acc.toList ws hk rv rl2
   ·exact p1.elim
 ·exact p.elim
end
section
theorem dP8(hc:X.calm=true)(hF:∃k kk,C8 F 1 x X.prog X.w X.K X.mg X.base k/\U4 kk X.A/\k+2<=kk)(hbl:BLs X.mg)(hgs:Gl X "sorted")(hg:Gl X x)(he:DE X Z e fe)(hs:Z4 e=true)(hdb:(x==("__debug__" :Str))=false):
 DE X Z (.Call (.Name "sorted" p) [e] [⟨some "key",.Name x pf,kp⟩] pos) (mB F fe):=⟨by
 intro pins s σ H Q I h
 obtain⟨k,kk,hF,hrm,hk⟩:=hF
 obtain⟨f,fd,ps,f1,f2,f3,f4⟩:=hF.ex
 have hbs:zV ("sorted" :Str)=some (.builtin "sorted"):=gJ
 refine yx (B6 I hgs (hbl.h _ (by decide +kernel)) hbs ?_ (by decide) (by decide))
 obtain⟨Z6,μ,G,sr,hr,pp⟩:=h
 unfold mB at pp
 have pa:=d9.bind pp
 have hst:zP [e] X.env= (false,eval e X.env)::zP [] X.env:=rA hs
 refine callWith_builtin_kwB (by rw[iD];exact cB (by rw[jU,hs];rfl)) rfl (evalArgs_kw2 rfl ?_ hst)
 have ha:DA X Z [e] (d0 fe g0):=LJ he tI hst
 refine thn (ha.h pos pins s σ H (λvs H1=>∃v d X1 G1,vs= [v]/\f9 (wc X) X1 H1 d v/\J0 (wc X) X1 G1 H1/\d9 (wc X) Z X1 H1 (uA F d G1) (λd X9 _ H'=>∀v,f9 (wc X) X9 H' d v->Q v H')) I ?_) λus s1 ⟨vs,H1,I1,r1,v,d,X1,G1,e1,rd,hr1,p1⟩=>?_
 · refine⟨Z6,μ,G,sr,hr,?_⟩
   show d9 (wc X) Z μ H ((fe Z6 >>= λy=>(pure [y]:M (List D))) G) _
   match hm:fe Z6 G,pa with
   |some (.ok y,G1),pa=>
     rw[M.bind_ok hm]
     intro X9 H' x1 h1 vs rv
     obtain⟨v,ev,rv2⟩:=B1 rv
     subst ev
     exact⟨v,y,X9,G1,rfl,rv2,h1,pa X9 H' x1 h1⟩
   |some (.error y,G1),pa=>
     rw[M.bind_eq,hm]
     exact pa
 · subst e1
   obtain⟨u,rfl,ru⟩:=U1 r1
   show zC _ _ (evalAll [(do let v <-eval (.Name x pf) X.env;Jh pos;pure v)]) _ _ s1
   refine wpAny_evalAll_cons (za (PC I1 hg f2 (za (ZC (zq (wpAny_evalAll_nil ?_)))) hdb))
   exact EY hc f1 f4 (hrm.mono hk) I1 hr1 rd ru p1⟩
end
def CR(K:zh)(mg:Str->Option zj)(d:D)(u:zj):Prop:=∃v,K4 v u/\∀ μ H,f9 ⟨K,mg⟩ μ H d v
def CRL(K:zh)(mg:Str->Option zj)(l:List D)(us:List zj):Prop:=∃vs,J1 vs us/\∀ μ H,u9 ⟨K,mg⟩ μ H l vs
section
variable{K:zh}{mg:Str->Option zj}
theorem cr_str:CR K mg (.str x) (.str x t):=⟨.str x,⟨t,rfl⟩,λμ H=>by unfold f9;rfl⟩
theorem cr_int:CR K mg (.int i) (.int i t):=⟨.int i,⟨t,rfl⟩,λμ H=>by unfold f9;rfl⟩
theorem cr_bl:CR K mg (.bl b) (.bool b):=⟨.bl b,rfl,λμ H=>by unfold f9;rfl⟩
theorem cr_non:CR K mg .non .none:=⟨.non,rfl,λμ H=>by unfold f9;rfl⟩
theorem crl_nil:CRL K mg [] []:=⟨[],.nil,λ_ _=>rfl⟩
theorem crl_cons(h:CR K mg d u)(t:CRL K mg l us):CRL K mg (d::l) (u::us):=by
 obtain⟨v,r,h⟩:=h
 obtain⟨vs,rs,t⟩:=t
 exact⟨v::vs,.cons r rs,λμ H=>⟨v,vs,rfl,h μ H,t μ H⟩⟩
theorem cr_tup(hl:K.lookup a=some ⟨.type "tuple",none,.seq us.toArray n,sl⟩)(hz:Nat.ble us.length 100=true)(h:CRL K mg l us):CR K mg (.tup l) (.ref a):=by
 obtain⟨vs,rs,t⟩:=h
 refine⟨.ref a,rfl,λμ H=>?_⟩
 unfold f9
 refine⟨a,vs,rfl,.inr ⟨_,us.toArray,n,hl,rfl,rfl,?_,rs⟩,t μ H⟩
 rw[zi]
 exact zI (JG hz) (by decide)
end
structure FD(K:zh)(mg:Str->Option zj)(x:Str)(d:D):Prop where
 ex:∃u,mg x=some u/\CR K mg d u
section
theorem wW(hc:FD X.K X.mg x d)(hg:Gl X x)(hdb:(x==("__debug__" :Str))=false):DE X Z (.Name x pos) (cE d):=⟨by
 intro pins s σ H Q I hE0
 refine hE0.elim λZ6 μ G sr hr p=>?_
 obtain⟨u,hm,v,ru,rv⟩:=hc.ex
 exact PC I hg hm ⟨v,H,I,ru,d9.ok p hr v (rv μ H)⟩ hdb⟩
end
def QA:D->M Unit:=λx=>match x with
 | .str _=>pure ()
 |_=>M.stuck
section
variable{X:Cx}{Z:XC}{o e:Expr}{es:List Expr}{fo:Fe}{fs:DSt->M (List D)}{name:Str}{id:String}{mm:D->List D->M D}{apos cpos:Pos}
theorem Cg{H:Hp}{G:DH}{d:D}{v:V}{f:Unit->M α}{K:α->List Addr->DH->Hp->Prop}(r:f9 c μ H d v)(p:d9 c Z μ H ((QA d >>= f) G) K):tyV c.K "str" v H/\d9 c Z μ H (f () G) K:=by
 rcases d with _|_|_|x|_|_|_|_<;>try (exact p.elim;done)
 ·rw[A1 r];exact⟨rfl,p⟩
theorem aK(slot:Slot "str" name id)(hty:typeOf (.builtin id)=pure (.type "method_descriptor"))(hm:MtD X Z id mm)(ho:DE X Z o fo)(ha:DA X Z (e::es) fs)
 (hbase:yY o name X.env (eval o X.env)=eval o X.env)
 (hfew:((yS cpos (zP (e::es) X.env)).all (λx=> !x.1)&&(Jo cpos (Yy [] X.env)).all (λx=>x.1.isSome)
   && decide ((e::es).length+([]:List Keyword).length+(if ([]:List Keyword).isEmpty then 0 else 1)<30))=true)
 (hline:(apos.endLine==cpos.line)=true) (hs:zP (e::es) X.env= (false,eval e X.env)::zP es X.env) (hplain:(yS cpos (zP es X.env)).any (·.1)=false):
 DE X Z (.Call (.Attribute o name apos) (e::es) [] cpos) (mtE QA mm fo fs):=
 DE.of (NQ PySem.F.plainAttrs_str slot hty hm ho.h ha.h hbase hfew hline hs hplain) λσ H Q hE0=>hE0.elim λZ6 μ G s h p=>⟨Z6,μ,G,s,h,(d9.bind p).mono λd X1 G1 H1 x1 h1 p1 v rv=>by
  obtain⟨ty,p2⟩:=Cg rv p1
  exact⟨ty,Z6,X1,G1,s.mono x1,h1,(d9.bind p2).mono λds WZ G2 H2 x2 h2 p3 vs rvs=>⟨d,ds,WZ,G2,rv.mono x2,rvs,h2,p3⟩⟩⟩
end
def EB(sep:Str)(l:List D):M D:=do
 let ss <-K0 (P3 l)
 if (ss.map (·.length)).sum+ss.length*sep.length<=16777216 then pure (.str (ZX sep ss))else M.stuck
def LC:D->List D->M D:=λx ds=>match x,ds with
 | .str sep, [.tup l]=>EB sep l
 | .str sep, [.ref r]=>do
   match <-O4 r with
   | .lst l=>EB sep l
   |_=>M.stuck
 |_,_=>M.stuck
section
theorem rW:MtD X Z "str.join" LC:=by
 intro pins s σ H x xs v us Q I rx rvs hE0
 obtain⟨d,ds,μ,G,rd,rl,hr,p⟩:=hE0
 unfold LC at p
 split at p
 · rename_i sep l
   rw[A1 rd]at rx
   obtain⟨t,rfl⟩:=rx
   obtain⟨v1,rfl,rv1⟩:=B1 rl
   obtain⟨u,rfl,ru⟩:=U1 rvs
   unfold f9 at rv1
   obtain⟨a,vs,rfl,q,rl'⟩:=rv1
   cases ru
   obtain⟨its,rv,tp,hz⟩:=I.tuple q
   unfold EB at p
   obtain⟨ss,es,p2⟩:=V2 p
   split at p2
   case isFalse=>exact p2.elim
   rename_i hok
   exact join_tuple tp (IE es rl' rv) hok λt' k=>⟨.str (ZX sep ss),H,I.tok k,⟨t',rfl⟩,d9.ok p2 hr _ (by unfold f9;rfl)⟩
 · rename_i sep r
   rw[A1 rd]at rx
   obtain⟨t,rfl⟩:=rx
   obtain⟨v1,rfl,rv1⟩:=B1 rl
   obtain⟨u,rfl,ru⟩:=U1 rvs
   unfold f9 at rv1
   obtain⟨a,m,rfl⟩:=rv1
   cases ru
   obtain⟨o,g,p1⟩:=M7 p
   have ro:=hr.obj r o a g m
   rcases o with l|l|l|l
   ·
     obtain⟨vs,q,rl'⟩:=ro
     obtain⟨its,rv,pl,hz⟩:=I.list (SqL.of q)
     unfold EB at p1
     obtain⟨ss,es,p2⟩:=V2 p1
     split at p2
     case isFalse=>exact p2.elim
     rename_i hok
     exact join_list pl.isList (IE es rl' rv) hok λt' k=>⟨.str (ZX sep ss),H,I.tok k,⟨t',rfl⟩,d9.ok p2 hr _ (by unfold f9;rfl)⟩
   ·exact p1.elim
   ·exact p1.elim
   ·exact p1.elim
 ·exact p.elim
end
end DL
namespace W
open PySem PySem.Spec L2 DL
open PyProof.Rows hiding St
section
theorem dR1:Wp (QA (.str z)) G R↔R () G:=j7
theorem Tj(e:G[r]? =some (.lst l))(hs:P3 l=some ss)(hok:(ss.map (·.length)).sum+ss.length*sep.length<=16777216):Wp (LC (.str sep) [.ref r]) G Q↔Q (.str (ZX sep ss)) G:=by
 have h:LC (.str sep) [.ref r]= (do
  match <-O4 r with
  | .lst l=>EB sep l
  |_=>M.stuck):=rfl
 rw[h]
 simp only[j5,O5,e,R5,EB,L4,hs,if_pos hok,j7]
end
end W
namespace DL
open PySem PySem.Spec L2
open PyProof.Rows hiding St
def w9(n:Nat)(lo hi st:Option Int):List Nat:=sliceRange (yP lo hi st n).1 (yP lo hi st n).2.1 (yP lo hi st n).2.2
def fE(l:List D)(lo hi st:Option Int):List D:=(w9 l.length lo hi st).filterMap (l[·]?)
def A9:D->Option Int->Option Int->Option Int->M D:=λx lo hi st=>match x with
 | .ref r=>do
   let l <-O4 r >>= listOf
   if st=some 0 then M.stuck else N7 (.lst (fE l lo hi st))
 |_=>M.stuck
def kD(f:Fe)(lo hi st:Fo):Fe:=λσ=>do
 let x <-f σ
 let l <-lo σ
 let h <-hi σ
 let s <-st σ
 A9 x l h s
section
variable{X:Cx}{Z:XC}{μ:List Addr}{H:Hp}
theorem u9.pick(h:u9 c μ H l vs):∀is:List Nat,u9 c μ H (is.filterMap (l[·]?)) (is.filterMap (vs[·]?))
 |[]=>rfl
 |i::r=>by
   have ih:=u9.pick h r
   rw[jK,jK]
   by_cases hi:i<l.length
   · have e:l[i]? =some l[i]:=ze hi
     obtain⟨v,e2,r2⟩:=h.get e
     rw[e,e2]
     exact⟨v,_,rfl,r2,ih⟩
   · have hi2:vs.length<=i:=by rw[<-h.length];lia
     rw[zO (by lia),zO hi2]
     exact ih
theorem rJ(h:J1 vs us):∀is:List Nat,J1 (is.filterMap (vs[·]?)) (is.filterMap (us[·]?))
 |[]=>.nil
 |i::r=>by
   have ih:=rJ h r
   rw[jK,jK]
   by_cases hi:i<vs.length
   · have e:vs[i]? =some vs[i]:=ze hi
     obtain⟨v,e2,r2⟩:=h.get e
     rw[e,e2]
     exact .cons r2 ih
   · have hi2:us.length<=i:=by rw[<-h.length];lia
     rw[zO (by lia),zO hi2]
     exact ih
variable{e t:Expr}{lo hi:Option Expr}{fa:Fe}{fl fh ft:Fo}{p2 pos:Pos}
theorem km(he:DE X Z e fa)(hl:DOp X Z lo fl)(hu:DOp X Z hi fh)(ht:DOp X Z (some t) ft):DE X Z (.Subscript e (.Slice lo hi (some t) p2) pos) (kD fa fl fh ft):=⟨by
 intro pins s σ H Q I hE0
 refine hE0.elim λZ6 μ G sr h p=>?_
 have p0:=d9.bind p
 refine Subscript_ (thn (he.h pins s σ H (λv H1=>∃d X1 G1,f9 (wc X) X1 H1 d v/\J0 (wc X) X1 G1 H1/\M6 (wc X) X1 H1 Z6 σ/\d9 (wc X) Z X1 H1 ((fl Z6 >>= λl=>fh Z6 >>= λh=>ft Z6 >>= λs=>A9 d l h s) G1) (λd X9 _ H'=>∀v,f9 (wc X) X9 H' d v->Q v H')) I ⟨Z6,μ,G,sr,h,p0.mono λd X1 G1 H1 x1 h1 p1 v rv=>⟨d,X1,G1,rv,h1,sr.mono x1,p1⟩⟩) λv s1 ⟨x,H1,I1,r1,d,X1,G1,rd,h1,sr1,p1⟩=>?_)
 refine wpAny_Slice ?_
 refine thn (hl.h pins s1 σ H1 (λl H2=>∃ WZ G2,f9 (wc X) WZ H2 d x/\J0 (wc X) WZ G2 H2/\M6 (wc X) WZ H2 Z6 σ/\d9 (wc X) Z WZ H2 ((fh Z6 >>= λh=>ft Z6 >>= λs=>A9 d l h s) G2) (λd X9 _ H'=>∀v,f9 (wc X) X9 H' d v->Q v H')) I1 ⟨Z6,X1,G1,sr1,h1,(d9.bind p1).mono λl WZ G2 H2 x2 h2 p2=>⟨WZ,G2,rd.mono x2,h2,sr1.mono x2,p2⟩⟩) λvl s2 ⟨l,H2,I2,pl,WZ,G2,rd2,h2,sr2,p2⟩=>?_
 refine thn (hu.h pins s2 σ H2 (λu H3=>∃ WP G3,f9 (wc X) WP H3 d x/\J0 (wc X) WP G3 H3/\M6 (wc X) WP H3 Z6 σ/\d9 (wc X) Z WP H3 ((ft Z6 >>= λs=>A9 d l u s) G3) (λd X9 _ H'=>∀v,f9 (wc X) X9 H' d v->Q v H')) I2 ⟨Z6,WZ,G2,sr2,h2,(d9.bind p2).mono λu WP G3 H3 x3 h3 p3=>⟨WP,G3,rd2.mono x3,h3,sr2.mono x3,p3⟩⟩) λvu s3 ⟨u,H3,I3,pu,WP,G3,rd3,h3,sr3,p3⟩=>?_
 refine thn (ht.h pins s3 σ H3 (λk H4=>∃ WM G4,f9 (wc X) WM H4 d x/\J0 (wc X) WM G4 H4/\d9 (wc X) Z WM H4 (A9 d l u k G4) (λd X9 _ H'=>∀v,f9 (wc X) X9 H' d v->Q v H')) I3 ⟨Z6,WP,G3,sr3,h3,(d9.bind p3).mono λk WM G4 H4 x4 h4 p4=>⟨WM,G4,rd3.mono x4,h4,p4⟩⟩) λvk s4 ⟨k,H4,I4,pk,WM,G4,rd4,h4,p4⟩=>?_
 have I5:Inv X pins σ H4 {s4 with heap:=s4.heap.push {cls:=.type "slice",data:=.fields #[vl,vu,vk]}}:=I4.kept λb ob q=>zd _ q
 have hsl:Heap.IsSliceOf (s4.heap.push {cls:=.type "slice",data:=.fields #[vl,vu,vk]}) s4.heap.objs.size vl vu vk:=Xg ..
 cases d with
 |ref r=>
   obtain⟨ls,a,vs,rfl,rl,p5,hq⟩:=IG h4 rd4 p4
   cases r1
   split at p5
   case isTrue=>exact p5.elim
   rename_i hk0
   have hs:SqL X.K H4 a vs:=by
    rcases hq with⟨z,_⟩|⟨_,_,_,⟨_,q⟩|⟨_,q⟩⟩
    ·cases z
    ·exact SqL.of q
    ·exact q.sq
   obtain⟨its,rr,ht,hz⟩:=I5.list hs
   refine tail_any ht.isList.typeIs Xl.lookup (JJ ht.isList hsl pl pu pk hk0 ?_ (by rw[zi,<-rr.length];exact hz)) (by with_unfolding_all rfl)
   have hf:=I5.hok.fresh (zo _)
   have en:its.toArray.size=vs.length:=by rw[zi,rr.length]
   have ep:XG its.toArray l u k=zR ((w9 ls.length l u k).filterMap (its[·]?)):=by
    unfold XG w9
    rw[rl.length,en]
    congr 1
    congr 1
    funext i
    simp
   have hlen:((w9 ls.length l u k).filterMap (vs[·]?)).length<=zg:=by
    have h1:=slicePick_size_le its.toArray l u k
    rw[ep,zi,zi]at h1
    have h2:=(rJ rr (w9 ls.length l u k)).length
    have h3:=rr.length
    lia
   rw[ep]
   refine⟨.ref _,upd H4 _ (.lst ((w9 ls.length l u k).filterMap (vs[·]?))),I5.laid (λb u e=>zd _ e) (zo _) ?_,rfl,V3 h4 (rl.pick _) p5 _ hf⟩
   exact⟨hlen,_,0,rJ rr _,zw _ rfl⟩
 |_=>exact p4.elim⟩
end
end DL
namespace W
open PySem PySem.Spec L2 DL
open PyProof.Rows hiding St
section
theorem iZ{lo hi st:Fo}:Wp (kD f lo hi st σ) G Q↔Wp (f σ) G λx G1=>Wp (lo σ) G1 λl G2=>Wp (hi σ) G2 λh G3=>Wp (st σ) G3 λk G4=>Wp (A9 x l h k) G4 Q:=by
 unfold kD;simp only[j5]
theorem Sd{lo hi st:Option Int}(e:G[p]? =some (.rol l))(h:st≠some 0):Wp (A9 (.ref p) lo hi st) G Q↔Q (.ref G.length) (G++[.lst (fE l lo hi st)]):=by
 have h0:A9 (.ref p) lo hi st= (do
  let l <-O4 p >>= DL.listOf
  if st=some 0 then M.stuck else N7 (.lst (fE l lo hi st))):=rfl
 rw[h0]
 simp only[j5,O5,e,R5,DL.listOf,j7,if_neg h,R3]
end
end W
namespace DL
open PySem PySem.Spec L2
open PyProof.Rows hiding St
section
theorem Kk(σ:St)(H:Hp)(Q:VK)(h:D5 (wc X) Z (d6 o o' fa fb fc) σ H Q):aI (t9 (wc X) Z o) (t9 (wc X) Z o') (D5 (wc X) Z fa) (D5 (wc X) Z fb) (D5 (wc X) Z fc) σ H Q:=by
 obtain⟨Z6,μ,G,s,h,p⟩:=h
 exact⟨Z6,μ,G,s,h,(d9.bind p).mono λx X1 G1 H1 x1 h1 p1 v rv=>
  ⟨Z6,X1,G1,s.mono x1,h1,(d9.bind p1).mono λy WZ G2 H2 x2 h2 p2 u ru=>⟨x,y,WZ,G2,rv.mono x2,ru,h2,(d9.bind p2).mono λz WP G3 H3 x3 h3 p3 w rw'=>by
   obtain⟨k,rfl,p4⟩:=uI p3
   refine⟨k,c6 rw',?_⟩
   cases k with
   |true=>exact⟨Z6,WP,G3,s.mono (x1.trans (x2.trans x3)),h3,(d9.bind p4).mono λt WM G4 H4 x4 h4 p5 q rq=>⟨y,t,WM,G4,ru.mono (x3.trans x4),rq,h4,p5⟩⟩
   |false=>exact d9.ok p4 h3 _ ofB⟩⟩⟩
theorem dU1(ho:OpD X Z (zT op) o)(ho':OpD X Z (zT op') o')(ha:DE X Z a fa)(hb:DE X Z b fb)(hc:DE X Z c fc)
 (hm:JZ [op,op'] [b,c]=false):DT X Z (.Compare a [op,op'] [b,c] pos) (m6 (d6 o o' fa fb fc)):=
 DT.of (Hw ho.h ho'.h ha.h hb.h hc.h hm) λσ H Q hE0=>hE0.elim λZ6 μ G s h p=>Kk σ H _ ⟨Z6,μ,G,s,h,(d9.bind p).mono λx X1 G1 H1 x' h1 p1 v rv=>by
  cases x with
  |bl k'=>unfold f9 at rv;exact⟨k',rv,d9.ok p1 h1⟩
  |_=>exact p1.elim⟩
theorem Nd(hF:∃k kk,C8 F 0 x X.prog X.w X.K X.mg X.base k/\U4 kk X.A/\k<=kk)(hg:Gl X x)(hdb:(x==("__debug__" :Str))=false):
 DE X Z (.Call (.Name x p) [] [] pos) (x0 (fnX 0 F) g0):=by
 obtain⟨k,kk,hF,hr,hk⟩:=hF
 obtain⟨f,fd,ps,h1,h2,h3,h4⟩:=hF.ex
 exact DE.of (OY h1 (hr.mono hk) hg h2 h3 h4 .nil RD hdb) λσ H Q hE0=>hE0.elim λZ6 μ G s h p=>by
  obtain⟨hl,p2⟩:=rP (show d9 (wc X) Z μ H (fnX 0 F [] G) _ from p)
  exact⟨rfl, [],μ,G,rfl,h,p2⟩
end
section
end
end DL
namespace W
open PySem PySem.Spec L2 DL
open PyProof.Rows hiding St
end W
namespace DL
open PySem PySem.Spec L2
open PyProof.Rows hiding St
section
variable{X:Cx}{Z:XC}{o e:Expr}{es:List Expr}{fo:Fe}{fs:DSt->M (List D)}{name:Str}{id:String}{mm:D->List D->M D}{apos cpos:Pos}
end
section
end
section
end
theorem fV:seqRepeat? (.type "tuple")=pure (some (.builtin "tuple.__mul__")):=by
 unfold seqRepeat?
 rw[PySem.seqSlot_of (T:= "tuple") (name:= "__mul__") (id:= "tuple.__mul__") xV.lookup (by decide +kernel),PySem.seqSlot_of (T:= "tuple") (name:= "__rmul__") (id:= "tuple.__rmul__") Xw.lookup (by decide +kernel)]
 rfl
theorem kj:fillsNumberSlot (.type "tuple") "mul" =pure false:=
 PySem.fillsNumberSlot_seq (id:= "tuple.__mul__") (r:=some (.builtin "tuple.__rmul__")) xV.lookup (by decide +kernel) Xw.lookup (by decide +kernel)
theorem LU(a:Int)(t:Tok)(l:Addr)(items:Array zj)(n:Nat)(dd:Option Addr)(sl:Array (Option zj)):
 Meets (yM.«int.__rmul__» ⟨[.int a t,.ref l], []⟩) (λ_ R s=>s.heap.get? l=some {cls:=.type "tuple",dict:=dd,data:=.seq items n,slots:=sl}/\R (.ok (.ret Value.notImplemented)) s):=
 .of_wp λprog w A R s h=>by obtain⟨hp,g,d,tk,os⟩:=s;obtain⟨hl,h⟩:=h;wp_walk;exact⟨_,rfl,h⟩
theorem pN(items:Array zj):∀k a,(Zz (λx1 x2=>x1++x2) a (zm k items)).size=a.size+k*items.size
 |0,a=>by simp
 |k+1,a=>by rw[jB,Xj,pN items k,Array.size_append,Nat.succ_mul];lia
theorem aM(h1: -(2 ^ 63)<=x)(h2:x<2 ^ 63):decide ((decide (x < -(2 ^ 63))||decide (x>=2 ^ 63))=true)=false:=by
 rw[decide_eq_false (Int.not_lt.mpr h1),decide_eq_false (Int.not_le.mpr h2)];rfl
theorem bP2(l:Addr)(items:Array zj)(n:Nat)(dd:Option Addr)(sl:Array (Option zj))(x:Int)(u:Tok)(h1: -(2 ^ 63)<=x)(h2:x<2 ^ 63)(h3:(items.isEmpty||x==1)=true):
 Meets (yM.«tuple.__mul__» ⟨[.ref l,.int x u], []⟩) (λ_ R s=>s.heap.get? l=some {cls:=.type "tuple",dict:=dd,data:=.seq items n,slots:=sl}/\R (.ok (.ret (Value.ref l))) s):=
 .of_wp λprog w A R s h=>by
  obtain⟨hp,g,d,tk,os⟩:=s;obtain⟨hl,h⟩:=h
  wp_walk
  refine Yf (aM h1 h2) ?_
  wp_walk
  exact⟨_,rfl,h⟩
theorem qg(l:Addr)(items:Array zj)(n:Nat)(dd:Option Addr)(sl:Array (Option zj))(x:Int)(u:Tok)(h1: -(2 ^ 63)<=x)(h2:x<2 ^ 63)(h3:¬(items.isEmpty||x==1)=true)(hz:items.size*x.toNat<=zg):
 Meets (yM.«tuple.__mul__» ⟨[.ref l,.int x u], []⟩) (λ_ R s=>s.heap.get? l=some {cls:=.type "tuple",dict:=dd,data:=.seq items n,slots:=sl}/\
  R (.ok (.ret (Value.ref s.heap.objs.size))) {s with heap:=s.heap.push {cls:=Value.type "tuple",data:=Data.seq (Zz (λx1 x2=>x1++x2) #[] (zm x.toNat items))},toks:=s.toks}):=
 .of_wp λprog w A R s h=>by
  obtain⟨hp,g,d,tk,os⟩:=s;obtain⟨hl,h⟩:=h
  wp_walk
  refine Yf (aM h1 h2) ?_
  by_cases hx:(decide (x<=0)||items.isEmpty)=true
  · have hx0:x<=0:=by
     have he:items.isEmpty=false:=by
      rcases e:items.isEmpty with _|_
      ·rfl
      ·rw[e]at h3;exact absurd rfl h3
     rw[he,Bool.or_false]at hx
     exact of_decide_eq_true hx
    have e0:x.toNat=0:=by lia
    rw[e0]at h
    wp_walk
    exact⟨_,rfl,h⟩
  · obtain⟨hc1,hc2⟩:(¬(items.size:Int)*x>(2 ^ 63-1) / 8)/\¬Builtin.Tuple.tupleTooMany ((items.size:Int)*x)=true:=by
     have hx0:¬x<=0:=λz=>hx (by rw[decide_eq_true z];rfl)
     have e1:(items.size:Int)*x= ((items.size*x.toNat:Nat):Int):=by
      rw[Int.natCast_mul,Int.toNat_of_nonneg (by lia)]
     have e2:items.size*x.toNat<=2 ^ 24:=hz
     rw[e1]
     exact⟨by lia,λz=>absurd (of_decide_eq_true z) (by show ¬((2 ^ 24:Nat):Int)<_;lia)⟩
    wp_walk
    refine Yf (decide_eq_false hc1) ?_
    wp_walk
    refine Yf (decide_eq_false (XW.mpr (by rw[pN];simp only[Array.size_empty];rw[Ju];lia))) ?_
    wp_walk
    exact⟨_,rfl,h⟩
section
def SY(K:zh):R2:=λx y H Q=>∃l k xs,x= .ref l/\y= .int k/\SqT K H l xs/\ -(2 ^ 63)<=k/\k<2 ^ 63/\xs.length*k.toNat<=zg/\
 ((xs= []\/k=1)->Q (.ref l) H)/\(¬(xs= []\/k=1)->∀p,H p=none->Q (.ref p) (upd H p (.tup (zm k.toNat xs).flatten)))
theorem dW:OpR X (jL .Mult) (SY X.K):=by
 intro pins s σ H x y v u Q I rx ry h
 obtain⟨l,k,xs,rfl,rfl,hH,h1,h2,hz,q1,q2⟩:=h
 cases rx
 obtain⟨t,rfl⟩:=ry
 obtain⟨its,r,p,_⟩:=I.tuple hH
 have hlen:its.toArray.size*k.toNat<=zg:=by rw[zi,<-r.length];exact hz
 obtain⟨⟨cls,dd,data,sl⟩,ho,hc,n,hd⟩:=id p
 simp only at hc hd
 subst hc hd
 refine Jz (T:= "tuple") (U:= "int") (by decide) ⟨_,ho,rfl⟩ (λs'=>Xa s' k t) kj F.fills_int_mul ZP fV F.slot_int_index.lookup
  (xD ZP (Xa s k t) F.entry_int_rmul (F.args_int_rmul_2 _ _) (LU k t l its.toArray n dd sl)
    ⟨ho,rfl,⟨_,ho,rfl⟩,?_⟩)
 by_cases hc:xs= []\/k=1
 · have h3:(its.toArray.isEmpty||k==1)=true:=by
    rcases hc with rfl|rfl
    ·cases r;rfl
    ·simp
   exact xD xV ⟨_,ho,rfl⟩ F.entry_tuple_mul (F.args_tuple_mul_2 _ _) (bP2 l its.toArray n dd sl k t h1 h2 h3) ⟨ho,.ref l,H,I,rfl,q1 hc⟩
 · have h3:¬(its.toArray.isEmpty||k==1)=true:=by
    intro z
    rw[Bool.or_eq_true]at z
    rcases z with z|z
    · have:its= []:=by simpa using z
      subst this
      exact hc (.inl (by cases r;rfl))
    ·exact hc (.inr (by simpa using z))
   refine xD xV ⟨_,ho,rfl⟩ F.entry_tuple_mul (F.args_tuple_mul_2 _ _) (qg l its.toArray n dd sl k t h1 h2 h3 hlen) ⟨ho,?_⟩
   have f0:Zz (λx1 x2=>x1++x2) #[] (zm k.toNat its.toArray)= (zm k.toNat its).flatten.toArray:=by
    have:=vJ its k.toNat []
    rw[xR]at this
    exact this
   rw[f0]
   refine⟨.ref s.heap.objs.size,_,I.laid (t':=s.toks) (o:=.tup (zm k.toNat xs).flatten) (λb ob q=>zd _ q) (zo _) ?_,rfl,q2 hc _ (I.hok.fresh (zo _))⟩
   exact⟨by rw[vL,Ju];exact hz,_,r.rep k.toNat,E3.new _ _⟩
def vC:D->D->M D:=λx y=>match x,y with
 | .tup l,.int k=>if -(2 ^ 63)<=k/\k<2 ^ 63/\l.length*k.toNat<=zg then pure (.tup (zm k.toNat l).flatten)else M.stuck
 | .ref r,.int k=>do
   match <-O4 r with
   | .lst l=>if -(2 ^ 63)<=k/\k<2 ^ 63/\l.length*k.toNat<=zg then N7 (.lst (zm k.toNat l).flatten)else M.stuck
   |_=>M.stuck
 |_,_=>N1 x y
theorem u9.rep(r:u9 c μ H l vs):∀k:Nat,u9 c μ H (zm k l).flatten (zm k vs).flatten
 |0=>rfl
 |k+1=>by
   rw[jB,yg,jB,yg]
   exact r.append (u9.rep r k)
theorem Hh:OpD X Z (jL .Mult) vC:=
 OpD.of (OpR.or qU (OpR.or dW (uN (Z:=Z)).h)) λx y H Q hE0=>hE0.elim λdx dy μ G rdx rdy hr p=>by
  by_cases c:∃l k,dx= .tup l/\dy= .int k
  · obtain⟨l,k,rfl,rfl⟩:=c
    refine .inr (.inl ?_)
    have ek:=L0 rdy
    unfold f9 at rdx
    obtain⟨a,vs,rfl,q,rl⟩:=rdx
    unfold vC at p
    dsimp only at p
    split at p
    · rename_i hz
      refine⟨a,k,vs,rfl,ek,q,hz.1,hz.2.1,by rw[<-rl.length];exact hz.2.2,λhc=>?_,λhc p' hp=>dE hr (rl.rep k.toNat) p p' hp⟩
      refine eF hr q ?_ p
      rcases hc with rfl|rfl
      · rcases l with _|⟨_,_⟩
        ·simp;exact rl
        ·obtain⟨_,_,z,_⟩:=rl;cases z
      ·simp;exact rl
    ·exact p.elim
  · by_cases c2:∃r k,dx= .ref r/\dy= .int k
    · obtain⟨r,k,rfl,rfl⟩:=c2
      refine .inl ?_
      have ek:=L0 rdy
      unfold f9 at rdx
      obtain⟨a,m,rfl⟩:=rdx
      have p':d9 (wc X) Z μ H ((O4 r >>= λo=>match o with| .lst l=>(if -(2 ^ 63)<=k/\k<2 ^ 63/\l.length*k.toNat<=zg then N7 (.lst (zm k.toNat l).flatten)else M.stuck)|_=>M.stuck:M D) G) λd X9 _ H'=>∀v,f9 (wc X) X9 H' d v->Q v H':=p
      obtain⟨o,g,p1⟩:=M7 p'
      have ro:=hr.obj r o a g m
      rcases o with l|_|_|_<;>try (exact p1.elim;done)
      ·
        obtain⟨vs,e,rl⟩:=ro
        dsimp only at p1
        split at p1
        · rename_i hz
          exact⟨a,k,vs,rfl,ek,e,hz.1,hz.2.1,by rw[<-rl.length];exact hz.2.2,λp' hp=>V3 hr (rl.rep k.toNat) p1 p' hp⟩
        ·exact p1.elim
    · refine .inr (.inr ⟨dx,dy,μ,G,rdx,rdy,hr,?_⟩)
      have e:vC dx dy=N1 dx dy:=by
       rcases dx with _|_|_|_|l|r|_|_<;>try (rfl;done)
       ·
         rcases dy with _|_|k|_|_|_|_|_<;>try (rfl;done)
         ·exact absurd ⟨_,_,rfl,rfl⟩ c
       ·
         rcases dy with _|_|k|_|_|_|_|_<;>try (rfl;done)
         ·exact absurd ⟨_,_,rfl,rfl⟩ c2
      rw[<-e]
      exact p
end
end DL
namespace W
open PySem PySem.Spec L2 DL
open PyProof.Rows hiding St
theorem AW(h:0<=k/\k<1000/\l.length<=1000):Wp (vC (.tup l) (.int k)) G Q↔Q (.tup (zm k.toNat l).flatten) G:=by
 have e:vC (.tup l) (.int k)= (if -(2 ^ 63)<=k/\k<2 ^ 63/\l.length*k.toNat<=zg then pure (.tup (zm k.toNat l).flatten)else M.stuck:M D):=rfl
 have hz:l.length*k.toNat<=zg:=by
  have:=Nat.mul_le_mul h.2.2 (show k.toNat<=1000 by lia)
  exact zI this (by decide)
 rw[e,if_pos ⟨by lia,by lia,hz⟩,j7]
end W
namespace DL
open PySem PySem.Spec L2
open PyProof.Rows hiding St
section
end
section
end
end DL
namespace W
open PySem PySem.Spec L2 DL
open PyProof.Rows hiding St
end W
namespace DL
open PySem PySem.Spec L2
open PyProof.Rows hiding St
theorem d7(e:m G=some (.ok a,G'))(q:Q a G'):Wp m G Q:=⟨a,G',e,q⟩
def PB(Q:DPP):Fl->DH->Prop
 | .nx _,G=>Q .non G
 | .rt d,G=>Q d G
 |_,_=>False
section
variable{m:Nat}{f S g:Fs}{ds as:List D}{d:D}{G G':DH}{Q:DPP}{P A:Fl->DH->Prop}{σ X2:DSt}{e:Fe}
theorem J4(w:Wp (f (ds.map some++zm (m-ds.length) none)) G (PB Q)):Wp (J3 m f ds) G Q:=
 iA.mpr (w.mono λfl G1 h=>match fl,h with
  | .nx _,h=>h
  | .rt _,h=>h
  | .bk _,h=>h.elim
  | .ct _,h=>h.elim)
theorem t8(q:Q d G):PB Q (.rt d) G:=q
theorem c5(e:f (ds.map some++zm (m-ds.length) none) G=some (.ok (.rt d),G'))(q:Q d G'):Wp (J3 m f ds) G Q:=J4 (d7 e q)
theorem J6(e:S σ G=some (.ok (.nx X2),G'))(w:Wp (g X2) G' P):Wp (j6 S g σ) G P:=d8.mpr (d7 e w)
theorem fK(e:S σ G=some (.ok (.rt d),G'))(q:P (.rt d) G'):Wp (j6 S g σ) G P:=d8.mpr (d7 e q)
theorem wE{m:M α}{R:α->DH->Prop}(w:Wp m G R):Wp (noX m) G R:=kB.mpr w
end
section
variable{a b c:Fe}{d x y z:D}{G G1 G2:DH}{R:List D->DH->Prop}{σ:DSt}
theorem N0(e:t σ G=some (.ok true,G1))(w:Wp (f σ) G1 P):Wp (ifS t f g σ) G P:=C9.mpr (d7 e w)
theorem F0(e:t σ G=some (.ok false,G1))(w:Wp (g σ) G1 P):Wp (ifS t f g σ) G P:=C9.mpr (d7 e w)
theorem Q0(w:Wp (t σ) G λk G1=>(k=true->Wp (f σ) G1 P)/\(k=false->Wp (g σ) G1 P)):Wp (ifS t f g σ) G P:=
 C9.mpr (w.mono λk G1 h=>by cases k with|true=>exact h.1 rfl|false=>exact h.2 rfl)
theorem D7(w:Wp (t σ) G λk G1=>(k=true->Wp (u σ) G1 B)/\(k=false->B false G1)):Wp (S0 t u σ) G B:=
 uW.mpr (w.mono λk G1 h=>by cases k with|true=>exact h.1 rfl|false=>exact h.2 rfl)
theorem B7(w:Wp (t σ) G λk G1=>(k=true->B true G1)/\(k=false->Wp (u σ) G1 B)):Wp (orT t u σ) G B:=
 Ng.mpr (w.mono λk G1 h=>by cases k with|true=>exact h.1 rfl|false=>exact h.2 rfl)
theorem Tb{g:Fg}(e:fs σ G=some (.ok [.int j],G1))(h0:0<=j)(h1:j<=10000)(w:Wp (M9 g t a (λ_=>true) (K3 0 j.toNat) (T1 caps σ)) G1 λys G2=>Q (.ref G2.length) (G2++[.lst ys])):Wp (N6 (T4 fs) caps g t a σ) G Q:=by
 refine W.wp_comp.mpr (W.rng1.mpr (d7 e ((W.rng1_int ⟨by lia,by lia⟩).mpr ⟨?_,w⟩)))
 show (K3 0 j.toNat).length<=zg
 unfold K3;rw[zc,jV]
 exact zI (by lia) (show 10000<=zg by decide)
theorem Q6{g:Fg}(e:b σ G=some (.ok (.tup l),G1))(h:l.length<=10000)(w:Wp (M9 g t a (λ_=>true) l (T1 caps σ)) G1 λys G2=>Q (.ref G2.length) (G2++[.lst ys])):Wp (N6 (itW b) caps g t a σ) G Q:=
 W.wp_comp.mpr (W.wp_itW.mpr (d7 e (W.srcW_tup.mpr ⟨zI h (show 10000<=zg by decide),w⟩)))
theorem cT(e:t σ G=some (.ok false,G1))(w:Wp (b σ) G1 Q):Wp (ifE t a b σ) G Q:=cP.mpr (d7 e w)
theorem K6(w:Wp (a σ) G λd G1=>P (.nx (σ.set i (some d))) G1):Wp (v8 a (y0 i) σ) G P:=Z7.mpr (w.mono λ_ _ h=>O1.mpr h)
theorem o9(w:Wp (a σ) G λd G1=>P (.rt d) G1):Wp (t6 a σ) G P:=LA.mpr w
theorem j9(e:fs σ G=some (.ok as,G1))(h:as.length=n)(w:Wp (F as) G1 Q):Wp (x0 (fnX n F) fs σ) G Q:=y9.mpr (d7 e (U8.mpr ⟨h,w⟩))
theorem y3(e:fs σ G=some (.ok as,G1))(w:Wp (F as) G1 Q):Wp (x0 F fs σ) G Q:=y9.mpr (d7 e w)
theorem M8(w:Wp (fs σ) G λas G1=>Wp (F as) G1 Q):Wp (x0 F fs σ) G Q:=y9.mpr w
theorem o4(ea:a σ G=some (.ok x,G1))(eb:b σ G1=some (.ok y,G2))(w:Wp (o x y) G2 Q):Wp (c7 o a b σ) G Q:=c9.mpr (d7 ea (d7 eb w))
theorem m8(w:Wp (a σ) G λx G1=>Wp (b σ) G1 λy G2=>Wp (o x y) G2 Q):Wp (c7 o a b σ) G Q:=c9.mpr w
theorem K5(e:a σ G=some (.ok x,G1))(w:Wp (fs σ) G1 λxs G2=>R (x::xs) G2):Wp (d0 a fs σ) G R:=D6.mpr (d7 e w)
theorem m7(w:Wp (a σ) G λx G1=>Wp (fs σ) G1 λxs G2=>R (x::xs) G2):Wp (d0 a fs σ) G R:=D6.mpr w
theorem v9(w:Wp (a σ) G λx G1=>∃k,x= .bl k/\B k G1):Wp (m6 a σ) G B:=pB.mpr w
end
def FH(K:zh)(x:Str)(st:Stmt):Prop:=∃(f:Addr) (od an:Option Addr) (sl:Array (Option zj)) (oc kV dc pm cd ct:zj),xQ K jv x=some (some (.ref f))/\
 K.lookup f=some ⟨oc,od,.func (yh x x (i9 st) (N4 st) (M5 st) .none kV dc pm an cd ct),sl⟩/\xU K cd x=true/\ya K (.ref f)=true
section
variable{K:zh}{h:Heap}{mg:Str->Option zj}{x:Str}{st:Stmt}
theorem FH.of{oc kV dc pm cd ct:zj}(a:xQ K jv x=some (some (.ref f)))
 (l:K.lookup f=some ⟨oc,od,.func (yh x x (i9 st) (N4 st) (M5 st) .none kV dc pm an cd ct),sl⟩) (e:xU K cd x=true) (k:ya K (.ref f)=true):FH K x st:=
 ⟨f,od,an,sl,oc,kV,dc,pm,cd,ct,a,l,e,k⟩
variable{ps:List Str}
theorem FH.ff(H:FH K x st)(X:K.In h)(G:h.Ns jv mg)(b:∀kV doc pm an cdv ct us,us.length=ps.length->bindArgs (yh x x (i9 st) (N4 st) (M5 st) .none kV doc pm an cdv ct) ⟨us, []⟩=pure (ps.zip us)):∃f fd,FF K mg x st ps f fd:=by
 obtain⟨f,od,an,sl,oc,kV,dc,pm,cd,ct,a,l,e,k⟩:=H
 exact⟨_,_,WG l e k,(WG l e k).binds b,ZN X G a⟩
theorem BZ(h:us.length=n+1):∃a t,us=a::t/\t.length=n:=by
 rcases us with _|⟨a,t⟩
 ·cases h
 ·exact⟨a,t,rfl,Nat.succ.inj h⟩
theorem BLs.of(X:K.In h)(G:h.Ns jv mg)(z:∀b∈bltL,xQ K jv b=some none):BLs mg:=⟨λb hb=>PySem.W.mg_none_of X G (z b hb)⟩
end
abbrev Hd(h:Heap)(z TI TO:Addr)(f0:zj)(b:Bool):Prop:=
 h.get? z=some {cls:=.type "zip",dict:=none,data:=.fields #[f0,.bool b,.bool false,.ref TI,.ref TO],slots:= #[]}
section
variable{prog:zW}{w:jk}{A:jA}{E:VSP}{s:zv}{k1 k2:Bool}{i:Nat}{z TI TO i1 i2 l1 l2 T:Addr}{xs ys:Array zj}{b:Bool}
structure ZSt(k1 k2:Bool)(z TI TO i1 i2 l1 l2:Addr)(xs ys:Array zj)(n0 i:Nat)(h:Heap):Prop where
 hz:(Zg h z TI TO .none/\∃a b,yt h TO a b)\/∃T b,Hd h z TI TO (Xc ((n0+T:Nat):Int)) b/\T<i
 hTI:yt h TI (.ref i1) (.ref i2)
 h1:SI k1 h i1 l1 i
 h2:SI k2 h i2 l2 i
 c1:SC k1 h l1 xs
 c2:SC k2 h l2 ys
end
section
variable{H:Hp}{n0:Nat}{ws:List (V×V)}
end
section
variable{X:Cx}{Z:XC}{a b:Expr}{fs:DSt->M (List D)}{p1 p2 pos1 pos2:Pos}
end
end DL
namespace TS
open PySem PyProof.Rows
section
variable{prog:zW}{w:jk}{A:jA}{E:VSP}{s:zv}
def kz(p:Zx):Int:=numOf p.1
end
def leK(x y:Zx):Prop:=kz x<=kz y
def Srt(l:List Zx):Prop:=l.Pairwise leK
structure MI(L out A B:List Zx):Prop where
 perm:(out++(A++B)).Perm L
 so:Srt out
 oa:∀x∈out,∀y∈A,leK x y
 ob:∀x∈out,∀y∈B,leK x y
 sa:Srt A
 sb:Srt B
structure MJ(L A B S:List Zx):Prop where
 perm:(A++(B++S)).Perm L
 ss:Srt S
 as:∀x∈A,∀y∈S,leK x y
 bs:∀x∈B,∀y∈S,leK x y
 sa:Srt A
 sb:Srt B
structure LI(a b:Array Zx)(out:Array Zx)(ia ib:Nat):Prop where
 mi:MI (a.toList++b.toList) out.toList (a.toList.drop ia) (b.toList.drop ib)
 ha:ia+1<a.size
 hb:ib<b.size
 sz:out.size=ia+ib
section
variable{a b out:Array Zx}{ia ib:Nat}
end
section
variable{prog:zW}{w:jk}{A:jA}{E:VSP}{s:zv}
end
section
variable{prog:zW}{w:jk}{A:jA}{E:VSP}{s:zv}
end
structure HI(a b:Array Zx)(out:Array Zx)(na nb:Nat):Prop where
 mj:MJ (a.toList++b.toList) (a.toList.take na) (b.toList.take nb) out.toList.reverse
 ha:0<na
 hb:1<nb
 la:na<=a.size
 lb:nb<=b.size
 sz:out.size+na+nb=a.size+b.size
section
variable{a b out:Array Zx}{na nb:Nat}
end
section
variable{prog:zW}{w:jk}{A:jA}{E:VSP}{s:zv}
end
section
variable{prog:zW}{w:jk}{A:jA}{E:VSP}{s:zv}
structure Aft(st st':SortSt)(l:List Zx)(p:Array (Nat×Nat×Nat)):Prop where
 kind:xE st'=Jr
 arr:(Yj st').toList=l
 pend:pendingOf st'=p
 fail:Xq st'=none
end
structure Run(lo:Nat)(st st':SortSt):Prop where
 kind:xE st'=Jr
 pend:pendingOf st'=pendingOf st
 fail:Xq st'=none
 perm:(Yj st').Perm (Yj st)
 low:∀i,i<lo->(Yj st')[i]? = (Yj st)[i]?
section
variable{prog:zW}{w:jk}{A:jA}{E:VSP}{s:zv}
end
section
variable{prog:zW}{w:jk}{A:jA}{E:VSP}{s:zv}
end
def lay:Nat->List (List Zx)->List Nat->List (Nat×Nat×Nat)
 |o,r::rs,p::ps=>(o,r.length,p)::lay (o+r.length) rs ps
 |_,_,_=> []
structure GI(a0:List Zx)(st:SortSt)(rs:List (List Zx))(ps:List Nat)(T:List Zx):Prop where
 kind:xE st=Jr
 fail:Xq st=none
 arr:(Yj st).toList=rs.flatten++T
 perm:(Yj st).toList.Perm a0
 len:rs.length=ps.length
 pend:pendingOf st= (lay 0 rs ps).toArray
 ok:∀r∈rs,0<r.length/\Srt r
section
variable{prog:zW}{w:jk}{A:jA}{E:VSP}{s:zv}
end
section
variable{prog:zW}{w:jk}{A:jA}{E:VSP}{s:zv}
end
section
variable{prog:zW}{w:jk}{A:jA}{E:VSP}{s:zv}
end
end TS
namespace DL
open PySem PySem.Spec L2
open PyProof.Rows hiding St
section
variable{prog:zW}{w:jk}{A:jA}{E:VSP}{s:zv}{T:String}{r d:Addr}{n:Nat}{P:Nat->zj->Prop}{OK:Heap->Prop}{Q:VSP}
end
section
variable{X:Cx}{Z:XC}{c:Wc}{μ:List Addr}{H:Hp}{G:DH}
end
section
variable{prog:zW}{w:jk}{A:jA}{E:VSP}
end
def l4(r:Option Int):D:=match r with
 |none=>.non
 |some b=>.int b
section
end
section
end
structure MA(X:Cx)(e:Expr)(k:Int):Prop where
 h:PE X e (tC (.int k))
section
variable{X:Cx}{Z:XC}{pos:Pos}{e f:Expr}{i j k:Int}
theorem Fx{m pos}:MA X (.Constant (.int i) m pos) i:=⟨dR⟩
theorem fT(he:MA X e i)(hf:MA X f j)(hc:cA i j)(hk:i ^ j.toNat=k):MA X (.BinOp e .Pow f pos) k:=⟨by
 subst hk
 exact PE.mono (RH gR he.h hf.h) λσ H Q q=>⟨i,j,rfl,rfl,hc,q⟩⟩
theorem Pp(he:MA X e i)(hf:MA X f j)(hk:i-j=k):MA X (.BinOp e .Sub f pos) k:=⟨by
 subst hk
 exact PE.mono (RH dN he.h hf.h) λσ H Q q=>⟨i,j,rfl,rfl,q⟩⟩
end
end DL
namespace DL
open PySem PySem.W
open PyProof.Rows hiding St
structure WO(lt:Nat->Nat->Bool):Prop where
 tr:∀i j k,lt j i=false->lt k j=false->lt k i=false
 as:∀i j,lt i j=true->lt j i=false
section
end
end DL
namespace DL
open PySem PySem.Spec L2
open PyProof.Rows hiding St
section
variable{X:Cx}{pins:PNS}{σ:St}{H:Hp}{s:zv}
end
section
variable{prog:zW}{w:jk}{A:jA}{E:VSP}{s:zv}{C:Bool->zv->Prop}
end
section
variable{X:Cx}{Z:XC}{pins:PNS}{σ:St}{H:Hp}{s:zv}{F:List D->M D}{k:Nat}{f:Addr}{fd:xi}{ps:List Str}{μ:List Addr}{G:DH}
end
section
variable{X:Cx}{Z:XC}{e:Expr}{fe:Fe}{p pf kp pos:Pos}{x:Str}{F:List D->M D}
end
section
variable{prog:zW}{w:jk}{A:jA}{E:VSP}{s:zv}
end
section
variable{X:Cx}{Z:XC}{es:List Expr}{pos:Pos}
end
section
variable{X:Cx}{Z:XC}
end
section
variable{X:Cx}{Z:XC}
end
section
variable{prog:zW}{w:jk}{A:jA}{E:VSP}{s:zv}
end
section
variable{prog:zW}{w:jk}{A:jA}{E:VSP}{s:zv}
end
section
variable{prog:zW}{w:jk}{A:jA}{E:VSP}{s:zv}
end
section
variable{X:Cx}{Z:XC}{c:Wc}{μ:List Addr}{H:Hp}{G:DH}
end
section
variable{X:Cx}{Z:XC}{ea eb:Expr}{fa fb:Fe}{p p1 p2 q1 q2 q3 pos:Pos}
end
def aX(A:jA)(s:zv)(y x:zj)(b:Bool):Prop:=
 ∀(prog:zW) (w:jk) (E:VSP) (Q:VSP),Q (.bool b) s->zC (zH prog w) A (richCompare .GtE y x) Q E s
inductive GeR(A:jA)(s:zv):List zj->List zj->Bool->Prop
 |nil:GeR A s [] [] true
 |eq {x y xs ys b}:yC A s x y true->GeR A s xs ys b->GeR A s (x::xs) (y::ys) b
 |ne {x y xs ys b}:yC A s x y false->aX A s x y b->GeR A s (x::xs) (y::ys) b
section
open PySem.SeqAt
open PySem.AutoSeq1 (wpAny_loadPart')
open PySem.MeetsSeq PySem.MeetsSeq2 PySem.MeetsSeq3
end
section
variable{X:Cx}{Z:XC}
end
def y4(x y:Str):Str:=if stripSame y.cps.contains false true x then x else stripped y.cps.contains false true x
def FG:D->List D->M D:=λx ds=>match x,ds with
 | .str z, [.str p]=>if (y4 z p).length<=zg then pure (.str (y4 z p))else M.stuck
 |_,_=>M.stuck
def QE:D->List D->M D:=λx ds=>match x,ds with
 | .str z, [.str p]=>match jM z p 0 z.length 1 with
   |i::_=>pure (.int (i:Int))
   |[]=>M.stuck
 |_,_=>M.stuck
section
theorem cV:MtD X Z "str.rstrip" FG:=by
 intro pins s σ H x xs v us Q I rx rvs hE0
 obtain⟨d,ds,μ,G,rd,rl,hr,p⟩:=hE0
 unfold FG at p
 split at p
 · rename_i z q
   rw[A1 rd]at rx
   obtain⟨t,rfl⟩:=rx
   obtain⟨v1,rfl,r1⟩:=B1 rl
   obtain⟨u1,rfl,s1⟩:=U1 rvs
   rw[A1 r1]at s1
   obtain⟨t1,rfl⟩:=s1
   by_cases hl:(y4 z q).length<=zg
   case neg=>rw[if_neg hl]at p;exact p.elim
   rw[if_pos hl]at p
   refine call_gives JF (YZ _ _ _) F.entry_str_rstrip (F.args_str_rstrip_2 _ _) (gives_str_rstrip_chars z q t t1) ?_
   have p2:=d9.ok p hr
   unfold y4 at p2 hl
   split
   · rename_i h
     rw[if_pos h]at p2
     exact(show (PySem.Made.val _).post _ s from⟨.str z,H,I,⟨_,rfl⟩,p2 _ (by unfold f9;rfl)⟩)
   · rename_i h
     rw[if_neg h]at p2 hl
     exact(show (PySem.Made.str _).post _ s from⟨hl,.str _,H,I.tok _,⟨_,rfl⟩,p2 _ (by unfold f9;rfl)⟩)
 ·exact p.elim
theorem FU:MtD X Z "str.index" QE:=by
 intro pins s σ H x xs v us Q I rx rvs hE0
 obtain⟨d,ds,μ,G,rd,rl,hr,p⟩:=hE0
 unfold QE at p
 split at p
 · rename_i z q
   rw[A1 rd]at rx
   obtain⟨t,rfl⟩:=rx
   obtain⟨v1,rfl,r1⟩:=B1 rl
   obtain⟨u1,rfl,s1⟩:=U1 rvs
   rw[A1 r1]at s1
   obtain⟨t1,rfl⟩:=s1
   rcases e:jM z q 0 z.length 1 with _|⟨i,T6⟩
   ·rw[e]at p;exact p.elim
   · rw[e]at p
     refine call_gives JT (YZ _ _ _) F.entry_str_index (F.args_str_index_2 _ _) (gives_str_index z q t t1 i T6 e) ?_
     exact(show (PySem.Made.int _).post _ s from⟨.int (i:Int),H,I.tok _,⟨_,rfl⟩,d9.ok p hr _ (by unfold f9;rfl)⟩)
 ·exact p.elim
end
def U2(F:List D->M D):List D->Option (D×D)->M D
 |[],some b=>pure b.1
 |[],none=>M.stuck
 |d::r,none=>do
   let k <-noX (F [d])
   U2 F r (some (d,k))
 |d::r,some b=>do
   let k <-noX (F [d])
   let c <-noX (ltD k b.2)
   match c with
   | .bl true=>U2 F r (some (d,k))
   | .bl false=>U2 F r (some b)
   |_=>M.stuck
def iG(F:List D->M D):D->M D
 | .ref r=>do
   match <-O4 r with
   | .lst l=>do
     let _ <-d4 r (.rol l)
     noX (U2 F l none)
   |_=>M.stuck
 |_=>M.stuck
def RJ(F:List D->M D)(f:Fe):Fe:=λσ=>do
 let x <-f σ
 iG F x
def kX(c:Wc)(μ:List Addr)(H:Hp)(acc:Option (D×D))(old:Array zj):Prop:=match acc with
 |none=>old= #[]
 |some b=>∃v vk u uk,f9 c μ H b.1 v/\K4 v u/\f9 c μ H b.2 vk/\K4 vk uk/\old= #[u,uk]
section
variable{X:Cx}{Z:XC}{pins:PNS}{σ:St}{k:Nat}{f:Addr}{fd:xi}{ps:List Str}{F:List D->M D}{A:jA}
theorem eE8(hF:M0 X.prog X.w X.K X.mg X.base CX0 k f fd ps (spD (wc X) 1 F))(hb:n4 X.K fd ps [])(hA:U4 k A.in1)(hu:A.in1.units+64<xn)(h1:A.in1.handled=X.A.handled)(h2:A.in1.frames=X.A.frames/\A.in1.guards=X.A.guards)(hh:A.in1.handled=none){us:List zj}{o:Obj}{wl:List V}{n:Nat}
 (fI:∀H':Hp,H' I=none->D0 X pins H' I) (fS:∀H':Hp,H' S=none->D0 X pins H' S) (nIS:I≠S) (nlI:l≠I) (nlS:l≠S) (oc:o.cls= .type "list") (od:o.data= .seq us.toArray n):
 ∀(r:List D) (rv:List V) (ru:List zj) (j:Nat) acc old (e:Nat) (μ:List Addr) (G:DH) (H:Hp) (s:zv),
  us.drop j=ru->j<=us.length->u9 (wc X) μ H r rv->J1 rv ru->H l=some (.frz o (.lst wl))->J0 (wc X) μ G H->Inv X pins σ H s->s.heap.IsListIter I l j->s.heap.get? S=some (jh "list" old e)->kX (wc X) μ H acc old->H I=none->H S=none->
  d9 (wc X) ZF μ H (U2 F r acc G) (λd X9 G' H'=>∀(s':zv) (v:V) (u:zj),J0 (wc X) X9 G' H'->f9 (wc X) X9 H' d v->K4 v u->Inv X pins σ H' s'->R (.ok (.ret u)) s')->
  Zw (zH X.prog X.w) A (.builtin "min.loop" ⟨[.ref I,.ref f,.ref S], []⟩) R s:=by
 have hname:(toString "min" ++ toString ".loop" :String)= "min.loop":=by decide
 have W:=JN (prog:=X.prog) (w:=X.w) hh I l nlI us.toArray
 have isl:∀ {H:Hp} {s:zv},H l=some (.frz o (.lst wl))->Inv X pins σ H s->s.heap.get? l=some o:=λ{H s} hl I0=>((show R0 X.prog X.w H s.heap l (.frz o (.lst wl))from I0.hok l _ hl)).1
 have isL:∀ {s:zv},s.heap.get? l=some o->s.heap.IsList l us.toArray:=λ{s} h=>⟨o,h,oc,n,od⟩
 intro r
 induction r with
 |nil=>
   intro rv ru j acc old e μ G H s hd hj r1 r2 hl hr I0 hit hS ho nI nS p
   cases r1
   cases r2
   have hj2:us.length=j:=by
    have:=congrArg xl hd
    simp at this
    lia
   rcases acc with _|b
   ·exact p.elim
   obtain⟨v,vk,u,uk,a1,a2,a3,a4,rfl⟩:=ho
   refine xq XU ?_
   rw[yw yi _]
   refine za (jP hS rfl ?_)
   refine za (xL (W.done s _ _ ⟨by rw[zi,hj2];exact hit,isL (isl hl I0)⟩ λh' tk hk'=>?_))
   have hS':=hk' S _ (by simpa using Ne.symm nIS) hS
   refine za (Ye hS' rfl (za (xh (zq ?_))))
   have I1:Inv X pins σ H {s with heap:=h',toks:=tk}:=aA (ch:= [I]) I0 (λb hb=>by rw[zk]at hb;subst hb;exact fI H nI) λb o hb e=>hk' b o hb e
   exact d9.ok p hr _ v u hr a1 a2 (aA (ch:= [S]) I1 (λb hb=>by rw[zk]at hb;subst hb;exact fS H nS) λb o hb e=>(xr _ _ (λz=>hb (by rw[z];exact zk.mpr rfl))).trans e)
 |cons d r ih=>
   intro rv ru j acc old e μ G H s hd hj r1 r2 hl hr I0 hit hS ho nI nS p
   obtain⟨v0,rv,rfl,rd,rr⟩:=r1
   cases r2 with
   |cons ru0 rur=>
   rename_i u0 ur
   have hlt:j<us.length:=by
    rcases ZE j us.length with q|q
    ·exact q
    ·rw[xz q]at hd;cases hd
   have hd':us.drop (j+1)=ur:=by
    have:=congrArg List.tail hd
    rw[List.tail_drop]at this
    exact this
   have hu0:us[j]? =some u0:=by
    have:=congrArg List.head? hd
    rw[List.head?_drop]at this
    exact this
   refine xq XU ?_
   rw[yw yi _]
   refine za (jP hS rfl ?_)
   refine za (xL (W.item j s _ _ (by rw[zi];exact hlt) ⟨hit,isL (isl hl I0)⟩ λv h' tk hP hst' hk'=>?_))
   have ev:v=u0:=by
    have hP':us[j]? =some v:=by simpa using hP
    rw[hu0]at hP'
    exact(jl hP').symm
   subst ev
   have hS':=hk' S _ (by simpa using Ne.symm nIS) hS
   have I1:Inv X pins σ H {s with heap:=h',toks:=tk}:=aA (ch:= [I]) I0 (λb hb=>by rw[zk]at hb;subst hb;exact fI H nI) λb o hb e=>hk' b o hb e
   obtain⟨oI,gI,cI,dI⟩:=hst'.1
   have IX:=uM (A:=A.in1) (I1.pinned (fp:= [I,S]) (λb hb=>by
    rcases zp.mp hb with rfl|hb
    ·exact fI H nI
    ·rw[zk]at hb;subst hb;exact fS H nS) (λb hb=>by
    rcases zp.mp hb with rfl|hb
    ·exact⟨_,gI,λv z=>by rw[dI]at z;cases z⟩
    ·rw[zk]at hb;subst hb;exact⟨_,hS',λv z=>by cases z⟩)) h1 h2
   rcases acc with _|b
   · cases ho
     have pb:=NA (d9.bind p)
     have call:=HD (X:=Cx.rm X A.in1) (dvs:= []) (ds:= []) (Q:=λv' H'=>∃k X1 G1,Ext μ H X1 H'/\J0 (wc X) X1 G1 H'/\f9 (wc X) X1 H' k v'/\d9 (wc X) ZF X1 H' (U2 F r (some (d,k)) G1) _) hF hA hb .nil RD IX (show J1 [v0] [v]from .cons ru0 .nil)
      (⟨rfl, [d],μ,G,⟨v0, [],rfl,rd,rfl⟩,hr,pb.mono λk X1 G1 H1 x1 hr1 p1 v' rv'=>⟨k,X1,G1,x1,hr1,rv',p1⟩⟩)
     refine za (xL (ju (jE call (λkv s' hk=>?_) λ_ _ z=>z.elim)))
     obtain⟨v',H',I',rv',k0,X1,G1,x1,hr1,rk,p1⟩:=hk
     have I2:=KI I' h1 h2
     obtain⟨gS,nS',_⟩:=I2.pin (S,jh "list" #[] e) (zE _ (zE _ (R4 (by simp) hS')))
     obtain⟨gI',nI',_⟩:=I2.pin (I,oI) (zE _ (zE _ (R4 (by simp) gI)))
     refine za (Ye gS rfl ?_)
     rw[hname]
     have hl':H' l=some (.frz o (.lst wl)):=x1.frz _ _ _ hl
     have I3:=aA (h':=s'.heap.update S (jg λ_=> #[v,kv])) (t':=s'.toks) (ch:= [S]) I2.unpinned (λb hb=>by rw[zk]at hb;subst hb;exact fS H' nS') (λb o hb e=>by
      rw[zk]at hb
      rw[jz _ _ _ _ hb];exact e)
     obtain⟨c2,hc2⟩:∃c2,(s'.heap.update S (jg λ_=> #[v,kv])).get? S=some (jh "list" #[v,kv] c2):=⟨_,yX gS λ_=> #[v,kv]⟩
     refine zq ⟨yI yi _,ih rv ur (j+1) (some (d,k0)) #[v,kv] c2 X1 G1 H' _ hd' (by lia) (rr.mono x1) rur hl' hr1 I3 ⟨oI,by rw[jz _ _ _ _ nIS];exact gI',cI,dI⟩ hc2 ⟨v0,v',v,kv,rd.mono x1,ru0,rk,rv',rfl⟩ nI' nS' p1⟩
   · obtain⟨vb,vk,ub,uk,b1,b2,b3,b4,rfl⟩:=ho
     have pb:=NA (d9.bind p)
     have call:=HD (X:=Cx.rm X A.in1) (dvs:= []) (ds:= []) (Q:=λv' H'=>∃k X1 G1,Ext μ H X1 H'/\J0 (wc X) X1 G1 H'/\f9 (wc X) X1 H' k v'/\d9 (wc X) ZF X1 H' ((noX (ltD k b.2) >>= λc=>match c with| .bl true=>U2 F r (some (d,k))| .bl false=>U2 F r (some b)|_=>M.stuck) G1) _) hF hA hb .nil RD IX (show J1 [v0] [v]from .cons ru0 .nil)
      (⟨rfl, [d],μ,G,⟨v0, [],rfl,rd,rfl⟩,hr,pb.mono λk X1 G1 H1 x1 hr1 p1 v' rv'=>⟨k,X1,G1,x1,hr1,rv',p1⟩⟩)
     refine za (xL (ju (jE call (λkv s' hk=>?_) λ_ _ z=>z.elim)))
     obtain⟨v',H',I',rv',k0,X1,G1,x1,hr1,rk,p1⟩:=hk
     have cmp:=(HL (X:=Cx.rm X A.in1) (Z:=ZF) hu).h _ s' _ _ v' vk kv uk (λw H2=>∃c WZ G2,Ext X1 H' WZ H2/\J0 (wc X) WZ G2 H2/\f9 (wc X) WZ H2 c w/\d9 (wc X) ZF WZ H2 ((match c with| .bl true=>U2 F r (some (d,k0))| .bl false=>U2 F r (some b)|_=>M.stuck) G2) _) I' rv' b4
      (⟨k0,b.2,X1,G1,rk,b3.mono x1,hr1,(NA (d9.bind p1)).mono λc WZ G2 H2 x2 hr2 p2 w rw'=>⟨c,WZ,G2,x2,hr2,rw',p2⟩⟩)
     refine za (xL (ju (za (jE cmp (λa s2 hk=>?_) λ_ _ z=>z.elim))))
     obtain⟨w,H2,I'2,rw',c,WZ,G2,x2,hr2,rc,p2⟩:=hk
     have I2:=KI I'2 h1 h2
     obtain⟨gS,nS',_⟩:=I2.pin (S,jh "list" #[ub,uk] e) (zE _ (zE _ (R4 (by simp) hS')))
     obtain⟨gI',nI',_⟩:=I2.pin (I,oI) (zE _ (zE _ (R4 (by simp) gI)))
     have xx:=x1.trans x2
     have hl':H2 l=some (.frz o (.lst wl)):=xx.frz _ _ _ hl
     rcases c with _|bb|_|_|_|_|_|_<;>try exact p2.elim
     have ew:w= .bl bb:=by unfold f9 at rc;exact rc
     subst ew
     have ea:a= .bool bb:=rw'
     subst ea
     refine za (ju (jY ?_))
     refine za (xh (zq ?_))
     rcases bb with _|_
     · rw[if_neg ja]
       refine za (xh ?_)
       rw[hname]
       exact zq ⟨yI yi _,ih rv ur (j+1) (some b) #[ub,uk] e WZ G2 H2 _ hd' (by lia) (rr.mono xx) rur hl' hr2 I2.unpinned ⟨oI,gI',cI,dI⟩ gS ⟨vb,vk,ub,uk,b1.mono xx,b2,b3.mono xx,b4,rfl⟩ nI' nS' p2⟩
     · rw[if_pos rfl]
       refine za (Ye gS rfl (za (xh ?_)))
       rw[hname]
       have I3:=aA (h':=s2.heap.update S (jg λ_=> #[v,kv])) (t':=s2.toks) (ch:= [S]) I2.unpinned (λb hb=>by rw[zk]at hb;subst hb;exact fS H2 nS') (λb o hb e=>by
        rw[zk]at hb
        rw[jz _ _ _ _ hb];exact e)
       obtain⟨c2,hc2⟩:∃c2,(s2.heap.update S (jg λ_=> #[v,kv])).get? S=some (jh "list" #[v,kv] c2):=⟨_,yX gS λ_=> #[v,kv]⟩
       exact zq ⟨yI yi _,ih rv ur (j+1) (some (d,k0)) #[v,kv] c2 WZ G2 H2 _ hd' (by lia) (rr.mono xx) rur hl' hr2 I3 ⟨oI,by rw[jz _ _ _ _ nIS];exact gI',cI,dI⟩ hc2 ⟨v0,v',v,kv,rd.mono xx,ru0,rk.mono x2,rv',rfl⟩ nI' nS' p2⟩
theorem Inv.freezeL(I:Inv X pins σ H s)(e:H a=some (.lst ws))(ho:s.heap.get? a=some o):Inv X pins σ (upd H a (.frz o (.lst ws))) s:=by
 have q:R0 X.prog X.w H s.heap a (.lst ws):=I.hok a _ e
 exact I.write (x:=a) (e:=a) (t':=s.toks) (h':=s.heap) (by rw[e];exact trivial) (.inl rfl) (λb u _ z=>z) ⟨o,ho⟩ ⟨ho,q⟩
theorem eW{u:zj}{v:V}{d:D}{H:Hp}(hc:X.calm=true)(hF:M0 X.prog X.w X.K X.mg X.base CX0 k f fd ps (spD (wc X) 1 F))(hb:n4 X.K fd ps [])(hrm:U4 (k+2) X.A)(I:Inv X pins σ H s)(hr:J0 (wc X) μ G H)(rd:f9 (wc X) μ H d v)(ru:K4 v u)
 (p:d9 (wc X) Z μ H (iG F d G) (λd X9 _ H'=>∀v,f9 (wc X) X9 H' d v->Q v H')):zC (zH X.prog X.w) X.A (call (.builtin "min") [u] [(jO "key",.ref f)]) (EP X pins σ Q) X.xe s:=by
 obtain⟨i,rfl⟩:∃i,d= .ref i:=match d,p with
  | .ref i,_=>⟨i,rfl⟩
 unfold f9 at rd
 obtain⟨a,m,rfl⟩:=rd
 cases ru
 obtain⟨o,g,p1⟩:=M7 p
 have ro:=hr.obj i o a g m
 rcases o with l|l|l|l<;>try exact p1.elim
 obtain⟨ws,q,rl⟩:=ro
 obtain⟨hz,its,n,rv,ga⟩:=(show R0 X.prog X.w H s.heap a (.lst ws)from I.hok a _ q)
 have I1:=DL.Inv.freezeL I q ga
 have x:Ext μ H μ (upd H a (.frz {cls:=.type "list",data:=.seq its.toArray n} (.lst ws))):=Ext.mut (js m) q (λ_ z=>nomatch z) (λ_ _ z=>nomatch z) _
 have hr1:J0 (wc X) μ (G.set i (.rol l)) (upd H a (.frz {cls:=.type "list",data:=.seq its.toArray n} (.lst ws))):=hr.setR g (λz=>z) m x ⟨ws,.inl ⟨_,N8⟩,rl.mono x⟩
 have p2:=NA (d9.from p1 x)
 have hname:(toString "min" ++ toString ".loop" :String)= "min.loop":=by decide
 have hlt:a<s.heap.objs.size:=zu ga
 have hl:s.heap.IsList a its.toArray:=⟨_,ga,rfl,_,rfl⟩
 refine kmk_tree PySem.F.kind_min PySem.F.plain_min PySem.F.entry_min (kmk_min_key _ _) ?_
 refine za (wpAny_of_eq (show Builtin.Builtins.bindParams "min" ["key", "default"] 0 ⟨[], [(jO "key",.ref f)]⟩=pure [some (.ref f),none]from rfl) (za (zq (za (xM hl (za (xm ?_ (zY _))))))))
 rw[hname]
 have hS:∀o,(s.heap.push o).objs.size=s.heap.objs.size+1:=λo=>Xf ..
 have n0:∀ {b:Addr},s.heap.objs.size<=b->upd H a (.frz {cls:=.type "list",data:=.seq its.toArray n} (.lst ws)) b=none:=λ{b} hb=>by
  rw[v7 (show b≠a from λz=>by rw[z]at hb;exact absurd hlt (XW.mpr hb))]
  exact I.hok.fresh hb
 refine zq ⟨yI yi _,eE8 (X:=X) (pins:=pins) (σ:=σ) (n:=n) (wl:=ws) (us:=its) (o:={cls:=.type "list",data:=.seq its.toArray n}) hF hb (hrm.in1.mono (by lia)) (U4.units hrm.in1) rfl ⟨rfl,rfl⟩ (I.ok.hd hc) (λH' hn=>I1.fpOk (zo _) hn) (λH' hn=>I1.fpOk (by rw[hS];exact JU _) hn) (by rw[hS];exact zF (xP _)) (zF hlt) (by rw[hS];exact zF (yD hlt)) rfl rfl l ws its 0 none #[] 0 μ _ _ _ rfl (zY _) (rl.mono x) rv N8 hr1 ((I1.kept (t':=s.toks) λb o z=>zd _ (zd _ z))) ⟨_,zd _ (zw _ rfl),rfl,rfl⟩ (zw _ rfl) rfl (n0 (zo _)) (n0 (by rw[hS];exact JU _)) ?_⟩
 exact p2.mono λd X9 G' H' x' hr' p' s' v u hr2 rv2 ru2 I2=>⟨v,H',I2,ru2,p' v rv2⟩
end
section
variable{X:Cx}{Z:XC}{F:List D->M D}{x:Str}{e:Expr}{fe:Fe}{p pf kp pos:Pos}
theorem Hb(hc:X.calm=true)(hF:∃k kk,C8 F 1 x X.prog X.w X.K X.mg X.base k/\U4 kk X.A/\k+2<=kk)(hbl:BLs X.mg)(hgs:Gl X "min")(hg:Gl X x)(he:DE X Z e fe)(hs:Z4 e=true)(hdb:(x==("__debug__" :Str))=false):
 DE X Z (.Call (.Name "min" p) [e] [⟨some "key",.Name x pf,kp⟩] pos) (RJ F fe):=⟨by
 intro pins s σ H Q I h
 obtain⟨k,kk,hF,hrm,hk⟩:=hF
 obtain⟨f,fd,ps,f1,f2,f3,f4⟩:=hF.ex
 have hbs:zV ("min" :Str)=some (.builtin "min"):=vZ
 refine yx (B6 I hgs (hbl.h _ (by decide +kernel)) hbs ?_ (by decide) (by decide))
 obtain⟨Z6,μ,G,sr,hr,pp⟩:=h
 unfold RJ at pp
 have pa:=d9.bind pp
 have hst:zP [e] X.env= (false,eval e X.env)::zP [] X.env:=rA hs
 refine callWith_builtin_kwB (by rw[iD];exact cB (by rw[jU,hs];rfl)) rfl (evalArgs_kw2 rfl ?_ hst)
 have ha:DA X Z [e] (d0 fe g0):=LJ he tI hst
 refine thn (ha.h pos pins s σ H (λvs H1=>∃v d X1 G1,vs= [v]/\f9 (wc X) X1 H1 d v/\J0 (wc X) X1 G1 H1/\d9 (wc X) Z X1 H1 (iG F d G1) (λd X9 _ H'=>∀v,f9 (wc X) X9 H' d v->Q v H')) I ?_) λus s1 ⟨vs,H1,I1,r1,v,d,X1,G1,e1,rd,hr1,p1⟩=>?_
 · refine⟨Z6,μ,G,sr,hr,?_⟩
   show d9 (wc X) Z μ H ((fe Z6 >>= λy=>(pure [y]:M (List D))) G) _
   match hm:fe Z6 G,pa with
   |some (.ok y,G1),pa=>
     rw[M.bind_ok hm]
     intro X9 H' x1 h1 vs rv
     obtain⟨v,ev,rv2⟩:=B1 rv
     subst ev
     exact⟨v,y,X9,G1,rfl,rv2,h1,pa X9 H' x1 h1⟩
   |some (.error y,G1),pa=>
     rw[M.bind_eq,hm]
     exact pa
 · subst e1
   obtain⟨u,rfl,ru⟩:=U1 r1
   show zC _ _ (evalAll [(do let v <-eval (.Name x pf) X.env;Jh pos;pure v)]) _ _ s1
   refine wpAny_evalAll_cons (za (PC I1 hg f2 (za (ZC (zq (wpAny_evalAll_nil ?_)))) hdb))
   exact eW hc f1 f4 (hrm.mono hk) I1 hr1 rd ru p1⟩
end
section
variable{prog:zW}{w:jk}{A:jA}{E:VSP}{s:zv}{K:Type}[DecidableEq K]{knd:KeyKind prog w K}
end
section
variable{X:Cx}{Z:XC}{ea:Expr}{fa:Fe}{p q1 ap pos:Pos}
end
inductive CdE(w:jk)(K:zh)(mg:Str->Option zj):List DictEntry->List (Str×D)->Prop
 |nil:CdE w K mg [] []
 |cons {z:Str} {t:Tok} {u:zj} {d:D} {es:List DictEntry} {tb:List (Str×D)} (h:CR K mg d u) (r:CdE w K mg es tb):CdE w K mg ({hash:=PyData.keyHash w.params z,key:=.str z t,val:=u}::es) ((z,d)::tb)
structure CdOk(w:jk)(K:zh)(mg:Str->Option zj)(x:Str)(tb:List (Str×D)):Prop where
 ex:∃a es n,mg x=some (.ref a)/\K.lookup a=some ⟨.type "dict",none,.dict (zR es) n, #[]⟩/\CdE w K mg es tb
 nd:(tb.map (·.1)).Nodup
section
variable{X:Cx}{Z:XC}{b:Expr}{fb:Fe}{x:Str}{tb:List (Str×D)}{p pos:Pos}
end
mutual
def pyD:D->PyData
 | .non=>.none
 | .bl b=>.bool b
 | .int i=>.int i
 | .str x=>.str x
 | .tup l=>.tuple (pyL l)
 | .ref _=>.none
 | .fn _=>.none
 | .ty _=>.none
def pyL:List D->List PyData
 |[]=> []
 |d::r=>pyD d::pyL r
end
mutual
def qC:D->Bool
 | .non=>true
 | .bl _=>true
 | .int _=>true
 | .str _=>true
 | .tup l=>qG l
 | .ref _=>false
 | .fn _=>false
 | .ty _=>false
def qG:List D->Bool
 |[]=>true
 |d::r=>qC d&&qG r
end
mutual
theorem Sv:∀d:D,(pyD d).hasDict=false
 | .non=>rfl
 | .bl _=>rfl
 | .int _=>rfl
 | .str _=>rfl
 | .tup l=>by unfold pyD;exact OM l
 | .ref _=>rfl
 | .fn _=>rfl
 | .ty _=>rfl
theorem OM:∀l:List D,JS (pyL l)=false
 |[]=>rfl
 |d::r=>by unfold pyL;show ((pyD d).hasDict||JS (pyL r))=false;rw[Sv d,OM r];rfl
end
section
variable{X:Cx}{Z:XC}{pins:PNS}{σ:St}{H:Hp}{s:zv}
theorem GV(I:Inv X pins σ H s)(q:SqT X.K H a vs):∃o its n,s.heap.get? a=some o/\o.cls= .type "tuple"/\o.data= .seq its n/\J1 vs its.toList:=by
 rcases q with q|⟨o,its,n,hl,hc,hd,_,hv⟩
 · obtain⟨_,its,hv,o,e,c,n,d⟩:=(show R0 X.prog X.w H s.heap a (.tup vs)from AI I.hok q)
   exact⟨o,its.toArray,n,e,c,(yV d).1,by simpa using hv⟩
 ·exact⟨o,its,n,I.kIn _ _ hl,hc,(yV hd).1,hv⟩
mutual
theorem vg(I:Inv X pins σ H s):∀d {v} {u},qC d=true->f9 (wc X) μ H d v->K4 v u->∃as,Reads s.heap u (pyD d) as
 | .non,v,u,_,r,q=>by unfold f9 at r;subst r;cases q;exact⟨_,.none⟩
 | .bl b,v,u,_,r,q=>by unfold f9 at r;subst r;cases q;exact⟨_,.bool b⟩
 | .int i,v,u,_,r,q=>by unfold f9 at r;subst r;obtain⟨t,rfl⟩:=q;exact⟨_,.int i t⟩
 | .str x,v,u,_,r,q=>by unfold f9 at r;subst r;obtain⟨t,rfl⟩:=q;exact⟨_,.str x t⟩
 | .tup l,v,u,hd,r,q=>by
   unfold f9 at r
   obtain⟨a,vs,rfl,sq,rl⟩:=r
   cases q
   obtain⟨o,its,n,e,c,d,hv⟩:=GV I sq
   obtain⟨as,ra⟩:=tM I l (by unfold qC at hd;exact hd) rl hv
   unfold pyD
   exact⟨as,.tuple e c d ra⟩
 | .ref _,v,u,hd,_,_=>by unfold qC at hd;cases hd
 | .fn _,v,u,hd,_,_=>by unfold qC at hd;cases hd
 | .ty _,v,u,hd,_,_=>by unfold qC at hd;cases hd
theorem tM(I:Inv X pins σ H s):∀l {vs} {us},qG l=true->u9 (wc X) μ H l vs->J1 vs us->∃as,ReadsAll s.heap us (pyL l) as
 |[],vs,us,_,r,q=>by unfold u9 at r;subst r;cases q;exact⟨_,.nil⟩
 |d::l,vs,us,hd,r,q=>by
   unfold u9 at r
   obtain⟨v,r',rfl,r1,r2⟩:=r
   unfold qG at hd
   rw[jt]at hd
   cases q with
   |cons q1 q2=>
     obtain⟨as,h1⟩:=vg I d hd.1 r1 q1
     obtain⟨bs,h2⟩:=tM I l hd.2 r2 q2
     unfold pyL
     exact⟨_,.cons h1 h2⟩
end
end
section
variable{X:Cx}{Z:XC}
end
end DL
namespace W
open PySem PySem.Spec L2 DL
open PyProof.Rows hiding St
end W
namespace DL
open PySem PySem.Spec L2
open PyProof.Rows hiding St
section
variable{X:Cx}{Z:XC}{o:Expr}{fo:Fe}{name:Str}{id:String}{mm:D->List D->M D}{apos cpos:Pos}
end
def sV:zj->Str
 | .str x _=>x
 |_=> ""
def byT(w:jk):Bool:=w.params.followText "set-order"
def TSet(prog:zW)(w:jk)(h:Heap)(a:Addr)(ss:List Str):Prop:=∃o es ep t,h.get? a=some o/\o.ExactSet/\o.data= .set es ep t/\ElemsOf (strKind prog w) es.toList/\(es.toList.map λe=>sV e.2).Perm ss/\es.size<scanBound/\t.fits es.size=true/\t.led= (!byT w)/\(0<es.size->t.plain=false)
section
variable{prog:zW}{w:jk}{A:jA}{E:VSP}{s:zv}
end
section
variable{prog:zW}{w:jk}{A:jA}{R:Result->zv->Prop}{I:Addr}{fp wr:List Addr}{G:Array GenState->Array GenState->Prop}{n:Nat}{P:Nat->zj->Prop}{St:Nat->zv->Prop}
end
section
end
section
end
section
end
structure SWalk(prog:zW)(w:jk)(A:jA)(s:zv)(a:Addr)(ss:List Str)(I:Addr)(h':Heap):Prop where
 keep:∀b o,s.heap.get? b=some o->h'.get? b=some o
 new:s.heap.objs.size<=I
 walk:∃(J:Addr) (vs:List zj) (ss':List Str) (St:Nat->Heap->Prop),s.heap.objs.size<=J/\StrsAre vs ss'/\ss'.Perm ss/\Walks prog w A I [I,J,a] [I] vs.length (λi v=>vs[i]? =some v) St/\St 0 h'
section
end
section
variable{prog:zW}{w:jk}{A:jA}{E:VSP}{s:zv}{a I:Addr}{es:Array (Int×zj)}{ep:Nat}{t:SetTable}
end
section
variable{prog:zW}{w:jk}{s:zv}{a I:Addr}{es:Array (Int×zj)}{ep:Nat}{t:SetTable}
end
section
end
section
end
section
end
end DL
namespace W
open PySem PySem.Spec L2 DL
open PyProof.Rows hiding St
end W
namespace DL
open PySem PySem.Spec L2
open PyProof.Rows hiding St
structure LayI(mask:Nat)(k:Nat)(owner:Array (Option Nat)):Prop where
 sz:owner.size=mask+1
 pm:(owner.toList.filterMap id).Perm (jr k)
section
variable{prog:zW}{w:jk}{A:jA}{E:VSP}{s:zv}{a:Addr}
end
section
end
section
end
section
end
inductive QI(w:jk):List DictEntry->List Str->Prop
 |nil:QI w [] []
 |cons {e:DictEntry} {x:Str} {tk:Tok} {es:List DictEntry} {xs:List Str}:e.key= .str x tk->e.hash=hashStr w x->QI w es xs->QI w (e::es) (x::xs)
section
end
section
end
section
end
end DL
namespace W
open PySem PySem.Spec L2 DL
open PyProof.Rows hiding St
end W
namespace DL
open PySem PySem.Spec L2
open PyProof.Rows hiding St
structure Ev where
 P:zW
 w:jk
 K:zh
 mg:Str->Option zj
 base:Heap
structure EvX(E:Ev):Prop where
 ex:∃h:Heap,E.K.In h/\h.Ns jv E.mg
abbrev Ck(E:Ev)(F:List D->M D)(n:Nat)(x:Str)(k:Nat):Prop:=C8 F n x E.P E.w E.K E.mg E.base k
def BA(x:Str)(st:Stmt)(ps:List Str):Prop:=∀(kV doc pm:zj) (an:Option Addr) (cdv ct:zj) (us:List zj),us.length=ps.length->bindArgs (yh x x (i9 st) (N4 st) (M5 st) .none kV doc pm an cdv ct) ⟨us, []⟩=pure (ps.zip us)
section
variable{E:Ev}{x:Str}{st:Stmt}{k n m:Nat}{fb:Fs}
theorem Q3(N ps:List Str)(X:EvX E)(Y:FH E.K x st)(S:x5 N ps (M5 st))(b:BA x st ps)(hn:ps.length=n)(hm:N.length=m)
 (hb:x5 N ps (M5 st)->∀f cdv A outer s H Z,U4 k (A.deeper (ZD x (M5 st) s.heap.objs.size f cdv))->DB (l7 CX0 E.P E.w E.K E.mg E.base N x (M5 st) f cdv A outer s H Z).nox ZF (N4 st) fb):Ck E (J3 m fb) n x (k+1):=by
 obtain⟨h,X,G⟩:=X.ex
 obtain⟨f,fd,c⟩:=Y.ff X G b
 exact C8.of c (uQ c S hn hm (hb S f))
theorem UA(ps:List Str)(X:EvX E)(Y:FH E.K x st)(b:BA x st ps)(hn:ps.length=n):Ck E (λ_=>M.stuck) n x k:=by
 obtain⟨h,X,G⟩:=X.ex
 obtain⟨f,fd,c⟩:=Y.ff X G b
 exact C8.of c (hV hn)
end
def FHs(K:zh)(top:Nat->Stmt):List Str->List Nat->Prop
 |x::r,i::s=>FH K x (top i)/\FHs K top r s
 |_,_=>True
section
variable{K:zh}{top:Nat->Stmt}{x:Str}{i:Nat}{r:List Str}{s:List Nat}{mg:Str->Option zj}{d:D}{u:zj}{h:Heap}
theorem FHs.c(h:FH K x (top i))(t:FHs K top r s):FHs K top (x::r) (i::s):=⟨h,t⟩
structure CC(K:zh)(mg:Str->Option zj)(x:Str)(d:D):Prop where
 ex:∃u,xQ K jv x=some (some u)/\CR K mg d u
theorem CC.of(g:xQ K jv x=some (some u))(r:CR K mg d u):CC K mg x d:=⟨u,g,r⟩
theorem CC.ok(c:CC K mg x d)(X:K.In h)(G:h.Ns jv mg):FD K mg x d:=by
 obtain⟨u,g,r⟩:=c.ex
 exact⟨u,ZN X G g,r⟩
theorem Sx{fa:Addr}{P:zW}{w:jk}{N:List Str}{k m:Nat}{fb:Fs}(X:K.In h)(G:h.Ns jv mg)(hfa:mg "law" =some (.ref fa))(Y:FH K "law" (top i))(b:BA "law" (top i) ["script"])(S:x5 N ["script"] (M5 (top i)))(hm:N.length=m)
 (hs:∀kV dc pm an cd ct (s:zv) (v:zj),ZY s (yh "law" "law" (i9 (top i)) (N4 (top i)) (M5 (top i)) .none kV dc pm an cd ct) ⟨[v], []⟩ [("script",v)])
 (hb:∀base,x5 N ["script"] (M5 (top i))->∀cdv A outer s H Z,U4 k (A.deeper (ZD "law" (M5 (top i)) s.heap.objs.size fa cdv))->DB (l7 CX0 P w K mg base N "law" (M5 (top i)) fa cdv A outer s H Z).nox ZF (N4 (top i)) fb)
 (pure:∀ns:List Int,ns.length<=63->∃G',J3 m fb [.ref 0] [.rol (ns.map D.int)]=some (.ok (.bl true),G')):
 ∃fd:xi,(∀(s:zv) (v:zj),ZY s fd ⟨[v], []⟩ [("script",v)])/\∀base:Heap,K.In base->base.Ns jv mg->M0 P w K mg base CX0 (k+1) fa fd ["script"] (uF K):=by
 obtain⟨f,od,an,sl,oc,kV,dc,pm,cd,ct,a,l,e,kp⟩:=Y
 have q:=hfa.symm.trans (ZN X G a)
 cases q
 exact⟨_,hs kV dc pm an cd ct,λbase _ _=>Qw (uQ ⟨WG l e kp,(WG l e kp).binds b,ZN X G a⟩ S rfl hm (hb base S)) pure⟩
theorem walk63{l:PySem.W.OpenLaw}{q:zW}{loose:List Str}{XP:(Str->Option zj)->Heap->Prop}{YP:jk->Heap->Prop}{d:DefRec}{K:Params->zh}(k:Nat)(hn:l.most=some 63)(hdf:d.params.defaults= [])(hr:U4 k YD)
 (hY:∀(w:jk) (h:Heap),YP w h->(K w.params).In h)
 (F:∀(w:jk) (mg:Str->Option zj) (fa:Addr) (h:Heap),(K w.params).In h->h.Ns jv mg->mg d.name=some (.ref fa)->
   ∃fd:xi,(∀(s:zv) (u:zj),ZY s fd ⟨[u], []⟩ [("script",u)])/\∀base:Heap,(K w.params).In base->base.Ns jv mg->M0 l.prog w (K w.params) mg base CX0 k fa fd ["script"] (uF (K w.params))):
 PySem.W.WalkO q loose XP YP l.row.toRowW d [] (λf vs=>JM f vs):=
 L2.walk_of hn (by decide) hdf hr hY F (λ_ _ a ns hl hO hS=>⟨a,ns,rfl,hS,hO,hl,λ_=>rfl⟩) λ_ _ _ _ _ z=>z
end
def ltX(x y:Str):Bool:=decide (x.cps.toList<y.cps.toList)
section
variable{prog:zW}{w:jk}{A:jA}{E:VSP}{s:zv}
def EC(h:Heap)(u:zj)(x:Str):Prop:=∃b t v,u= .ref b/\(v==v)=true/\h.get? b=some {cls:=.type "tuple",data:=.seq #[.str x t,v]}
theorem sY{v:zj}(hv:(v==v)=true)(h:C true s):zC (zH prog w) A (eqBool v v) C E s:=by
 unfold eqBool
 refine ju ?_
 rw[if_pos hv]
 exact za (Zn (zq h))
theorem MX(hx:EC s.heap u x)(hy:EC s.heap u' y)(hs:x=y->u=u')(h:C (ltX x y) s):zC (zH prog w) A (keyLt' (tuples' true) u u') C E s:=by
 obtain⟨a,t,v,rfl,hv,ha⟩:=hx
 obtain⟨b,t',v',rfl,hv',hb⟩:=hy
 refine PySem.W.kat_lt ha rfl hb rfl ?_
 show PySem.W.KatLex prog w A true _ C [(.str x t,.str y t'),(v,v')] 0 s
 refine Zk (eqBool_str (Xe (λe=>?_) λe=>?_))
 · have e:x=y:=by simpa using e
   cases hs e
   cases ha.symm.trans hb
   refine Zp (Zk (sY hv (Zp (PySem.W.kat_nil ?_))))
   have q:ltX x x=false:=by simp[ltX]
   rw[q]at h
   exact h
 · refine Xd ?_
   show zC (zH prog w) A (oneLt' true _ _) C _ s
   rw[<-YB,YB]
   exact oneLt_str h
theorem Pj{vs:List zj}{xs:List Str}(hl:xs.length=vs.length)(h2:2<=vs.length)(hp:∀(i:Nat) x,xs[i]? =some x->∃u,vs[i]? =some u/\EC s.heap u x)(h:Q (tuples' true) s):zC (zH prog w) A (keyKind' vs.toArray) Q E s:=by
 have gen:∀(vs:List zj) (xs:List Str),xs.length=vs.length->(∀(i:Nat) x,xs[i]? =some x->∃u,vs[i]? =some u/\EC s.heap u x)->∃fs:List zj,YL s.heap vs fs/\fs.length=vs.length/\∀v∈fs,∃n t,v= .str n t:=by
  intro vs
  induction vs with
  |nil=>exact λxs _ _=>⟨[],trivial,rfl,λv hv=>by cases hv⟩
  |cons u r ih=>
    intro xs hl hk
    rcases xs with _|⟨q,qr⟩
    ·simp at hl
    obtain⟨u',e1,b,t,v,rfl,hv,ho⟩:=hk 0 q rfl
    simp at e1
    subst e1
    obtain⟨fs,f1,f2,f3⟩:=ih qr (by simpa using hl) λi q hq=>by simpa using hk (i+1) q (by simpa using hq)
    refine⟨.str q t::fs,YK ho rfl rfl rfl f1,by simp[f2],λv hv=>?_⟩
    rcases zp.mp hv with rfl|hv
    ·exact⟨_,_,rfl⟩
    ·exact f3 v hv
 obtain⟨fs,f1,f2,f3⟩:=gen vs xs hl hp
 refine JQ (T:=.type "str") f1 (by lia) (λv hv=>?_) (by decide) h
 obtain⟨n,t,rfl⟩:=f3 v hv
 exact YS rfl
theorem Bm(h1:ltX x y=true)(h2:ltX y z=true):ltX x z=true:=by
 unfold ltX at *
 simp only[decide_eq_true_eq]at *
 exact Yt h1 h2
theorem RR(hn:x≠y)(h:ltX x y=false):ltX y x=true:=by
 unfold ltX at *
 simp only[decide_eq_true_eq,decide_eq_false_iff_not]at *
 rcases Decidable.em (y.cps.toList<x.cps.toList)with q|q
 ·exact q
 ·exact(hn (nF (F9.mpr (List.not_lt.mp q)) (F9.mpr (List.not_lt.mp h)))).elim
theorem qf{vs:List zj}{xs:List Str}(hl:xs.length=vs.length)(h64:vs.length<64)(nd:xs.Nodup)(ho:s.heap.get? a=some (jh "list" vs.toArray n))(hp:∀(i:Nat) x,xs[i]? =some x->∃u,vs[i]? =some u/\EC s.heap u x)
 (h:∀(h':Heap) e (p:List Nat),p.Perm (jr vs.length)->p.Pairwise (λi j=>ltX (xs.getD i "") (xs.getD j "")=true)->(∀b o,b≠a->s.heap.get? b=some o->h'.get? b=some o)->h'.get? a=some (jh "list" (zR (p.map λi=>vs.getD i .none)) e)->P (.done (.ret .none)) {s with heap:=h'}):
 zC (zH prog w) A (yM.«list.sort» ⟨[.ref a], []⟩) P E s:=by
 have ha:a<s.heap.objs.size:=zu ho
 obtain⟨e1,ho1⟩:∃e1,(s.heap.update a (jg λ_=>(#[]:Array zj))).get? a=some (jh "list" #[] e1):=⟨_,yX ho λ_=> #[]⟩
 have k1:∀b o,b≠a->s.heap.get? b=some o->(s.heap.update a (jg λ_=>(#[]:Array zj))).get? b=some o:=λb o hb e=>by rw[jz _ _ _ _ hb];exact e
 rw[list_sort_plain]
 refine za (listItems_at ho rfl (za (xo ho rfl ?_ (by rw[zi,jH];lia) (zY _))))
 refine za (YA ho1 rfl (za (Jl ?_ (by show vs.length<=_;rw[jH];lia))))
 refine za (xm ?_ (zY _))
 refine ju ?_
 have ho2:(((s.heap.update a (jg λ_=>(#[]:Array zj))).push (jh "tuple" vs.toArray 0)).push (jh "list" #[] 0)).get? a=some (jh "list" #[] e1):=zd _ (zd _ ho1)
 have k2:∀b o,b≠a->s.heap.get? b=some o->(((s.heap.update a (jg λ_=>(#[]:Array zj))).push (jh "tuple" vs.toArray 0)).push (jh "list" #[] 0)).get? b=some o:=λb o hb e=>zd _ (zd _ (k1 b o hb e))
 show zC (zH prog w) A _ P E {s with heap:=((s.heap.update a (jg λ_=>(#[]:Array zj))).push (jh "tuple" vs.toArray 0)).push (jh "list" #[] 0)}
 generalize ((s.heap.update a (jg λ_=>(#[]:Array zj))).push (jh "tuple" vs.toArray 0)).push (jh "list" #[] 0)=hh at ho2 k2
 dsimp only
 have hp':∀(i:Nat) x,xs[i]? =some x->∃u,vs[i]? =some u/\EC hh u x:=λi x e=>by
  obtain⟨u,e1,b,t,v,rfl,hv,hb⟩:=hp i x e
  refine⟨_,e1,b,t,v,rfl,hv,k2 b _ (λz=>?_) hb⟩
  rw[z,ho]at hb
  simp[jh]at hb
 have fin:∀p:List Nat,p.Perm (jr vs.length)->p.Pairwise (λi j=>ltX (xs.getD i "") (xs.getD j "")=true)->∃e,(hh.update a (jg λ_=>zR (p.map λi=>vs.getD i .none))).get? a=some (jh "list" (zR (p.map λi=>vs.getD i .none)) e)/\P (.done (.ret .none)) {s with heap:=hh.update a (jg λ_=>zR (p.map λi=>vs.getD i .none))}:=λp q1 q2=>by
  obtain⟨e,he⟩:∃e,(hh.update a (jg λ_=>zR (p.map λi=>vs.getD i .none))).get? a=some (jh "list" (zR (p.map λi=>vs.getD i .none)) e):=⟨_,yX ho2 λ_=>_⟩
  exact⟨e,he,h _ e p q1 q2 (λb o hb q=>by rw[jz _ _ _ _ hb];exact k2 b o hb q) he⟩
 have tail:∀p:List Nat,p.Perm (jr vs.length)->(zR (p.map λi=>vs.getD i Value.none)).size<=zg+1:=λp q=>by rw[zi,zc,q.length_eq,jV,jH];lia
 by_cases h2:vs.toArray.size<2
 · rw[if_pos h2,if_pos h2]
   refine za (zq ?_)
   rw[StateT.run_pure]
   refine za (zq ?_)
   dsimp only
   have hv:(Yj (SortSt.mk' general' (vs.toArray.zip vs.toArray) #[] 7 none)).map (·.2)=zR ((jr vs.length).map λi=>vs.getD i Value.none):=by
    show (vs.toArray.zip vs.toArray).map (·.2)=_
    apply xJ.mp
    rw[Array.toList_map]
    apply xK
    ·simp
    · intro i hi hj
      simp at hi hj ⊢
      simp[hj]
   rw[hv]
   refine za (YA ho2 rfl (za (xo ho2 rfl ?_ (zY _) (tail _ (YN _)))))
   simp only[bne_self_eq_false,jw,if_false]
   refine zq ((fin _ (YN _) ?_).elim λ_ h=>h.2)
   have:vs.length<2:=by simpa using h2
   match hn:vs.length,this with
   |0,_=>simp
   |1,_=>simp[List.range_succ]
 · rw[if_neg h2,if_neg h2]
   have hn2:2<=vs.length:=by simpa using h2
   let lt:Nat->Nat->Bool:=λi j=>ltX (xs.getD i "") (xs.getD j "")
   have gq:∀i,i<vs.length->xs[i]? =some (xs.getD i ""):=λi hi=>by
    rw[zD,ze (by lia)];rfl
   have inj:∀i j,i<vs.length->j<vs.length->xs.getD i "" =xs.getD j ""->i=j:=λi j hi hj ee=>by
    have e1:=gq i hi
    rw[ee]at e1
    exact(xy (show i<xs.length by lia) nd).mp (e1.trans (gq j hj).symm)
   have O:l6 lt vs.length:=⟨λi j k h1 h2=>Bm h1 h2,λi j hi hj hij h=>RR (λee=>hij (inj i j hi hj ee)) h⟩
   refine za (Pj hl hn2 hp' ?_)
   have run:=tOk.wp (s:={s with heap:=hh}) (cmp:=xN prog w A (tuples' true) vs) (λi j C hi hj hC=>by
    obtain⟨u,u1,u2⟩:=hp' i _ (gq i hi)
    obtain⟨v,v1,v2⟩:=hp' j _ (gq j hj)
    unfold xN
    rw[zD,zD,u1,v1]
    refine MX u2 v2 (λee=>?_) hC
    cases inj i j hi hj ee
    cases u1.symm.trans v1
    rfl) _ (OQ O hn2)
   refine za (jE (PySem.W.kat_run (Q:=λst' s'=>∃p:Array Nat,p.size=vs.length/\Yj st'=p.map (JR (vs.toArray.zip vs.toArray))/\Xq st'=none/\s'= {s with heap:=hh}/\E1 p vs.length/\C4 lt p vs.length) rfl hn2 h64 (λp st' s' a1 a2 a3 a4=>⟨p,a1,a2,a3,a4⟩) run) ?_ λ_ _ x=>x)
   rintro⟨⟨⟩,st'⟩ s' ⟨p,hp,har,hf,rfl,P1,U⟩
   dsimp only
   rw[JP rfl har]
   refine za (YA ho2 rfl (za (xo ho2 rfl ?_ (zY _) (tail _ P1.pm))))
   rw[hf]
   simp only[bne_self_eq_false,jw,if_false]
   refine zq ((fin _ P1.pm ?_).elim λ_ h=>h.2)
   rw[Zi]
   intro i j hi hj hij
   have hi':i<p.size:=by simpa using hi
   have hj':j<p.size:=by simpa using hj
   have:=U i j hij (by lia)
   simpa [Zv,hi',hj',lt]using this
theorem Sk{K:Type}[DecidableEq K]{knd:KeyKind prog w K}{kvs:List (K×zj)}{xs:List Str}(hh:A.handled=none)(hv:s.heap.IsItemsView r d)(hm:s.heap.DictAt knd d kvs ep)(hl:xs.length=kvs.length)(h64:kvs.length<64)(nd:xs.Nodup)
 (hk:∀(j:Nat) k x key,kvs[j]? =some (k,x)->knd.is k key=true->(x==x)=true/\∃t,key= .str (xs.getD j "") t)
 (h:∀(h1 h':Heap) tk e (as:List Addr) (p:List Nat),(∀b o,s.heap.get? b=some o->h1.get? b=some o)->as.length=kvs.length->as.Nodup->(∀a∈as,s.heap.objs.size<a/\a<h1.objs.size)->
   (∀(j:Nat) a,as[j]? =some a->∃k x t,kvs[j]? =some (k,x)/\h1.get? a=some {cls:=.type "tuple",data:=.seq #[.str (xs.getD j "") t,x]})->
   p.Perm (jr kvs.length)->p.Pairwise (λi j=>ltX (xs.getD i "") (xs.getD j "")=true)->(∀b o,h1.get? b=some o->h'.get? b=some o)->
   h'.get? h1.objs.size=some (jh "list" (zR (p.map λi=>(as.map Value.ref).getD i .none)) e)->Q (.ref h1.objs.size) {s with heap:=h',toks:=tk}):
 zC (zH prog w) A (call (.builtin "sorted") [.ref r]) Q E s:=by
 have hz:kvs.length<=zg:=by rw[jH];lia
 refine Ze Jb Xp Xr (args_sorted1 _) ?_
 unfold yM.«sorted»
 refine za (zq ?_)
 refine za (PySem.W.kdx_collect (A:=A.in1) hh hv hm hz λh1 tk as k1 la g=>?_)
 have hla:(as.map Value.ref).length=kvs.length:=by rw[zc,la]
 have tp:∀(j:Nat) a,as[j]? =some a->∃k x t,kvs[j]? =some (k,x)/\(x==x)=true/\h1.get? a=some {cls:=.type "tuple",data:=.seq #[.str (xs.getD j "") t,x]}:=λj a e=>by
  obtain⟨key,k,x,e1,e2,e3⟩:=g.pairs j a e
  obtain⟨hx,t,rfl⟩:=hk j k x key e1 e2
  exact⟨k,x,t,e1,hx,e3⟩
 refine za (xm ?_ (by rw[hla];exact hz))
 have hoL:(h1.push (jh "list" (as.map Value.ref).toArray 0)).get? h1.objs.size=some (jh "list" (as.map Value.ref).toArray 0):=zw _ rfl
 refine za (ju (ye Yz ⟨_,hoL,rfl⟩ Yi (qf (xs:=xs) (by rw[hla,hl]) (by rw[hla];exact h64) nd hoL (λi x e=>?_) λh' e p q1 q2 q3 q4=>⟨_,rfl,?_⟩) (Js _)))
 · have li:i<as.length:=by rw[la,<-hl];exact(zy.mp e).1
   obtain⟨k,y,t,_,hy,e3⟩:=tp i as[i] (by simp[li])
   refine⟨.ref as[i],by simp[li],as[i],t,y,rfl,hy,zd _ ?_⟩
   rw[zD,e]at e3
   exact e3
 · refine zq ⟨_,rfl,h h1 h' tk e as p k1 la (g.rise.imp zF) (λa ha=>⟨g.above a ha,g.there ha⟩) (λj a e=>?_) (by rw[hla]at q1;exact q1) q2 (λb o hb=>q3 b o (zF (zu hb)) (zd _ hb)) q4⟩
   obtain⟨k,x,t,e1,_,e3⟩:=tp j a e
   exact⟨k,x,t,e1,e3⟩
end
section
theorem eD1(I:Inv X pins σ H s)(hf:D0 X pins H a)(new:R0 X.prog X.w (upd H a o) s.heap a o):Inv X pins σ (upd H a o) s:=by
 have hq:H a=none:=hf.1
 refine I.step (ch:= [a]) (λb hb=>?_) (λb o _ _ _ e _=>e) (λb o _ _ _ e _=>⟨o.slots,e⟩) (λb o hc e n=>by rw[v7 (λz=>hc (by simp[z]))];exact n) (λb o hc e=>⟨o,e⟩)
  (λb xs e=>by rw[v7 (v6 e hq)];exact e) (λb o u e=>by rw[v7 (v6 e hq)];exact e) (λb ps e=>⟨#[],by rw[v7 (v6 e hq),e];simp⟩) (λm hm=>hm) (λb u e=>?_) I.bare
 · cases zk.mp hb
   exact⟨hf.2.2.2.1,hf.2.1,hf.2.2.2.2.1,hf.2.2.2.2.2⟩
 · by_cases hb:b=a
   · subst hb
     rw[N8]at e
     cases e
     exact new
   · rw[v7 hb]at e
     exact(I.hok b u e).stay (λc v hc q=>q) (λc q=>by rw[v7 (v6 q hq)];exact q) λc xs q=>by rw[v7 (v6 q hq)];exact q
theorem VM:∀(qs:List (Addr×List V)) (H:Hp),Inv X pins σ H s->(∀q∈qs,D0 X pins H q.1/\q.2.length<=zg/\∃its,J1 q.2 its/\E3 s.heap q.1 its.toArray)->(qs.map (·.1)).Nodup->J0 c μ G H->
 ∃H',Inv X pins σ H' s/\Ext μ H μ H'/\J0 c μ G H'/\(∀q∈qs,H' q.1=some (.tup q.2))/\∀b,b∉qs.map (·.1)->H' b=H b
 |[],H,I,_,_,hr=>⟨H,I,Ext.refl _ _,hr,λq hq=>(zS hq).elim,λ_ _=>rfl⟩
 |q::r,H,I,hq,nd,hr=>by
   obtain⟨f,z,its,v,t⟩:=hq q (.head _)
   have n0:H q.1=none:=f.1
   obtain⟨nq,nr⟩:=xj.mp nd
   have k:Ext μ H μ (upd H q.1 (.tup q.2)):=Ext.lay n0 _
   obtain⟨H',i1,i2,i3,i4,i5⟩:=VM r (upd H q.1 (.tup q.2)) (eD1 I f ⟨z,its,v,t⟩) (λp hp=>by
    obtain⟨f',w'⟩:=hq p (.tail _ hp)
    refine⟨⟨?_,f'.2⟩,w'⟩
    rw[v7 (show p.1≠q.1 from λe=>nq (zG.mpr ⟨p,hp,e⟩))]
    exact f'.1) nr (hr.same k λa o e n=>by rw[v7 (v6 e n0)];exact e)
   refine⟨H',i1,k.trans i2,i3,λp hp=>?_,λb hb=>?_⟩
   · rcases zp.mp hp with rfl|hp
     ·rw[i5 _ nq,N8]
     ·exact i4 p hp
   · have hb:=(show b∉q.1::r.map (·.1)from hb)
     rw[i5 b (λz=>hb (.tail _ z)),v7 (show b≠q.1 from λz=>hb (by rw[z];exact .head _))]
end
def E9:List (Key×D)->Option (List (Str×D))
 |[]=>some []
 |(.inr x,d)::r=>(E9 r).map ((x,d) :: ·)
 |_=>none
def leP(p q:Str×D):Bool:=leS p.1 q.1
def vB(ps:List (Str×D)):List D:=(ps.mergeSort leP).map λp=>.tup [.str p.1,p.2]
def vA(x:D):M D:=match x with
 | .ref i=>do
   match <-O4 i with
   | .dct l=>do
     let ps <-K0 (E9 l)
     if ps.length<64 then N7 (.lst (vB ps))else M.stuck
   |_=>M.stuck
 |_=>M.stuck
def nO(fa:Fe):Fe:=λσ=>fa σ >>= vA
section
theorem HK:∀ {l ps kvs} {vs:List (Key×zj)},E9 l=some ps->z0 c μ H l kvs->KV kvs vs->ps.length=vs.length/\∃ws:List V,ws.length=ps.length/\∀(j:Nat) x d,ps[j]? =some (x,d)->∃v u,ws[j]? =some v/\vs[j]? =some (.inr x,u)/\f9 c μ H d v/\K4 v u
 |[],_,_,vs,e,r,kv=>by
   cases e;cases r;cases kv
   exact⟨rfl, [],rfl,λj x d z=>by simp at z⟩
 |(.inr x,d)::t,ps,kvs,vs,e,r,kv=>by
  replace e:=show (E9 t).map (_ :: ·)=some _ from e
  rcases h:E9 t with _|q
  ·rw[h]at e;cases e
  · rw[h]at e
    cases e
    obtain⟨v0,tl,rfl,r0,rt⟩:=r
    cases kv with
    |@cons _ y _ _ hk ht=>
      obtain⟨i1,ws,i2,i3⟩:=HK h rt ht
      refine⟨by simp[i1],v0::ws,by simp[i2],λj x' d' z=>?_⟩
      rcases j with _|j
      · cases z
        obtain⟨y1,y2⟩:=y
        exact⟨v0,y2,rfl,by rw[<-show (Sum.inr x:Key)=y1 from hk.1];rfl,r0,hk.2⟩
      ·exact i3 j x' d' (by simpa using z)
 |(.inl _,_)::_,_,_,_,e,_,_=>by cases e
theorem Fp(r:f9 c μ H d v)(h:K4 v u):(u==u)=true:=by
 rcases d with _|_|_|_|_|_|_|_<;>unfold f9 at r<;>first
  |(cases r;first|(cases h;simp)|(obtain⟨t,rfl⟩:=h;simp))
  |(obtain⟨a,_,rfl⟩:=r;cases h;simp)
  |(obtain⟨a,_,rfl,_⟩:=r;cases h;simp)
theorem LX{ps:List (Str×D)}{p:List Nat}(nd:(ps.map (·.1)).Nodup)(hp:p.Perm (jr ps.length))(hs:p.Pairwise (λi j=>ltX ((ps.map (·.1)).getD i "") ((ps.map (·.1)).getD j "")=true)):vB ps=p.map λi=>.tup [.str (ps.getD i ("",.non)).1,(ps.getD i ("",.non)).2]:=by
 have e1:(p.map λi=>ps.getD i ("",D.non)).Perm ps:=by
  refine(hp.map _).trans (.of_eq ?_)
  apply xK
  ·simp
  · intro i hi hj
    simp at hi hj ⊢
    simp[hj]
 have e2:(p.map λi=>ps.getD i ("",D.non)).Pairwise (λa b=>leP a b=true):=by
  rw[yf]
  refine hs.imp λ{i j} h=>?_
  have g:∀i:Nat,(ps.map (·.1)).getD i ("" :Str)= (ps.getD i ("",D.non)).1:=λi=>by
   simp only[zD,zB]
   cases ps[i]? <;> rfl
  rw[g,g]at h
  unfold leP
  rw[F9]
  simp only[ltX,decide_eq_true_eq]at h
  exact List.le_of_lt h
 have e3:ps.mergeSort leP=p.map λi=>ps.getD i ("",D.non):=by
  refine Za (le:=λa b=>leP a b=true) (λa b ha hb h1 h2=>?_) (yH (λa b c=>sE a.1 b.1 c.1) (λa b=>mH a.1 b.1) ps) e2 ((jC ps leP).trans e1.symm)
  have ha:=(jC ps leP).mem_iff.mp ha
  have hb:=e1.mem_iff.mp hb
  have e:a.1=b.1:=nF h1 h2
  obtain⟨i,hi⟩:=zN.mp ha
  obtain⟨j,hj⟩:=zN.mp hb
  have li:=(zy.mp hi).1
  have:i=j:=(xy (by simpa using li) nd).mp (by rw[zB,zB,hi,hj];simp[e])
  subst this
  exact jl (hi.symm.trans hj)
 unfold vB
 rw[e3,xa]
 rfl
theorem rL{as:List Addr}{ps:List (Str×D)}{ws:List V}(la:as.length=ps.length)(lw:ws.length=ps.length)(hq:∀(j:Nat) a,as[j]? =some a->∀x d v,ps[j]? =some (x,d)->ws[j]? =some v->SqT c.K H a [.str x,v]/\f9 c μ H d v):∀p:List Nat,(∀i∈p,i<ps.length)->
 ∃ws',J1 ws' (p.map λi=>(as.map Value.ref).getD i Value.none)/\u9 c μ H (p.map λi=>.tup [.str (ps.getD i ("",.non)).1,(ps.getD i ("",.non)).2]) ws'/\ws'.length=p.length
 |[],_=>⟨[],.nil,rfl,rfl⟩
 |i::r,hi=>by
   obtain⟨ws',a1,a2,a3⟩:=rL la lw hq r λj hj=>hi j (zn _ hj)
   have li:=hi i (by simp)
   obtain⟨q,rd⟩:=hq i (as[i]'(by lia)) (by simp) (ps[i]).1 (ps[i]).2 (ws[i]'(by lia)) (by simp[li]) (by simp)
   have e1:(as.map Value.ref).getD i Value.none= .ref (as[i]'(by lia)):=by
    rw[zD,ze (by simp;lia)];simp
   have e2:ps.getD i ("",.non)=ps[i]:=by
    rw[zD,ze li];rfl
   refine⟨.ref (as[i]'(by lia))::ws',?_,⟨_,ws',rfl,?_,a2⟩,by simp[a3]⟩
   · rw[zL,e1]
     exact .cons rfl a1
   · show f9 c μ H (.tup [.str (ps.getD i ("",.non)).1,(ps.getD i ("",.non)).2]) _
     rw[e2]
     unfold f9
     exact⟨_,_,rfl,q,_,_,rfl,by unfold f9;rfl,_,_,rfl,rd,rfl⟩
theorem Gv{K:D->List Addr->DH->Hp->Prop}{x:D}{v:V}(hr:J0 c μ G H)(rv:f9 c μ H x v)(p:d9 c Z μ H (vA x G) K):∃a l kvs ps,v= .ref a/\H a=some (.dK kvs)/\z0 c μ H l kvs/\E9 l=some ps/\ps.length<64/\d9 c Z μ H (N7 (.lst (vB ps)) G) K:=by
 rcases x with _|_|_|_|_|i|_|_<;>try exact p.elim
 delta vA at p
 dsimp only at p
 obtain⟨o,g,p1⟩:=M7 p
 unfold f9 at rv
 obtain⟨a,m,rfl⟩:=rv
 have ro:=hr.obj i o a g m
 rcases o with l|l|l|l<;>try exact p1.elim
 obtain⟨kvs,q,rk⟩:=ro
 obtain⟨ps,es,p2⟩:=V2 p1
 split at p2
 case isFalse=>exact p2.elim
 rename_i h64
 exact⟨a,l,kvs,ps,rfl,q,rk,es,h64,p2⟩
end
section
variable{X:Cx}{Z:XC}{ea:Expr}{fa:Fe}{p q1 ap pos:Pos}
theorem Px(hc:X.calm=true)(hbl:BLs X.mg)(hg1:Gl X "sorted")(ha:DE X Z ea fa)(hbase:yY ea "items" X.env (eval ea X.env)=eval ea X.env)(hline:(ap.endLine==q1.line)=true):DE X Z (.Call (.Name "sorted" p) [.Call (.Attribute ea "items" ap) [] [] q1] [] pos) (nO fa):=⟨by
 intro pins s σ H Q I h
 refine yx (B6 I hg1 (hbl.h _ (by decide +kernel)) gJ ?_ (by decide) (by decide))
 refine h.elim λZ6 μ G sr hr pp=>?_
 refine callWith_builtin1 (xZ ?_) rfl rfl
 have pa:=d9.bind pp
 refine wpAny_Call_method (T:= "dict") (id:= "dict.items") hbase rfl hline F.plainAttrs_dict F.slot_dict_items F.type_dict_items (thn (ha.h pins s σ H (λv H1=>∃x X1 G1,J0 (wc X) X1 G1 H1/\f9 (wc X) X1 H1 x v/\d9 (wc X) Z X1 H1 (vA x G1) λd X9 _ H'=>∀v,f9 (wc X) X9 H' d v->Q v H') I ⟨Z6,μ,G,sr,hr,pa.mono λd X1 G1 H1 x1 h1 p1 v rv=>⟨d,X1,G1,h1,rv,p1⟩⟩) λu s1 hE=>hE.elim λv H1 I1 r1 q=>?_)
 obtain⟨x,X1,G1,hr1,rv1,pp1⟩:=q
 obtain⟨a,l,kvs,ps,rfl,ea1,rk,ek,h64,pp2⟩:=Gv hr1 rv1 pp1
 cases r1
 obtain⟨z,hd,vs,rel,dd⟩:=CB I1.hok ea1
 obtain⟨lp,ws,lw,row⟩:=HK ek rk rel
 obtain⟨ep,dat⟩:=dd.dictAt
 have nd:(ps.map (·.1)).Nodup:=by
  obtain⟨_,_,_,_,_,_,_,n⟩:=id dat
  have e:vs.map (·.1)= (ps.map (·.1)).map (Sum.inr:Str->Key):=by
   apply Zm
   intro j
   rw[xa,zB,zB]
   rcases ZE j ps.length with q|q
   · obtain⟨v,u,_,e2,_⟩:=row j (ps[j]).1 (ps[j]).2 (by simp[q])
     rw[e2]
     simp[q]
   ·rw[zO q,zO (by lia)];rfl
  rw[e]at n
  exact List.Pairwise.of_map _ (λa b h e=>h (by rw[e])) n
 refine⟨dd.typeIs,dd.mapOf.noDict,?_⟩
 show zC _ _ (callWith q1 (.builtin "dict.items") [.ref a] [] []) _ _ s1
 refine method_meetsIn F.slot_dict_items F.entry_dict_items rfl (JA ⟨rfl,dd.typeIs,F.args_dict_items_1 _,_,meets_dict_items _ a hd,⟨_,dd⟩,?_⟩)
 have I2:Inv X pins σ H1 {s1 with heap:=s1.heap.push {cls:=.type "dict_items",data:=.fields #[.ref a]}}:=I1.kept (t':=s1.toks) λb o e=>zd _ e
 refine Zh ?_
 refine Sk (xs:=ps.map (·.1)) (I2.ok.hd hc) ⟨_,zw _ rfl,rfl,rfl⟩ (dat.push _) (by simp[lp]) (by lia) nd (λj k x key e1 e2=>?_) λh1 h' tk e as pm k1 la na lo tp pp ps2 k2 he=>?_
 · have lj:j<ps.length:=by rw[lp];exact(zy.mp e1).1
   obtain⟨v,u,w1,w2,w3,w4⟩:=row j (ps[j]).1 (ps[j]).2 (by simp[lj])
   cases e1.symm.trans w2
   refine⟨Fp w3 w4,?_⟩
   have e3:n9 (.inr (ps[j]).1) key=true:=e2
   rcases O3 e3 with⟨_,_,z,_⟩|⟨x',t',z,eu⟩
   ·cases z
   · cases z
     refine⟨t',?_⟩
     rw[eu,zD,zB,ze lj]
     rfl
 have I6:Inv X pins σ H1 {s1 with heap:=h1,toks:=tk}:=I2.kept k1
 have gx:∀(j:Nat) x d,ps[j]? =some (x,d)->(ps.map (·.1)).getD j ("" :Str)=x:=λj x d e=>by rw[zD,zB,e];rfl
 have qm:∀(j:Nat) b x d v,as[j]? =some b->ps[j]? =some (x,d)->ws[j]? =some v->(b, [V.str x,v])∈as.zip ((ps.zip ws).map λq=> [V.str q.1.1,q.2]):=λj b x d v e1 e2 e3=>zN.mpr ⟨j,by
  rw[jJ]
  refine⟨e1,?_⟩
  rw[zB,(jJ (z:=((x,d),v))).mpr ⟨e2,e3⟩]
  rfl⟩
 have las:as.length=ps.length:=by rw[la,lp]
 have mf:(as.zip ((ps.zip ws).map λq=> [V.str q.1.1,q.2])).map (·.1)=as:=List.map_fst_zip (by simp;lia)
 obtain⟨H',I7,x7,hr7,t7,o7⟩:=VM (as.zip ((ps.zip ws).map λq=> [V.str q.1.1,q.2])) H1 I6 (λq hq=>by
  obtain⟨j,hj⟩:=zN.mp hq
  obtain⟨j1,j2⟩:=jJ.mp hj
  have hl:=(lo q.1 (js j1)).1
  have lj:j<ps.length:=by rw[<-las];exact(zy.mp j1).1
  obtain⟨v,u,w1,w2,w3,w4⟩:=row j (ps[j]).1 (ps[j]).2 (by simp[lj])
  rw[zB,(jJ (z:=(ps[j],v))).mpr ⟨by simp[lj],w1⟩]at j2
  obtain⟨k,y,t,y1,y2⟩:=tp j q.1 j1
  cases y1.symm.trans w2
  rw[gx j (ps[j]).1 (ps[j]).2 (by simp[lj])]at y2
  rw[<-jl j2]
  exact⟨I2.fpOk (ym hl) (I2.hok.fresh (ym hl)),by rw[jH];simp, [.str (ps[j]).1 t,u],.cons ⟨t,rfl⟩ (.cons w4 .nil),_,y2,rfl,_,rfl⟩) (by rw[mf];exact na) hr1
 rw[mf]at o7
 have f7:H' h1.objs.size=none:=by
  rw[o7 _ λz=>yc _ (lo _ z).2]
  exact I6.hok.fresh (zo _)
 have pl:pm.Perm (jr ps.length):=by rw[lp];exact pp
 obtain⟨ws',v1,v2,v3⟩:=rL (c:=wc X) (μ:=X1) (H:=H') las lw (λj b e1 x d v e2 e3=>by
  obtain⟨v',u,w1,w2,w3,w4⟩:=row j x d e2
  cases w1.symm.trans e3
  exact⟨SqT.of (t7 _ (qm j b x d v e1 e2 e3)),w3.mono x7⟩) pm λi hi=>by simpa using pl.mem_iff.mp hi
 rw[<-LX nd pl ps2]at v2
 exact⟨.ref h1.objs.size,upd H' h1.objs.size (.lst ws'),I7.laid (t':=tk) k2 (zo _) ⟨by rw[v3,pl.length_eq,jV,jH];lia,_,e,v1,he⟩,rfl,V3 hr7 v2 (d9.from pp2 x7) _ f7⟩⟩
end
end DL
namespace W
open PySem PySem.Spec L2 DL
open PyProof.Rows hiding St
def mI:Fs:=j6 (v8 (c7 K1 (c7 O6 (c7 K1 (b8 0) (cE (.int 2147483647))) (c7 N1 (cE (.int 40692)) (c7 O6 (b8 1) (cE (.int 1))))) (cE (.int 2147483647))) (y0 2)) (j6 (v8 (c7 K1 (c7 O6 (c7 O6 (c7 N1 (b8 2) (b8 2)) (c7 N1 (cE (.int 48271)) (b8 2))) (b8 1)) (cE (.int 2147483647))) (y0 2)) (j6 (v8 (c7 K1 (c7 N1 (b8 2) (b8 2)) (cE (.int 2147483629))) (y0 2)) (t6 (c7 M4 (c7 K1 (c7 N1 (b8 2) (cE (.int 69621))) (cE (.int 2147483629))) (cE (.int 8))))))
def IC:List D->M D:=J3 3 mI
def PB:Fs:=(j6 (v8 (c7 K1 (b8 7) (x0 V9 (d0 (b8 4) g0))) (y0 8)) (ifS (m6 (c7 gtD (c7 ixD (b8 5) (b8 8)) (cE (.int 0)))) (j6 (C7 (mtE Z3 l8 (b8 6) (d0 (c7 K1 (c7 ixD (b8 5) (b8 8)) (cE (.int 1000003))) g0))) (v8 (c7 M4 (c7 ixD (b8 5) (b8 8)) (cE (.int 1000003))) (F1 (b8 5) (b8 8)))) (C7 (mtE Z3 l8 (b8 6) (d0 (x0 (fnX 2 IC) (d0 (c7 ixD (b8 4) (b8 8)) (d0 (c7 M4 (b8 7) (x0 V9 (d0 (b8 4) g0))) g0))) g0)))))
def PR:Fe:=(N6 (itW (b8 4)) [none] (y0 0) (O7) (c7 N1 (x0 C3 (d0 (b8 0) g0)) (x0 l9 (d0 (c7 geD (x0 C3 (d0 (b8 0) g0)) (c7 F6 (cE (.int 10)) (cE (.int 18)))) g0))))
def PT:Fs:=(j6 (v8 PR (y0 5)) (j6 (v8 (T7 g0) (y0 6)) (j6 (S1 (T4 (d0 (b8 3) g0)) (y0 7) PB) (t6 (unE mC (b8 6))))))
def eI:Fs:=j6 (v8 (kD (b8 0) (S8 (b8 1)) (S8 (cE (.int 126))) (S8 (b8 2))) (y0 4)) (j6 (ifS (m6 (c7 eqD (b8 4) (T7 g0))) (v8 (T7 (d0 (b8 1) g0)) (y0 4)) m9) PT)
def S7:List D->M D:=J3 9 eI
def UP:Fs:=t6 (J9 (d0 (J9 g0) (d0 (J9 (d0 (cE (.str ("of" :Str))) (d0 (J9 g0) g0))) (d0 (J9 g0) (d0 (cE .non) (d0 (cE .non) g0))))))
def J5:List D->M D:=J3 0 UP
def fJ:Fs:=j6 (ifS (m6 (c7 eqD (b8 0) (T7 g0))) (t6 (cE (.int 0))) m9) (t6 (mtE Z3 dD (b8 0) g0))
def u6:List D->M D:=J3 1 fJ
def qK:Fs:=j6 (v8 (x0 (fnX 1 u6) (d0 (b8 0) g0)) (y0 1)) (j6 (ifS (m6 (c7 eqD (c7 K1 (b8 1) (cE (.int 8))) (cE (.int 7)))) (t6 (c7 K1 (c7 M4 (b8 1) (cE (.int 8))) (cE (.int 7)))) m9) (t6 (c7 K1 (c7 M4 (b8 1) (cE (.int 8))) (cE (.int 4)))))
def T9:List D->M D:=J3 2 qK
def tJ:Fs:=j6 (v8 (x0 (fnX 1 u6) (d0 (b8 0) g0)) (y0 1)) (j6 (ifS (m6 (c7 eqD (c7 K1 (b8 1) (cE (.int 9))) (cE (.int 8)))) (t6 (mtE QA LC (cE (.str ("" :Str))) (d0 (N6 (T4 (d0 (c7 K1 (c7 M4 (b8 1) (cE (.int 9))) (cE (.int 21))) g0)) [none,some 0] (y0 0) (O7) (c7 ixD (cE (.str ("abcdefghijklmnopqrstuvwxyz" :Str))) (c7 K1 (x0 (fnX 1 u6) (d0 (b8 1) g0)) (cE (.int 26))))) g0))) m9) (t6 (c7 ixD (T7 (d0 (cE (.str ("" :Str))) (d0 (cE (.str ("a" :Str))) (d0 (cE (.str ("b" :Str))) (d0 (cE (.str ("aa" :Str))) (d0 (cE (.str ("ab" :Str))) (d0 (cE (.str ("ca" :Str))) g0))))))) (c7 K1 (c7 M4 (b8 1) (cE (.int 9))) (cE (.int 6))))))
def vD:List D->M D:=J3 2 tJ
def kK:Fs:=t6 (J9 (d0 (x0 V9 (d0 (b8 0) g0)) (d0 (b8 0) g0)))
def O9:List D->M D:=J3 1 kK
def WB:Fs:=(j6 (v8 (x0 (fnX 1 vD) (d0 (b8 0) g0)) (y0 3)) (ifS (m6 (c7 nC (b8 3) (b8 1))) (C7 (mtE Z3 l8 (b8 1) (d0 (b8 3) g0))) m9))
def EF:Fs:=j6 (v8 (T7 g0) (y0 1)) (j6 (S1 (T4 (d0 (x0 (fnX 1 T9) (d0 (b8 0) g0)) g0)) (y0 2) WB) (t6 (x0 T8 (d0 (mB O9 (b8 1)) g0))))
def wB:List D->M D:=J3 4 EF
def HF:Fs:=t6 (x0 e9 (d0 (N6 (itW (x0 (fnX 1 wB) (d0 (b8 0) g0))) [none] (y0 0) (m6 (d6 ltD ltD (cE (.int 0)) (x0 V9 (d0 (b8 0) g0)) (cE (.int 9)))) (b8 0)) g0))
def dC:List D->M D:=J3 1 HF
def PH:Fs:=j6 (v8 (x0 (fnX 1 u6) (d0 (b8 0) g0)) (y0 1)) (j6 (ifS (m6 (c7 eqD (c7 K1 (b8 1) (cE (.int 9))) (cE (.int 8)))) (t6 (c7 K1 (c7 O6 (c7 N1 (c7 M4 (b8 1) (cE (.int 9))) (cE (.int 1000003))) (x0 (fnX 1 u6) (d0 (b8 0) g0))) (c7 N1 (cE (.int 6)) (c7 F6 (cE (.int 10)) (cE (.int 10)))))) m9) (t6 (c7 K1 (c7 M4 (b8 1) (cE (.int 9))) (cE (.int 5)))))
def V4:List D->M D:=J3 2 PH
def SB:Fs:=(j6 (v8 (c7 O6 (c7 O6 (b8 2) (cE (.int 2))) (x0 (fnX 1 V4) (d0 (b8 0) g0))) (y0 4)) (j6 (v8 (c7 O6 (b8 4) (x0 (fnX 1 V4) (d0 (b8 0) g0))) (y0 2)) (C7 (mtE Z3 l8 (b8 1) (d0 (J9 (d0 (b8 4) (d0 (b8 2) g0))) g0)))))
def SC1:Fs:=(ifS (S0 (m6 (c7 neD (b8 1) (T7 g0))) (m6 (c7 eqD (c7 K1 (b8 5) (cE (.int 4))) (cE (.int 1))))) (v8 (J9 (d0 (cE .non) (d0 (c7 ixD (c7 ixD (b8 1) (cE (.int 0))) (cE (.int 1))) g0))) (F1 (b8 1) (cE (.int 0)))) m9)
def SC2:Fs:=(ifS (S0 (m6 (c7 neD (b8 1) (T7 g0))) (m6 (c7 eqD (c7 K1 (c7 M4 (b8 5) (cE (.int 4))) (cE (.int 4))) (cE (.int 1))))) (v8 (J9 (d0 (c7 ixD (c7 ixD (b8 1) (unE A6 (cE (.int 1)))) (cE (.int 0))) (d0 (cE .non) g0))) (F1 (b8 1) (unE A6 (cE (.int 1))))) m9)
def KG:Fs:=j6 (v8 (T7 g0) (y0 1)) (j6 (v8 (c7 Q1 (unE A6 (x0 (fnX 1 V4) (d0 (b8 0) g0))) (cE (.int 2))) (y0 2)) (j6 (S1 (T4 (d0 (x0 (fnX 1 T9) (d0 (b8 0) g0)) g0)) (y0 3) SB) (j6 (v8 (x0 (fnX 1 u6) (d0 (b8 0) g0)) (y0 5)) (j6 SC1 (j6 SC2 (t6 (x0 T8 (d0 (b8 1) g0))))))))
def U6:List D->M D:=J3 6 KG
def iQ:Fs:=t6 (J9 (d0 (J9 (d0 (J9 (d0 (cE .non) (d0 (cE .non) g0))) g0)) (d0 (J9 (d0 (cE (.str ("but" :Str))) (d0 (J9 g0) g0))) (d0 (J9 (d0 (cE (.bl false)) (d0 (cE (.bl true)) g0))) (d0 (J9 (d0 (J9 g0) (d0 (cE (.str ("any" :Str))) g0))) (d0 (J9 (d0 (J9 g0) (d0 (cE (.str ("any" :Str))) g0))) g0))))))
def GB:List D->M D:=J3 0 iQ
def kG(R:List D->M D):Fs:=j6 (ifS (m6 (c7 gtD (c7 K1 (b8 1) (cE (.int 8))) (cE (.int 3)))) (t6 (x0 (fnX 2 R) (d0 (b8 0) (d0 (b8 2) g0)))) m9) (t6 (x0 (fnX 0 J5) g0))
def V7(R:List D->M D):List D->M D:=J3 3 (kG R)
def TF(R:List D->M D):Fs:=j6 (v8 (x0 (fnX 1 u6) (d0 (b8 0) g0)) (y0 2)) (j6 (ifS (orT (m6 (c7 eqD (b8 1) (cE (.int 0)))) (m6 (c7 eqD (c7 K1 (b8 2) (cE (.int 8))) (cE (.int 0))))) (t6 (c7 ixD (T7 (d0 (cE .non) (d0 (J9 (d0 (J9 g0) (d0 (cE (.str ("any" :Str))) g0))) g0))) (c7 K1 (c7 M4 (b8 2) (cE (.int 8))) (cE (.int 2))))) m9) (j6 (v8 (x0 (fnX 3 (V7 R)) (d0 (b8 0) (d0 (b8 2) (d0 (c7 Q1 (b8 1) (cE (.int 1))) g0)))) (y0 3)) (j6 (v8 (N6 (T4 (d0 (x0 (fnX 1 T9) (d0 (b8 0) g0)) g0)) [none,some 1,some 0] (y0 0) (O7) (x0 (fnX 2 R) (d0 (b8 2) (d0 (c7 Q1 (b8 1) (cE (.int 1))) g0)))) (y0 4)) (t6 (J9 (d0 (x0 T8 (d0 (N6 (itW (b8 4)) [none] (y0 0) (m6 (c7 neD (b8 0) (x0 (fnX 0 J5) g0))) (b8 0)) g0)) (d0 (b8 3) g0)))))))
def uB(R:List D->M D):List D->M D:=J3 5 (TF R)
def RB(R:List D->M D):Fs:=(j6 (v8 (x0 (fnX 2 R) (d0 (b8 0) (d0 (c7 Q1 (b8 1) (cE (.int 1))) g0))) (y0 6)) (j6 (v8 (B2 (c7 eqD (c7 K1 (x0 (fnX 1 u6) (d0 (b8 0) g0)) (cE (.int 2))) (cE (.int 0))) (c7 neD (b8 6) (x0 (fnX 0 J5) g0))) (y0 7)) (ifS (orT (J8 (b8 7)) (m6 (c7 neD (b8 6) (b8 3)))) (C7 (mtE Z3 l8 (b8 4) (d0 (J9 (d0 (b8 5) (d0 (b8 7) (d0 (b8 6) g0)))) g0))) m9)))
def RG(R:List D->M D):Fs:=j6 (v8 (x0 (fnX 1 u6) (d0 (b8 0) g0)) (y0 2)) (j6 (ifS (orT (m6 (c7 eqD (b8 1) (cE (.int 0)))) (m6 (c7 eqD (c7 K1 (b8 2) (cE (.int 8))) (cE (.int 0))))) (t6 (c7 ixD (T7 (d0 (cE .non) (d0 (J9 (d0 (J9 g0) (d0 (cE (.str ("any" :Str))) g0))) g0))) (c7 K1 (c7 M4 (b8 2) (cE (.int 8))) (cE (.int 2))))) m9) (j6 (v8 (x0 (fnX 3 (V7 R)) (d0 (b8 0) (d0 (b8 2) (d0 (c7 Q1 (b8 1) (cE (.int 1))) g0)))) (y0 3)) (j6 (v8 (T7 g0) (y0 4)) (j6 (S1 (itW (x0 (fnX 1 dC) (d0 (b8 0) g0))) (y0 5) (RB R)) (t6 (J9 (d0 (x0 T8 (d0 (b8 4) g0)) (d0 (b8 3) g0))))))))
def U7(R:List D->M D):List D->M D:=J3 8 (RG R)
def I5:Fs:=(j6 (ifS (m6 (c7 eqD (x0 T8 (d0 (b8 3) g0)) (x0 (fnX 0 GB) g0))) (t6 (cE (.str ("any" :Str)))) m9) (t6 (x0 T8 (d0 (b8 3) g0))))
def qD(R:List D->M D):Fs:=j6 (v8 (x0 (fnX 1 u6) (d0 (b8 0) g0)) (y0 2)) (j6 (ifS (m6 (c7 ltD (c7 K1 (b8 2) (cE (.int 8))) (cE (.int 2)))) (t6 (c7 ixD (T7 (d0 (cE (.str ("any" :Str))) (d0 (x0 (fnX 0 J5) g0) g0))) (c7 K1 (b8 2) (cE (.int 8))))) m9) (j6 (v8 (x0 qA (d0 (c7 ixD (T7 (d0 (x0 (fnX 0 J5) g0) (d0 (x0 (fnX 0 GB) g0) g0))) (x0 l9 (d0 (c7 eqD (c7 K1 (b8 2) (cE (.int 8))) (cE (.int 2))) g0))) g0)) (y0 3)) (j6 (v8 (c7 K1 (c7 M4 (b8 2) (cE (.int 8))) (cE (.int 5))) (y0 4)) (j6 (v8 (c7 M4 (b8 2) (cE (.int 40))) (y0 5)) (j6 (v8 (c7 gtD (c7 K1 (b8 2) (cE (.int 8))) (cE (.int 2))) (y0 6)) (j6 (ifS (orT (m6 (c7 eqD (b8 4) (cE (.int 0)))) (S0 (J8 (b8 6)) (m6 (c7 eqD (c7 K1 (b8 5) (cE (.int 2))) (cE (.int 0)))))) (v8 (x0 (fnX 1 U6) (d0 (b8 0) g0)) (F1 (b8 3) (cE (.int 0)))) m9) (j6 (ifS (orT (m6 (c7 eqD (b8 4) (cE (.int 1)))) (S0 (J8 (b8 6)) (m6 (c7 eqD (c7 K1 (c7 M4 (b8 5) (cE (.int 2))) (cE (.int 3))) (cE (.int 0)))))) (v8 (J9 (d0 (c7 ixD (T7 (d0 (cE (.str ("of" :Str))) (d0 (cE (.str ("but" :Str))) g0))) (c7 K1 (c7 M4 (b8 5) (cE (.int 6))) (cE (.int 2)))) (d0 (x0 (fnX 1 wB) (d0 (b8 0) g0)) g0))) (F1 (b8 3) (cE (.int 1)))) m9) (j6 (ifS (orT (m6 (c7 eqD (b8 4) (cE (.int 2)))) (S0 (J8 (b8 6)) (m6 (c7 eqD (c7 K1 (c7 M4 (b8 5) (cE (.int 12))) (cE (.int 3))) (cE (.int 0)))))) (v8 (c7 ixD (T7 (d0 (J9 g0) (d0 (J9 (d0 (cE (.bl false)) g0)) (d0 (J9 (d0 (cE (.bl true)) g0)) (d0 (J9 (d0 (cE (.bl false)) (d0 (cE (.bl true)) g0))) g0))))) (c7 K1 (c7 M4 (b8 5) (cE (.int 36))) (cE (.int 4)))) (F1 (b8 3) (cE (.int 2)))) m9) (j6 (ifS (orT (m6 (c7 eqD (b8 4) (cE (.int 3)))) (S0 (J8 (b8 6)) (m6 (c7 eqD (c7 K1 (c7 M4 (b8 5) (cE (.int 144))) (cE (.int 2))) (cE (.int 0)))))) (v8 (x0 (fnX 2 (uB R)) (d0 (b8 0) (d0 (b8 1) g0))) (F1 (b8 3) (cE (.int 3)))) m9) (j6 (ifS (orT (m6 (c7 eqD (b8 4) (cE (.int 4)))) (S0 (J8 (b8 6)) (m6 (c7 eqD (c7 K1 (c7 M4 (b8 5) (cE (.int 288))) (cE (.int 2))) (cE (.int 0)))))) (v8 (x0 (fnX 2 (U7 R)) (d0 (b8 0) (d0 (b8 1) g0))) (F1 (b8 3) (cE (.int 4)))) m9) I5))))))))))
def fA:Nat->List D->M D
 |0=>λ_=>M.stuck
 |n+1=>J3 7 (qD (fA n))
def KA:List D->M D:=fA 60
def RO:List D->M D:=V7 KA
def bI:List D->M D:=uB KA
def iI:List D->M D:=U7 KA
def EO:Fs:=t6 (ifE (m6 (c7 eqD (b8 0) (cE (.str ("any" :Str))))) (cE (.tup [.tup [.tup [.non,.non]],.tup [.str ("but" :Str),.tup []],.tup [.bl false,.bl true],.tup [.tup [],.str ("any" :Str)],.tup [.tup [],.str ("any" :Str)]])) (b8 0))
def lF:List D->M D:=J3 1 EO
def dP:Fs:=t6 (J9 (d0 (x0 C3 (d0 (b8 0) g0)) (d0 (c7 ltD (b8 0) (cE (.int 0))) g0)))
def K7:List D->M D:=J3 1 dP
def AF:Fs:=j6 (ifS (S0 (m6 (c7 F7 (b8 0) (cE .non))) (m6 (c7 gtD (b8 0) (cE (.int 0))))) (t6 (b8 0)) m9) (t6 (ifE (S0 (m6 (c7 F7 (b8 1) (cE .non))) (m6 (c7 ltD (b8 1) (cE (.int 0))))) (b8 1) (cE (.int 0))))
def iE:List D->M D:=J3 2 AF
def aF:Fs:=t6 (RJ K7 (N6 (itW (b8 0)) [none,none] (A5 2 (W9 (y0 0) (W9 (y0 1) (S4)))) (O7) (x0 (fnX 2 iE) (d0 (b8 0) (d0 (b8 1) g0)))))
def oF:List D->M D:=J3 1 aF
def vG:Fs:=j6 (v8 (mtE QA FG (b8 0) (d0 (cE (.str ("z" :Str))) g0)) (y0 1)) (j6 (ifS (m6 (c7 eqD (b8 1) (cE (.str ("" :Str))))) (t6 (c7 N1 (cE (.str ("a" :Str))) (c7 O6 (x0 V9 (d0 (b8 0) g0)) (cE (.int 1))))) m9) (j6 (v8 (c7 ixD (cE (.str ("abcdefghijklmnopqrstuvwxyz" :Str))) (c7 O6 (mtE QA QE (cE (.str ("abcdefghijklmnopqrstuvwxyz" :Str))) (d0 (c7 ixD (b8 1) (unE A6 (cE (.int 1)))) g0)) (cE (.int 1)))) (y0 2)) (t6 (c7 O6 (c7 O6 (R1 (b8 1) (R9) (S8 (unE A6 (cE (.int 1))))) (b8 2)) (c7 N1 (cE (.str ("a" :Str))) (c7 Q1 (x0 V9 (d0 (b8 0) g0)) (x0 V9 (d0 (b8 1) g0))))))))
def FE:List D->M D:=J3 3 vG
def FT:Fs:=(j6 (ifS (m6 (c7 neD (b8 2) (b8 1))) (t6 (b8 1)) m9) (v8 (x0 (fnX 1 FE) (d0 (b8 1) g0)) (y0 1)))
def bF:Fs:=j6 (ifS (m6 (c7 eqD (c7 ixD (b8 0) (cE (.int 0))) (cE (.str ("of" :Str))))) (t6 (c7 ixD (c7 ixD (b8 0) (cE (.int 1))) (cE (.int 0)))) m9) (j6 (v8 (cE (.str ("" :Str))) (y0 1)) (j6 (S1 (itW (c7 ixD (b8 0) (cE (.int 1)))) (y0 2) FT) (t6 (b8 1))))
def cG:List D->M D:=J3 3 bF
def KF:Fs:=t6 (J9 (d0 (cE (.str ("record" :Str))) (d0 (x0 T8 (d0 (nO (b8 0)) g0)) g0)))
def MF:List D->M D:=J3 1 KF
def vF(R:List D->M D):Fs:=t6 (N6 (itW (b8 0)) [none] (y0 0) (O7) (x0 (fnX 1 R) (d0 (b8 0) g0)))
def mD(R:List D->M D):List D->M D:=J3 1 (vF R)
def tE(R:List D->M D):Fs:=t6 (x0 ID (d0 (N6 (itW (c7 ixD (b8 0) (cE (.int 0)))) [none,none,none] (A5 3 (W9 (y0 0) (W9 (y0 1) (W9 (y0 2) (S4))))) (J8 (b8 1)) (J9 (d0 (b8 0) (d0 (x0 (fnX 1 R) (d0 (b8 2) g0)) g0)))) g0))
def Z8(R:List D->M D):List D->M D:=J3 1 (tE R)
def U3(R:List D->M D):Fs:=j6 (v8 (x0 (fnX 1 lF) (d0 (b8 0) g0)) (y0 1)) (j6 (ifS (J8 (c7 ixD (b8 1) (cE (.int 0)))) (t6 (x0 (fnX 1 oF) (d0 (c7 ixD (b8 1) (cE (.int 0))) g0))) m9) (j6 (ifS (m6 (c7 neD (c7 ixD (b8 1) (cE (.int 1))) (J9 (d0 (cE (.str ("of" :Str))) (d0 (J9 g0) g0))))) (t6 (x0 (fnX 1 cG) (d0 (c7 ixD (b8 1) (cE (.int 1))) g0))) m9) (j6 (ifS (J8 (c7 ixD (b8 1) (cE (.int 2)))) (t6 (c7 ixD (c7 ixD (b8 1) (cE (.int 2))) (cE (.int 0)))) m9) (j6 (ifS (m6 (c7 F7 (c7 ixD (b8 1) (cE (.int 3))) (cE .non))) (t6 (J9 (d0 (cE (.str ("list" :Str))) (d0 (x0 T8 (d0 (x0 (fnX 1 (mD R)) (d0 (c7 ixD (c7 ixD (b8 1) (cE (.int 3))) (cE (.int 0))) g0)) g0)) g0)))) m9) (j6 (ifS (m6 (c7 F7 (c7 ixD (b8 1) (cE (.int 4))) (cE .non))) (t6 (x0 (fnX 1 MF) (d0 (x0 (fnX 1 (Z8 R)) (d0 (c7 ixD (b8 1) (cE (.int 4))) g0)) g0))) m9) (t6 (cE .non)))))))
def T5:Nat->List D->M D
 |0=>λ_=>M.stuck
 |n+1=>J3 2 (U3 (T5 n))
def X6:List D->M D:=T5 60
def cL:List D->M D:=mD X6
def sP:List D->M D:=Z8 X6
def UC(R:List D->M D):Fs:=j6 (v8 (x0 (fnX 1 u6) (d0 (b8 0) g0)) (y0 2)) (j6 (v8 (c7 K1 (b8 2) (cE (.int 6))) (y0 3)) (j6 (ifS (m6 (c7 eqD (b8 3) (cE (.int 1)))) (t6 (c7 Q1 (c7 K1 (c7 O6 (c7 N1 (c7 M4 (b8 2) (cE (.int 6))) (cE (.int 1000003))) (x0 (fnX 1 u6) (d0 (b8 0) g0))) (c7 O6 (c7 N1 (cE (.int 2)) (c7 F6 (cE (.int 10)) (cE (.int 12)))) (cE (.int 1)))) (c7 F6 (cE (.int 10)) (cE (.int 12))))) m9) (j6 (ifS (m6 (c7 eqD (b8 3) (cE (.int 2)))) (t6 (x0 (fnX 1 vD) (d0 (b8 0) g0))) m9) (j6 (ifS (m6 (c7 eqD (b8 3) (cE (.int 3)))) (t6 (c7 eqD (c7 K1 (c7 M4 (b8 2) (cE (.int 6))) (cE (.int 2))) (cE (.int 1)))) m9) (j6 (ifS (orT (m6 (c7 eqD (b8 3) (cE (.int 0)))) (m6 (c7 eqD (b8 1) (cE (.int 0))))) (t6 (c7 Q1 (c7 K1 (c7 M4 (b8 2) (cE (.int 6))) (cE (.int 13))) (cE (.int 6)))) m9) (j6 (ifS (m6 (c7 eqD (b8 3) (cE (.int 4)))) (t6 (J9 (d0 (cE (.str ("list" :Str))) (d0 (x0 T8 (d0 (N6 (T4 (d0 (x0 (fnX 1 T9) (d0 (b8 0) g0)) g0)) [none,some 1,some 0] (y0 0) (O7) (x0 (fnX 2 R) (d0 (b8 2) (d0 (c7 Q1 (b8 1) (cE (.int 1))) g0)))) g0)) g0)))) m9) (t6 (J9 (d0 (cE (.str ("record" :Str))) (d0 (x0 T8 (d0 (N6 (itW (x0 (fnX 1 dC) (d0 (b8 0) g0))) [none,some 1,some 0] (y0 0) (O7) (J9 (d0 (b8 0) (d0 (x0 (fnX 2 R) (d0 (b8 2) (d0 (c7 Q1 (b8 1) (cE (.int 1))) g0))) g0)))) g0)) g0))))))))))
def AC:Nat->List D->M D
 |0=>λ_=>M.stuck
 |n+1=>J3 4 (UC (AC n))
def Q8:List D->M D:=AC 60
def fG:Fs:=j6 (v8 (c7 ixD (b8 0) (c7 K1 (b8 1) (x0 V9 (d0 (b8 0) g0)))) (A5 2 (W9 (y0 2) (W9 (y0 3) (S4))))) (j6 (v8 (c7 K1 (c7 M4 (b8 1) (cE (.int 7))) (cE (.int 5))) (y0 4)) (j6 (ifS (S0 (m6 (c7 D3 (b8 2) (cE .non))) (m6 (c7 D3 (b8 3) (cE .non)))) (t6 (c7 Q1 (b8 4) (cE (.int 2)))) m9) (j6 (ifS (m6 (c7 D3 (b8 2) (cE .non))) (t6 (c7 Q1 (b8 3) (b8 4))) m9) (j6 (ifS (m6 (c7 D3 (b8 3) (cE .non))) (t6 (c7 O6 (b8 2) (b8 4))) m9) (t6 (c7 ixD (T7 (d0 (b8 2) (d0 (b8 3) (d0 (c7 O6 (b8 2) (c7 K1 (c7 M4 (b8 1) (cE (.int 35))) (c7 O6 (c7 Q1 (b8 3) (b8 2)) (cE (.int 1))))) g0)))) (c7 K1 (c7 M4 (b8 1) (cE (.int 7))) (cE (.int 3)))))))))
def OG:List D->M D:=J3 5 fG
def tG:Fs:=j6 (ifS (m6 (c7 eqD (c7 ixD (b8 0) (cE (.int 0))) (cE (.str ("of" :Str))))) (t6 (c7 ixD (c7 ixD (b8 0) (cE (.int 1))) (c7 K1 (b8 1) (x0 V9 (d0 (c7 ixD (b8 0) (cE (.int 1))) g0))))) m9) (j6 (v8 (c7 ixD (T7 (d0 (cE (.str ("" :Str))) (d0 (cE (.str ("a" :Str))) (d0 (cE (.str ("b" :Str))) (d0 (cE (.str ("aa" :Str))) (d0 (cE (.str ("c" :Str))) (d0 (cE (.str ("q" :Str))) g0))))))) (c7 K1 (b8 1) (cE (.int 6)))) (y0 2)) (j6 (bB (m6 (c7 inD (b8 2) (c7 ixD (b8 0) (cE (.int 1))))) (v8 (c7 O6 (b8 2) (cE (.str ("q" :Str)))) (y0 2))) (t6 (b8 2))))
def aH:List D->M D:=J3 3 tG
def gF(R:List D->M D):Fs:=j6 (v8 (N6 (itW (c7 ixD (b8 1) (cE (.int 0)))) [none,some 0] (y0 0) (O7) (x0 (fnX 2 R) (d0 (b8 1) (d0 (b8 0) g0)))) (y0 2)) (j6 (ifS (m6 (c7 neD (c7 ixD (b8 1) (cE (.int 1))) (x0 (fnX 0 J5) g0))) (v8 (c7 O6 (b8 2) (N6 (T4 (d0 (c7 K1 (x0 (fnX 1 u6) (d0 (b8 0) g0)) (cE (.int 3))) g0)) [none,some 1,some 0] (y0 0) (O7) (x0 (fnX 2 R) (d0 (b8 2) (d0 (c7 ixD (b8 1) (cE (.int 1))) g0))))) (y0 2)) m9) (t6 (J9 (d0 (cE (.str ("list" :Str))) (d0 (x0 T8 (d0 (b8 2) g0)) g0)))))
def Z9(R:List D->M D):List D->M D:=J3 3 (gF R)
def RL:Fs:=(t6 (J9 (d0 (cE (.str ("record" :Str))) (d0 (x0 T8 (d0 (N6 (itW (x0 e9 (d0 (b8 2) g0))) [none,some 2] (y0 0) (O7) (J9 (d0 (b8 0) (d0 (c7 ixG (b8 1) (b8 0)) g0)))) g0)) g0))))
def RF(R:List D->M D):Fs:=(ifS (orT (J8 (c7 ixD (b8 4) (cE (.int 1)))) (S0 (m6 (c7 neD (c7 ixD (b8 4) (cE (.int 2))) (x0 (fnX 0 J5) g0))) (m6 (c7 eqD (c7 K1 (x0 (fnX 1 u6) (d0 (b8 0) g0)) (cE (.int 2))) (cE (.int 1)))))) (v8 (x0 (fnX 2 R) (d0 (b8 0) (d0 (c7 ixD (b8 4) (cE (.int 2))) g0))) (F1 (b8 2) (c7 ixD (b8 4) (cE (.int 0))))) m9)
def SG(R:List D->M D):Fs:=j6 (v8 (PL) (y0 2)) (j6 (v8 (c7 ixD (T7 (d0 (cE (.str ("q" :Str))) (d0 (cE (.str ("a" :Str))) (d0 (cE (.str ("ba" :Str))) (d0 (cE (.str ("z" :Str))) g0))))) (c7 K1 (x0 (fnX 1 u6) (d0 (b8 0) g0)) (cE (.int 4)))) (y0 3)) (j6 (S1 (itW (c7 ixD (b8 1) (cE (.int 0)))) (y0 4) (RF R)) (j6 (ifS (S0 (m6 (c7 neD (c7 ixD (b8 1) (cE (.int 1))) (x0 (fnX 0 J5) g0))) (S0 (m6 (c7 eqD (c7 K1 (x0 (fnX 1 u6) (d0 (b8 0) g0)) (cE (.int 2))) (cE (.int 1)))) (m6 (c7 nC (b8 3) (N6 (itW (c7 ixD (b8 1) (cE (.int 0)))) [none] (y0 0) (O7) (c7 ixD (b8 0) (cE (.int 0)))))))) (v8 (x0 (fnX 2 R) (d0 (b8 0) (d0 (c7 ixD (b8 1) (cE (.int 1))) g0))) (F1 (b8 2) (b8 3))) m9) RL)))
def U9(R:List D->M D):List D->M D:=J3 5 (SG R)
def Q5(R:List D->M D):Fs:=j6 (ifS (m6 (c7 eqD (b8 1) (cE (.str ("any" :Str))))) (t6 (x0 (fnX 2 Q8) (d0 (b8 0) (d0 (cE (.int 1)) g0)))) m9) (j6 (v8 (x0 (fnX 0 J5) g0) (y0 2)) (j6 (v8 (N6 (T4 (d0 (cE (.int 5)) g0)) [none,some 2,some 1] (y0 0) (m6 (c7 neD (c7 ixD (b8 2) (b8 0)) (c7 ixD (b8 1) (b8 0)))) (b8 0)) (y0 3)) (j6 (ifS (m6 (c7 eqD (b8 3) (T7 g0))) (t6 (cE .non)) m9) (j6 (v8 (x0 (fnX 1 u6) (d0 (b8 0) g0)) (y0 4)) (j6 (v8 (c7 ixD (b8 3) (c7 K1 (b8 4) (x0 V9 (d0 (b8 3) g0)))) (y0 5)) (j6 (ifS (m6 (c7 eqD (b8 5) (cE (.int 0)))) (t6 (x0 (fnX 2 OG) (d0 (c7 ixD (b8 1) (cE (.int 0))) (d0 (c7 M4 (b8 4) (cE (.int 5))) g0)))) m9) (j6 (ifS (m6 (c7 eqD (b8 5) (cE (.int 1)))) (t6 (x0 (fnX 2 aH) (d0 (c7 ixD (b8 1) (cE (.int 1))) (d0 (c7 M4 (b8 4) (cE (.int 5))) g0)))) m9) (j6 (ifS (m6 (c7 eqD (b8 5) (cE (.int 2)))) (t6 (c7 ixD (c7 ixD (b8 1) (cE (.int 2))) (c7 K1 (c7 M4 (b8 4) (cE (.int 5))) (x0 V9 (d0 (c7 ixD (b8 1) (cE (.int 2))) g0))))) m9) (j6 (ifS (m6 (c7 eqD (b8 5) (cE (.int 3)))) (t6 (x0 (fnX 2 (Z9 R)) (d0 (b8 0) (d0 (c7 ixD (b8 1) (cE (.int 3))) g0)))) m9) (t6 (x0 (fnX 2 (U9 R)) (d0 (b8 0) (d0 (c7 ixD (b8 1) (cE (.int 4))) g0)))))))))))))
def Q4:Nat->List D->M D
 |0=>λ_=>M.stuck
 |n+1=>J3 6 (Q5 (Q4 n))
def X5:List D->M D:=Q4 60
def oM:List D->M D:=Z9 X5
def rQ:List D->M D:=U9 X5
def W6(R:List D->M D):Fs:=j6 (v8 (c7 K1 (c7 M4 (b8 2) (cE (.int 4))) (c7 O6 (x0 V9 (d0 (b8 1) g0)) (cE (.int 1)))) (y0 3)) (j6 (ifS (orT (m6 (c7 eqD (c7 K1 (b8 2) (cE (.int 4))) (cE (.int 0)))) (m6 (c7 eqD (b8 3) (x0 V9 (d0 (b8 1) g0))))) (t6 (J9 (d0 (cE (.str ("list" :Str))) (d0 (c7 O6 (c7 O6 (R1 (b8 1) (R9) (S8 (b8 3))) (J9 (d0 (x0 (fnX 2 Q8) (d0 (b8 0) (d0 (cE (.int 0)) g0))) g0))) (R1 (b8 1) (S8 (b8 3)) (R9))) g0)))) m9) (j6 (ifS (m6 (c7 eqD (c7 K1 (b8 2) (cE (.int 4))) (cE (.int 1)))) (t6 (J9 (d0 (cE (.str ("list" :Str))) (d0 (c7 O6 (R1 (b8 1) (R9) (S8 (b8 3))) (R1 (b8 1) (S8 (c7 O6 (b8 3) (cE (.int 1)))) (R9))) g0)))) m9) (t6 (J9 (d0 (cE (.str ("list" :Str))) (d0 (c7 O6 (c7 O6 (R1 (b8 1) (R9) (S8 (b8 3))) (J9 (d0 (x0 (fnX 2 R) (d0 (b8 0) (d0 (c7 ixD (b8 1) (b8 3)) g0))) g0))) (R1 (b8 1) (S8 (c7 O6 (b8 3) (cE (.int 1)))) (R9))) g0))))))
def R7(R:List D->M D):List D->M D:=J3 4 (W6 R)
def S9(R:List D->M D):Fs:=j6 (ifS (m6 (c7 eqD (b8 1) (J9 g0))) (t6 (J9 (d0 (cE (.str ("record" :Str))) (d0 (J9 (d0 (J9 (d0 (cE (.str ("q" :Str))) (d0 (x0 (fnX 2 Q8) (d0 (b8 0) (d0 (cE (.int 0)) g0))) g0))) g0)) g0)))) m9) (j6 (v8 (c7 K1 (c7 M4 (b8 2) (cE (.int 4))) (x0 V9 (d0 (b8 1) g0))) (y0 3)) (j6 (ifS (m6 (c7 eqD (c7 K1 (b8 2) (cE (.int 4))) (cE (.int 0)))) (t6 (J9 (d0 (cE (.str ("record" :Str))) (d0 (c7 O6 (R1 (b8 1) (R9) (S8 (b8 3))) (R1 (b8 1) (S8 (c7 O6 (b8 3) (cE (.int 1)))) (R9))) g0)))) m9) (j6 (ifS (S0 (m6 (c7 eqD (c7 K1 (b8 2) (cE (.int 4))) (cE (.int 1)))) (m6 (c7 ltD (c7 ixD (c7 ixG (b8 1) (unE A6 (cE (.int 1)))) (cE (.int 0))) (cE (.str ("x" :Str)))))) (t6 (J9 (d0 (cE (.str ("record" :Str))) (d0 (c7 O6 (b8 1) (J9 (d0 (J9 (d0 (cE (.str ("x" :Str))) (d0 (x0 (fnX 2 Q8) (d0 (b8 0) (d0 (cE (.int 0)) g0))) g0))) g0))) g0)))) m9) (j6 (v8 (J9 (d0 (c7 ixD (c7 ixG (b8 1) (b8 3)) (cE (.int 0))) (d0 (x0 (fnX 2 R) (d0 (b8 0) (d0 (c7 ixD (c7 ixG (b8 1) (b8 3)) (cE (.int 1))) g0))) g0))) (y0 4)) (t6 (J9 (d0 (cE (.str ("record" :Str))) (d0 (c7 O6 (c7 O6 (R1 (b8 1) (R9) (S8 (b8 3))) (J9 (d0 (b8 4) g0))) (R1 (b8 1) (S8 (c7 O6 (b8 3) (cE (.int 1)))) (R9))) g0))))))))
def P0(R:List D->M D):List D->M D:=J3 5 (S9 R)
def wD(R:List D->M D):Fs:=j6 (v8 (x0 (fnX 1 u6) (d0 (b8 0) g0)) (y0 2)) (j6 (ifS (S0 (J8 (x0 O8 (d0 (b8 1) (d0 (cE (.ty "tuple")) g0)))) (m6 (c7 eqD (c7 ixD (b8 1) (cE (.int 0))) (cE (.str ("list" :Str)))))) (t6 (x0 (fnX 3 (R7 R)) (d0 (b8 0) (d0 (c7 ixD (b8 1) (cE (.int 1))) (d0 (b8 2) g0))))) m9) (j6 (ifS (J8 (x0 O8 (d0 (b8 1) (d0 (cE (.ty "tuple")) g0)))) (t6 (x0 (fnX 3 (P0 R)) (d0 (b8 0) (d0 (c7 ixD (b8 1) (cE (.int 1))) (d0 (b8 2) g0))))) m9) (j6 (ifS (S0 (J8 (x0 O8 (d0 (b8 1) (d0 (cE (.ty "int")) g0)))) (c8 (J8 (x0 O8 (d0 (b8 1) (d0 (cE (.ty "bool")) g0)))))) (t6 (c7 O6 (b8 1) (c7 ixD (T7 (d0 (unE A6 (cE (.int 1))) (d0 (cE (.int 1)) (d0 (cE (.int 5)) g0)))) (c7 K1 (b8 2) (cE (.int 3)))))) m9) (t6 (x0 (fnX 2 Q8) (d0 (b8 0) (d0 (cE (.int 0)) g0)))))))
def aE:Nat->List D->M D
 |0=>λ_=>M.stuck
 |n+1=>J3 3 (wD (aE n))
def X7:List D->M D:=aE 60
def DQ:List D->M D:=R7 X7
def SL:List D->M D:=P0 X7
def NB:Fs:=(j6 (v8 (x0 (fnX 2 X5) (d0 (b8 0) (d0 (b8 1) g0))) (y0 4)) (ifS (m6 (c7 F7 (b8 4) (cE .non))) (v8 (c7 O6 (b8 2) (T7 (d0 (b8 4) (d0 (x0 (fnX 2 X7) (d0 (b8 0) (d0 (b8 4) g0))) g0)))) (y0 2)) m9))
def WF:Fs:=j6 (v8 (T7 g0) (y0 2)) (j6 (S1 (T4 (d0 (cE (.int 3)) g0)) (y0 3) NB) (t6 (b8 2)))
def uD:List D->M D:=J3 5 WF
def GN:Fs:=j6 (ifS (c8 (S0 (J8 (x0 O8 (d0 (b8 0) (d0 (cE (.ty "tuple")) g0)))) (m6 (c7 eqD (x0 V9 (d0 (b8 0) g0)) (cE (.int 2)))))) (t6 (cE (.bl false))) m9) (t6 (B2 (x0 O8 (d0 (c7 ixD (b8 0) (cE (.int 0))) (d0 (cE (.ty "str")) g0))) (B2 (c7 eqD (c7 ixD (b8 0) (cE (.int 0))) (b8 1)) (x0 O8 (d0 (c7 ixD (b8 0) (cE (.int 1))) (d0 (cE (.ty "tuple")) g0))))))
def GF:List D->M D:=J3 2 GN
def iF:Fs:=t6 (B2 (x0 O8 (d0 (b8 0) (d0 (cE (.ty "str")) g0))) (x0 u7 (d0 (N6 (itW (b8 0)) [none] (y0 0) (O7) (d6 leD leD (cE (.str ("a" :Str))) (b8 0) (cE (.str ("z" :Str))))) g0)))
def PD:List D->M D:=J3 1 iF
def dF:Fs:=t6 (x0 u7 (d0 (N6 (wC (d0 (b8 0) (d0 (R1 (b8 0) (S8 (cE (.int 1))) (R9)) g0))) [none,none] (A5 2 (W9 (y0 0) (W9 (y0 1) (S4)))) (O7) (c7 ltD (b8 0) (b8 1))) g0))
def pG:List D->M D:=J3 1 dF
def qF:Fs:=t6 (N6 (itW (b8 0)) [none] (y0 0) (O7) (c7 ixD (b8 0) (cE (.int 0))))
def oG:List D->M D:=J3 1 qF
def wF:Fs:=t6 (B2 (x0 (fnX 1 PD) (d0 (b8 0) g0)) (c7 gtD (x0 V9 (d0 (b8 0) g0)) (cE (.int 0))))
def UE:List D->M D:=J3 1 wF
def lG:Fs:=t6 (B2 (x0 O8 (d0 (b8 0) (d0 (cE (.ty "tuple")) g0))) (B2 (c7 eqD (x0 V9 (d0 (b8 0) g0)) (cE (.int 2))) (x0 (fnX 1 UE) (d0 (c7 ixD (b8 0) (cE (.int 0))) g0))))
def MC:List D->M D:=J3 1 lG
def HB:Fs:=j6 (ifS (J8 (x0 O8 (d0 (b8 0) (d0 (cE (.ty "int")) g0)))) (t6 (cE (.bl true))) m9) (j6 (ifS (J8 (x0 O8 (d0 (b8 0) (d0 (cE (.ty "str")) g0)))) (t6 (x0 (fnX 1 PD) (d0 (b8 0) g0))) m9) (j6 (ifS (J8 (x0 (fnX 2 GF) (d0 (b8 0) (d0 (cE (.str ("record" :Str))) g0)))) (t6 (B2 (x0 u7 (d0 (N6 (itW (c7 ixD (b8 0) (cE (.int 1)))) [none] (y0 0) (O7) (x0 (fnX 1 MC) (d0 (b8 0) g0))) g0)) (x0 (fnX 1 pG) (d0 (x0 (fnX 1 oG) (d0 (c7 ixD (b8 0) (cE (.int 1))) g0)) g0)))) m9) (t6 (x0 (fnX 2 GF) (d0 (b8 0) (d0 (cE (.str ("list" :Str))) g0))))))
def HG:List D->M D:=J3 1 HB
def VF:Fs:=j6 (ifS (J8 (x0 O8 (d0 (b8 0) (d0 (J9 (d0 (cE (.ty "int")) (d0 (cE (.ty "str")) g0))) g0)))) (t6 (T7 g0)) m9) (j6 (ifS (m6 (c7 eqD (c7 ixD (b8 0) (cE (.int 0))) (cE (.str ("list" :Str))))) (t6 (x0 qA (d0 (c7 ixD (b8 0) (cE (.int 1))) g0))) m9) (t6 (N6 (itW (c7 ixD (b8 0) (cE (.int 1)))) [none] (y0 0) (O7) (c7 ixD (b8 0) (cE (.int 1))))))
def AG:List D->M D:=J3 1 VF
def VL:Fs:=(j6 (v8 (mtE Z3 dD (b8 1) g0) (y0 2)) (j6 (ifS (c8 (J8 (x0 (fnX 1 HG) (d0 (b8 2) g0)))) (t6 (cE (.bl false))) m9) (C7 (mtE Z3 EG (b8 1) (d0 (x0 (fnX 1 AG) (d0 (b8 2) g0)) g0)))))
def UF:Fs:=j6 (v8 (T7 (d0 (b8 0) g0)) (y0 1)) (j6 (bB (J8 (b8 1)) VL) (t6 (cE (.bl true))))
def ND:List D->M D:=J3 3 UF
def IB:Fs:=(ifS (m6 (c7 eqD (c7 ixD (b8 2) (cE (.int 0))) (b8 1))) (t6 (c7 ixD (b8 2) (cE (.int 2)))) m9)
def wK:Fs:=j6 (S1 (itW (c7 ixD (b8 0) (cE (.int 0)))) (y0 2) IB) (t6 (c7 ixD (b8 0) (cE (.int 1))))
def rF:List D->M D:=J3 3 wK
def rE(R:List D->M D):Fs:=j6 (ifS (orT (m6 (c7 D3 (b8 1) (cE .non))) (m6 (c7 ltD (x0 V9 (d0 (b8 0) g0)) (x0 V9 (d0 (c7 ixD (b8 1) (cE (.int 0))) g0))))) (t6 (cE (.bl false))) m9) (j6 (v8 (c7 O6 (c7 ixD (b8 1) (cE (.int 0))) (c7 vC (J9 (d0 (c7 ixD (b8 1) (cE (.int 1))) g0)) (c7 Q1 (x0 V9 (d0 (b8 0) g0)) (x0 V9 (d0 (c7 ixD (b8 1) (cE (.int 0))) g0))))) (y0 2)) (t6 (x0 u7 (d0 (N6 (wC (d0 (b8 0) (d0 (b8 2) g0))) [none,none] (A5 2 (W9 (y0 0) (W9 (y0 1) (S4)))) (O7) (x0 (fnX 2 R) (d0 (b8 0) (d0 (b8 1) g0)))) g0))))
def W7(R:List D->M D):List D->M D:=J3 3 (rE R)
def Z5(R:List D->M D):Fs:=j6 (ifS (m6 (c7 D3 (b8 1) (cE .non))) (t6 (cE (.bl false))) m9) (j6 (v8 (N6 (itW (b8 0)) [none] (y0 0) (O7) (c7 ixD (b8 0) (cE (.int 0)))) (y0 2)) (j6 (ifS (c8 (J8 (x0 u7 (d0 (N6 (itW (c7 ixD (b8 1) (cE (.int 0)))) [none,some 2] (y0 0) (J8 (c7 ixD (b8 0) (cE (.int 1)))) (c7 inD (c7 ixD (b8 0) (cE (.int 0))) (b8 1))) g0)))) (t6 (cE (.bl false))) m9) (t6 (x0 u7 (d0 (N6 (itW (b8 0)) [none,none,some 1] (A5 2 (W9 (y0 0) (W9 (y0 1) (S4)))) (O7) (x0 (fnX 2 R) (d0 (b8 1) (d0 (x0 (fnX 2 rF) (d0 (b8 2) (d0 (b8 0) g0))) g0)))) g0)))))
def T3(R:List D->M D):List D->M D:=J3 3 (Z5 R)
def NE:Fe:=(B2 (N9 (c7 D3 (b8 0) (cE .non)) (c7 leD (b8 0) (b8 2))) (N9 (c7 D3 (b8 1) (cE .non)) (c7 leD (b8 2) (b8 1))))
def OC(R:List D->M D):Fs:=j6 (ifS (m6 (c7 eqD (b8 1) (cE (.str ("any" :Str))))) (t6 (cE (.bl true))) m9) (j6 (ifS (J8 (x0 O8 (d0 (b8 0) (d0 (cE (.ty "bool")) g0)))) (t6 (c7 inD (b8 0) (c7 ixD (b8 1) (cE (.int 2))))) m9) (j6 (ifS (J8 (x0 O8 (d0 (b8 0) (d0 (cE (.ty "int")) g0)))) (t6 (x0 QC (d0 (N6 (itW (c7 ixD (b8 1) (cE (.int 0)))) [none,none,some 0] (A5 2 (W9 (y0 0) (W9 (y0 1) (S4)))) (O7) NE) g0))) m9) (j6 (ifS (J8 (x0 O8 (d0 (b8 0) (d0 (cE (.ty "str")) g0)))) (t6 (c7 eqD (c7 inD (b8 0) (c7 ixD (c7 ixD (b8 1) (cE (.int 1))) (cE (.int 1)))) (c7 eqD (c7 ixD (c7 ixD (b8 1) (cE (.int 1))) (cE (.int 0))) (cE (.str ("of" :Str)))))) m9) (j6 (ifS (m6 (c7 eqD (c7 ixD (b8 0) (cE (.int 0))) (cE (.str ("list" :Str))))) (t6 (x0 (fnX 2 (W7 R)) (d0 (c7 ixD (b8 0) (cE (.int 1))) (d0 (c7 ixD (b8 1) (cE (.int 3))) g0)))) m9) (t6 (x0 (fnX 2 (T3 R)) (d0 (c7 ixD (b8 0) (cE (.int 1))) (d0 (c7 ixD (b8 1) (cE (.int 4))) g0))))))))
def gD:Nat->List D->M D
 |0=>λ_=>M.stuck
 |n+1=>J3 2 (OC (gD n))
def lA:List D->M D:=gD 60
def AQ:List D->M D:=W7 lA
def SM:List D->M D:=T3 lA
def uC:Fs:=j6 (ifS (J8 (x0 O8 (d0 (b8 0) (d0 (cE (.ty "bool")) g0)))) (t6 (cE (.int 2))) m9) (j6 (ifS (J8 (x0 O8 (d0 (b8 0) (d0 (cE (.ty "int")) g0)))) (t6 (cE (.int 0))) m9) (j6 (ifS (J8 (x0 O8 (d0 (b8 0) (d0 (cE (.ty "str")) g0)))) (t6 (cE (.int 1))) m9) (t6 (c7 ixD (T7 (d0 (cE (.int 3)) (d0 (cE (.int 4)) g0))) (x0 l9 (d0 (c7 eqD (c7 ixD (b8 0) (cE (.int 0))) (cE (.str ("record" :Str)))) g0))))))
def QB:List D->M D:=J3 1 uC
def uE(R:List D->M D):Fs:=j6 (v8 (x0 (fnX 1 QB) (d0 (b8 0) g0)) (y0 2)) (j6 (ifS (m6 (c7 neD (b8 2) (x0 (fnX 1 QB) (d0 (b8 1) g0)))) (t6 (c7 ltD (b8 2) (x0 (fnX 1 QB) (d0 (b8 1) g0)))) m9) (j6 (ifS (m6 (c7 eqD (b8 2) (cE (.int 0)))) (t6 (N9 (c7 ltD (x0 C3 (d0 (b8 0) g0)) (x0 C3 (d0 (b8 1) g0))) (B2 (c7 eqD (x0 C3 (d0 (b8 0) g0)) (x0 C3 (d0 (b8 1) g0))) (c7 gtD (b8 0) (b8 1))))) m9) (j6 (ifS (m6 (c7 eqD (b8 2) (cE (.int 1)))) (t6 (c7 ltD (J9 (d0 (x0 V9 (d0 (b8 0) g0)) (d0 (b8 0) g0))) (J9 (d0 (x0 V9 (d0 (b8 1) g0)) (d0 (b8 1) g0))))) m9) (j6 (ifS (m6 (c7 eqD (b8 2) (cE (.int 2)))) (t6 (B2 (b8 1) (cO (b8 0)))) m9) (j6 (ifS (m6 (c7 neD (x0 V9 (d0 (c7 ixD (b8 0) (cE (.int 1))) g0)) (x0 V9 (d0 (c7 ixD (b8 1) (cE (.int 1))) g0)))) (t6 (c7 ltD (x0 V9 (d0 (c7 ixD (b8 0) (cE (.int 1))) g0)) (x0 V9 (d0 (c7 ixD (b8 1) (cE (.int 1))) g0)))) m9) (j6 (ifS (m6 (c7 eqD (b8 2) (cE (.int 3)))) (t6 (x0 (fnX 2 R) (d0 (c7 ixD (b8 0) (cE (.int 1))) (d0 (c7 ixD (b8 1) (cE (.int 1))) g0)))) m9) (j6 (v8 (N6 (itW (c7 ixD (b8 0) (cE (.int 1)))) [none] (y0 0) (O7) (c7 ixD (b8 0) (cE (.int 0)))) (y0 3)) (j6 (v8 (N6 (itW (c7 ixD (b8 1) (cE (.int 1)))) [none] (y0 0) (O7) (c7 ixD (b8 0) (cE (.int 0)))) (y0 4)) (j6 (ifS (m6 (c7 neD (b8 3) (b8 4))) (t6 (c7 ltD (b8 3) (b8 4))) m9) (t6 (x0 (fnX 2 R) (d0 (N6 (itW (c7 ixD (b8 0) (cE (.int 1)))) [none] (y0 0) (O7) (c7 ixD (b8 0) (cE (.int 1)))) (d0 (N6 (itW (c7 ixD (b8 1) (cE (.int 1)))) [none] (y0 0) (O7) (c7 ixD (b8 0) (cE (.int 1)))) g0)))))))))))))
def K9(R:List D->M D):List D->M D:=J3 5 (uE R)
def AB(R:List D->M D):Fs:=(j6 (ifS (J8 (x0 (fnX 2 (K9 R)) (d0 (c7 ixD (b8 0) (b8 2)) (d0 (c7 ixD (b8 1) (b8 2)) g0)))) (t6 (cE (.bl true))) m9) (ifS (J8 (x0 (fnX 2 (K9 R)) (d0 (c7 ixD (b8 1) (b8 2)) (d0 (c7 ixD (b8 0) (b8 2)) g0)))) (t6 (cE (.bl false))) m9))
def K8(R:List D->M D):Fs:=j6 (S1 (T4 (d0 (x0 V9 (d0 (b8 0) g0)) g0)) (y0 2) (AB R)) (t6 (cE (.bl false)))
def Q7:Nat->List D->M D
 |0=>λ_=>M.stuck
 |n+1=>J3 3 (K8 (Q7 n))
def RI:List D->M D:=Q7 60
def GH:List D->M D:=K9 RI
def PU0:Fe:=(x0 (fnX 4 S7) (d0 (b8 0) (d0 (cE (.int 0)) (d0 (cE (.int 2)) (d0 (cE (.int 60)) g0)))))
def W1:Fs:=(ifS (m6 (c7 eqD (b8 3) (cE (.int 1)))) (v8 (c7 O6 (R1 (x0 (fnX 0 J5) g0) (R9) (S8 (cE (.int 3)))) (J9 (d0 (x0 (fnX 2 bI) (d0 PU0 (d0 (cE (.int 3)) g0))) (d0 (cE .non) g0)))) (y0 2)) m9)
def W2:Fs:=(ifS (m6 (c7 eqD (b8 3) (cE (.int 2)))) (v8 (c7 O6 (R1 (x0 (fnX 0 J5) g0) (R9) (S8 (cE (.int 4)))) (J9 (d0 (x0 (fnX 2 iI) (d0 PU0 (d0 (cE (.int 3)) g0))) g0))) (y0 2)) m9)
def LB:Fs:=(ifS (S0 (J8 (x0 (fnX 2 lA) (d0 (b8 6) (d0 (b8 2) g0)))) (J8 (x0 (fnX 2 GH) (d0 (b8 6) (d0 (b8 4) g0))))) (t6 (cE (.bl false))) m9)
def VA:Fe:=(c7 O6 (N6 (T4 (d0 (cE (.int 4)) g0)) [none,some 1] (y0 0) (O7) (x0 (fnX 2 Q8) (d0 (b8 1) (d0 (cE (.int 2)) g0)))) (x0 (fnX 2 uD) (d0 (b8 1) (d0 (b8 2) g0))))
def VB':Fe:=(c7 O6 (c7 O6 (b8 5) (x0 (fnX 2 uD) (d0 (x0 (fnX 4 S7) (d0 (b8 0) (d0 (cE (.int 0)) (d0 (cE (.int 1)) (d0 (cE (.int 60)) g0))))) (d0 (b8 2) g0)))) (N6 (T4 (d0 (cE (.int 3)) g0)) [none,some 4,some 1] (y0 0) (O7) (x0 (fnX 2 X7) (d0 (b8 2) (d0 (b8 1) g0)))))
def mE:Fs:=j6 (v8 (x0 (fnX 4 S7) (d0 (b8 0) (d0 (cE (.int 1)) (d0 (cE (.int 2)) (d0 (cE (.int 60)) g0))))) (y0 1)) (j6 (v8 (x0 (fnX 2 KA) (d0 PU0 (d0 (cE (.int 3)) g0))) (y0 2)) (j6 (v8 (c7 K1 (x0 (fnX 1 u6) (d0 (b8 1) g0)) (cE (.int 3))) (y0 3)) (j6 W1 (j6 W2 (j6 (v8 (x0 (fnX 1 X6) (d0 (b8 2) g0)) (y0 4)) (j6 (ifS (m6 (c7 eqD (b8 2) (x0 (fnX 0 J5) g0))) (t6 (c7 D3 (b8 4) (cE .non))) m9) (j6 (ifS (orT (m6 (c7 D3 (b8 4) (cE .non))) (orT (m6 (c7 F7 (x0 (fnX 1 ND) (d0 (b8 4) g0)) (cE (.bl true)))) (c8 (J8 (x0 (fnX 2 lA) (d0 (b8 4) (d0 (b8 2) g0))))))) (t6 (cE (.bl false))) m9) (j6 (v8 VA (y0 5)) (j6 (v8 VB' (y0 5)) (j6 (S1 (itW (b8 5)) (y0 6) LB) (t6 (cE (.bl true)))))))))))))
def eJ:List D->M D:=J3 7 mE
local macro_rules | `(tactic| walk_at "cl") => `(tactic| (refine ⟨?k, ?kk, ?a, ?b, ?c⟩; (case a => first | (dsimp only [Cx.nox, l7]; with_reducible assumption) | assumption); (case b => assumption); (case c => first | decide | omega)))
local macro_rules | `(tactic| walk_at "ck") => `(tactic| (refine ⟨?k, ?kk, ?kkk, ?a, ?b, ?c, ?d⟩; (case a => assumption); (case b => rfl); (case c => rfl); (case d => decide +kernel)))
local macro_rules | `(tactic| walk_at "od") => `(tactic| first
 |with_reducible exact qS
 |with_reducible exact eO1
 |with_reducible exact uN
 |with_reducible exact Hh
 |with_reducible exact OR
 |with_reducible exact tZ
 |with_reducible exact Vx
 |with_reducible exact CW
 |with_reducible exact Gz
 |with_reducible exact Dv
 |with_reducible exact mV
 |with_reducible exact Lp
 |((with_reducible refine eV ?_);exact U4.units (by assumption))
 |((with_reducible refine Kq ?_);exact U4.units (by assumption))
 |((with_reducible refine HL ?_);exact U4.units (by assumption))
 |((with_reducible refine Hk ?_);exact U4.units (by assumption))
 |((with_reducible refine KW ?_);exact U4.units (by assumption)))
local macro_rules | `(tactic| walk_at "bd") => `(tactic| first
 |with_reducible exact MW
 |with_reducible exact FR
 |with_reducible exact EZ
 |with_reducible exact Dz
 |with_reducible exact GY
 |with_reducible exact GR
 |with_reducible exact Wv
 |with_reducible exact HX
 |with_reducible exact bY
 |with_reducible exact BR)
local macro_rules | `(tactic| walk_at "da") => `(tactic| first
 |with_reducible exact tI
 |((with_reducible refine FX ?_ ?_ ?_);walk_at "de";walk_at "da";rfl))
local macro_rules | `(tactic| walk_at "do") => `(tactic| first
 |with_reducible exact Vj
 |((with_reducible refine OT ?_);walk_at "de"))
local macro_rules | `(tactic| walk_at "pk") => `(tactic| first | exact Fx | ((apply fT); walk_at "pk"; walk_at "pk"; (unfold cA; decide); rfl) | ((apply Pp); walk_at "pk"; walk_at "pk"; rfl))
local macro_rules | `(tactic| walk_at "de") => `(tactic| first
 |with_reducible exact Mf
 |with_reducible exact Rh
 |with_reducible exact Rq
 |with_reducible exact HZ
 |((with_reducible refine Lg _ ?_ ?_ ?_ ?_);rfl;(first|exact Or.inl rfl|exact Or.inr (Or.inl rfl)|exact Or.inr (Or.inr rfl));decide;decide)
 |((with_reducible refine pR ?_ ?_ ?_ ?_ ?_ ?_);assumption;decide;decide +kernel;rfl;decide;decide)
 |((with_reducible refine wW ?_ ?_ ?_);assumption;rfl;decide)
 |((with_reducible refine eS ?_ ?_ ?_);walk_at "od";walk_at "de";walk_at "de")
 |((with_reducible refine nW wd ?_);walk_at "de")
 |((with_reducible refine Qv ?_);walk_at "de")
 |((with_reducible refine ER ?_ ?_ ?_ ?_);walk_at "od";walk_at "de";walk_at "de";with_unfolding_all rfl)
 |((with_reducible refine US ?_ ?_ ?_ ?_ ?_ ?_);walk_at "od";walk_at "od";walk_at "de";walk_at "de";walk_at "de";with_unfolding_all rfl)
 |((with_reducible refine lZ ?_);walk_at "de")
 |((with_reducible refine wg ?_ ?_);walk_at "de";walk_at "de")
 |((with_reducible refine qT ?_ ?_);walk_at "de";walk_at "de")
 |((with_reducible refine RY ?_ ?_ ?_);walk_at "dt";walk_at "de";walk_at "de")
 |((with_reducible refine vh ?_);walk_at "da")
 |((with_reducible refine iU ?_);walk_at "da")
 |with_reducible exact vV
 |((with_reducible refine dD5 ?_ ?_ ?_);walk_at "de";walk_at "do";walk_at "do")
 |((with_reducible refine km ?_ ?_ ?_ ?_);walk_at "de";walk_at "do";walk_at "do";walk_at "do")
 |((with_reducible refine qW ?_ ?_ ?_);walk_at "de";walk_at "de";exact λ_ _=>rfl)
 |((with_reducible refine eL2 ?_ ?_ ?_);walk_at "de";walk_at "de";exact λ_ _=>rfl)
 |((with_reducible refine Gj ?_ ?_ ?_ ?_ ?_ ?_);walk_at "de";rfl;assumption;rfl;rfl;rfl)
 |((with_reducible refine LZ ?_ ?_ ?_ ?_ ?_);walk_at "cl";rfl;walk_at "da";decide;rfl)
 |((with_reducible refine Nd ?_ ?_ ?_);walk_at "cl";rfl;decide)
 |((with_reducible refine Px ?_ ?_ ?_ ?_ ?_ ?_);rfl;assumption;rfl;walk_at "de";rfl;rfl)
 |((with_reducible refine dP8 ?_ ?_ ?_ ?_ ?_ ?_ ?_ ?_);rfl;walk_at "cl";assumption;rfl;rfl;walk_at "de";rfl;decide)
 |((with_reducible refine Hb ?_ ?_ ?_ ?_ ?_ ?_ ?_ ?_);rfl;walk_at "cl";assumption;rfl;rfl;walk_at "de";rfl;decide)
 |((with_reducible refine Lk ?_ ?_ ?_ ?_ ?_ ?_ ?_ ?_ ?_);rfl;walk_at "bd";assumption;decide +kernel;rfl;walk_at "da";decide;decide;rfl)
 |((with_reducible refine EN Jq PySem.F.type_list_append Mz ?_ ?_ ?_ ?_ ?_ ?_ ?_);walk_at "de";walk_at "da";rfl;rfl;rfl;exact B5 rfl;rfl)
 |((with_reducible refine EN Jp PySem.F.type_list_extend qq ?_ ?_ ?_ ?_ ?_ ?_ ?_);walk_at "de";walk_at "da";rfl;rfl;rfl;exact B5 rfl;rfl)
 |((with_reducible refine aK PySem.F.slot_str_join PySem.F.type_str_join rW ?_ ?_ ?_ ?_ ?_ ?_ ?_);walk_at "de";walk_at "da";rfl;rfl;rfl;exact B5 rfl;rfl)
 |((with_reducible refine aK JF PySem.F.type_str_rstrip cV ?_ ?_ ?_ ?_ ?_ ?_ ?_);walk_at "de";walk_at "da";rfl;rfl;rfl;exact B5 rfl;rfl)
 |((with_reducible refine aK JT PySem.F.type_str_index FU ?_ ?_ ?_ ?_ ?_ ?_ ?_);walk_at "de";walk_at "da";rfl;rfl;rfl;exact B5 rfl;rfl)
 |((with_reducible refine dX PySem.F.slot_list_pop PySem.F.type_list_pop gT ?_ ?_ ?_);walk_at "de";rfl;rfl)
 |((with_reducible refine Wh ?_ ?_ ?_ ?_ ?_ ?_ ?_ ?_);rfl;walk_at "di";walk_at "ck";decide +kernel;(intro _ _ _ _ _;walk_at "dg");(intro _ _ _ _;walk_at "dts");(intro _ _ _ _;walk_at "de");exact λ_=>rfl))
local macro_rules | `(tactic| walk_at "dt") => `(tactic| first
 |((with_reducible refine DW.dt ?_);walk_at "dw")
 |((with_reducible refine KZ ?_);walk_at "dt")
 |((with_reducible refine Ww ?_ ?_ ?_ ?_);walk_at "od";walk_at "de";walk_at "de";with_unfolding_all rfl)
 |((with_reducible refine dU1 ?_ ?_ ?_ ?_ ?_ ?_);walk_at "od";walk_at "od";walk_at "de";walk_at "de";walk_at "de";with_unfolding_all rfl)
 |((with_reducible refine dY ?_ ?_);walk_at "de";exact λ_=>rfl))
local macro_rules | `(tactic| walk_at "dw") => `(tactic| first
 |((with_reducible refine Sb ?_);walk_at "dt")
 |((with_reducible refine Vd ?_);walk_at "dt")
 |((with_reducible refine DX ?_ ?_);walk_at "dt";walk_at "dw")
 |((with_reducible refine Cz ?_ ?_);walk_at "dt";walk_at "dw"))
local macro_rules | `(tactic| walk_at "dts") => `(tactic| first
 |with_reducible exact uV
 |((with_reducible refine Nh ?_);walk_at "dt"))
local macro_rules | `(tactic| walk_at "di") => `(tactic| first
 |((with_reducible refine fB3 ?_ ?_ ?_ ?_);assumption;rfl;walk_at "da";rfl)
 |((with_reducible refine vc ?_ ?_ ?_ ?_ ?_);assumption;rfl;walk_at "da";rfl;rfl)
 |((with_reducible refine cW ?_);walk_at "de"))
local macro_rules | `(tactic| walk_at "dg") => `(tactic| first
 |((with_reducible refine Dq ?_ ?_ ?_ ?_);exact⟨_,_,_, ‹x5 _ _ _›,rfl⟩;rfl;(first|exact Or.inl rfl|exact Or.inr rfl);(first|exact .inl rfl|exact .inr rfl))
 |((with_reducible refine pO ?_ ?_ ?_ ?_);assumption;rfl;(first|exact Or.inl rfl|exact Or.inr rfl);(first|exact .inl rfl|exact .inr rfl))
 |((with_reducible refine cS ?_ ?_ ?_ ?_);rfl;walk_at "dgs";rfl;rfl)
 |((with_reducible refine Lf ?_ ?_ ?_ ?_);exact U4.units (by assumption);walk_at "de";walk_at "de";exact λ_=>rfl))
local macro_rules | `(tactic| walk_at "dgs") => `(tactic| first
 |with_reducible exact mR
 |((with_reducible refine EV ?_ ?_ ?_);walk_at "dg";walk_at "dgs";rfl))
local macro_rules | `(tactic| walk_at "ds") => `(tactic| first
 |((with_reducible refine gZ ?_);walk_at "de")
 |((with_reducible refine CV ?_ ?_ ?_);walk_at "dt";walk_at "db";walk_at "db")
 |((with_reducible refine rS ?_ ?_ ?_ ?_ ?_ ?_ ?_ ?_ ?_ ?_);rfl;walk_at "di";walk_at "ck";decide +kernel;(intro _ _ _ _ _;walk_at "dg");(intro _ _ _ _;walk_at "dts");(intro _ _ _ _;walk_at "de");(exact λ_=>rfl);walk_at "dg";rfl)
 |((with_reducible refine Qf ?_ ?_ ?_ ?_ ?_);walk_at "de";walk_at "dg";rfl;rfl;rfl)
 |((with_reducible refine Kc ?_ ?_);walk_at "de";rfl)
 |((with_reducible refine aV ?_ ?_ ?_ ?_ ?_ ?_);exact JE;rfl;walk_at "di";walk_at "dg";walk_at "db";exact λ_=>rfl)
 |((with_reducible refine KU ?_ ?_ ?_);exact JE;walk_at "dt";walk_at "db"))
local macro_rules | `(tactic| walk_at "db") => `(tactic| first
 |with_reducible exact eO3
 |((with_reducible refine fM ?_);walk_at "ds")
 |((with_reducible refine UK ?_ ?_);walk_at "ds";walk_at "db"))
local macro_rules | `(tactic| walk_at "db0") => `(tactic| first
 |(refine fM ?_;walk_at "ds")
 |(refine UK ?_ ?_;walk_at "ds";walk_at "db"))
set_option maxHeartbeats 2000000
local macro_rules | `(tactic| walk_at "sc") => `(tactic| exact ⟨rfl, rfl, rfl, by decide +kernel, rfl, by decide +kernel, by decide +kernel⟩)
local macro_rules | `(tactic| walk_at "ba") => `(tactic| (intro _ _ _ _ _ _ us h; (repeat (have q := BZ h; clear h; obtain ⟨_, _, e, h⟩ := q; subst e)); cases List.eq_nil_of_length_eq_zero h; rfl))
abbrev RQ:D:=.str ("any" :Str)
abbrev AN:D:=.tup [.tup [.tup [.non,.non]],.tup [.str ("but" :Str),.tup []],.tup [.bl false,.bl true],.tup [.tup [],.str ("any" :Str)],.tup [.tup [],.str ("any" :Str)]]
abbrev eO:D:=.str ("abcdefghijklmnopqrstuvwxyz" :Str)
structure BC(K:zh)(mg:Str->Option zj):Prop where
 b:BLs mg
 c_ANY:FD K mg "ANY" RQ
 c_ALL_PARTS:FD K mg "ALL_PARTS" AN
 c_LETTERS:FD K mg "LETTERS" eO
local macro_rules | `(tactic| walk_at "s1") => `(tactic| (walk_at "sc"; walk_at "ba"; (intro _ _ _ _ _ _ _ _ _; obtain ⟨_, _, _, _⟩ := (‹_› : BC _ _); skip)))
def top(i:Nat):Stmt:=PySem.Challenge.pw_allmeet_k32_whole_first_values.main.body.getD i (.Pass ⟨0,0,0,0⟩)
section
variable{E:Ev}(zx:EvX E)(zb:BC E.K E.mg)
include zx zb
theorem bR8(Y:FH E.K "_law_mixed" (top 26)):Ck E IC 2 "_law_mixed" 1:=by
 refine Q3 ["cell", "k", "number"] ["cell", "k"] zx Y ?_ ?_ rfl rfl ?_;walk_at "s1";unfold mI;walk_at "db0"
variable(k0:Ck E IC 2 "_law_mixed" 1)
include k0 in
theorem gY(Y:FH E.K "_law_purse" (top 27)):Ck E S7 4 "_law_purse" 2:=by
 refine Q3 ["script", "at", "step", "many", "cells", "rests", "purse", "k", "place"] ["script", "at", "step", "many"] zx Y ?_ ?_ rfl rfl ?_;walk_at "s1";unfold eI;unfold PT PR PB;walk_at "db0"
variable(k1:Ck E S7 4 "_law_purse" 2)
theorem Lz(Y:FH E.K "_law_none" (top 36)):Ck E J5 0 "_law_none" 1:=by
 refine Q3 [] [] zx Y ?_ ?_ rfl rfl ?_;walk_at "s1";unfold UP;walk_at "db0"
variable(k2:Ck E J5 0 "_law_none" 1)
theorem KS(Y:FH E.K "_law_next" (top 28)):Ck E u6 1 "_law_next" 1:=by
 refine Q3 ["purse"] ["purse"] zx Y ?_ ?_ rfl rfl ?_;walk_at "s1";unfold fJ;walk_at "db0"
variable(k3:Ck E u6 1 "_law_next" 1)
include k3 in
theorem cJ7(Y:FH E.K "_law_few" (top 29)):Ck E T9 1 "_law_few" 2:=by
 refine Q3 ["purse", "number"] ["purse"] zx Y ?_ ?_ rfl rfl ?_;walk_at "s1";unfold qK;walk_at "db0"
variable(k4:Ck E T9 1 "_law_few" 2)
include k3 in
theorem GS(Y:FH E.K "_law_word" (top 32)):Ck E vD 1 "_law_word" 2:=by
 refine Q3 ["purse", "number"] ["purse"] zx Y ?_ ?_ rfl rfl ?_;walk_at "s1";unfold tJ;walk_at "db0"
variable(k5:Ck E vD 1 "_law_word" 2)
theorem Lc(Y:FH E.K "_law_rank" (top 33)):Ck E O9 1 "_law_rank" 1:=by
 refine Q3 ["word"] ["word"] zx Y ?_ ?_ rfl rfl ?_;walk_at "s1";unfold kK;walk_at "db0"
variable(k6:Ck E O9 1 "_law_rank" 1)
include k4 k5 k6 in
theorem Vk(Y:FH E.K "_law_words" (top 34)):Ck E wB 1 "_law_words" 4:=by
 refine Q3 ["purse", "words", "k", "word"] ["purse"] zx Y ?_ ?_ rfl rfl ?_;walk_at "s1";unfold EF;unfold WB;walk_at "db0"
variable(k7:Ck E wB 1 "_law_words" 4)
include k7 in
theorem AY(Y:FH E.K "_law_names" (top 35)):Ck E dC 1 "_law_names" 5:=by
 refine Q3 ["purse"] ["purse"] zx Y ?_ ?_ rfl rfl ?_;walk_at "s1";unfold HF;walk_at "db0"
variable(k8:Ck E dC 1 "_law_names" 5)
include k3 in
theorem UR(Y:FH E.K "_law_size" (top 30)):Ck E V4 1 "_law_size" 2:=by
 refine Q3 ["purse", "number"] ["purse"] zx Y ?_ ?_ rfl rfl ?_;walk_at "s1";unfold PH;walk_at "db0"
variable(k9:Ck E V4 1 "_law_size" 2)
include k3 k4 k9 in
theorem Wq(Y:FH E.K "_law_stretches" (top 31)):Ck E U6 1 "_law_stretches" 3:=by
 refine Q3 ["purse", "found", "at", "k", "low", "ends"] ["purse"] zx Y ?_ ?_ rfl rfl ?_;walk_at "s1";unfold KG;unfold SB SC2 SC1;walk_at "db0"
variable(k10:Ck E U6 1 "_law_stretches" 3)
theorem qb(Y:FH E.K "_law_every" (top 37)):Ck E GB 0 "_law_every" 1:=by
 refine Q3 [] [] zx Y ?_ ?_ rfl rfl ?_;walk_at "s1";unfold iQ;walk_at "db0"
variable(k11:Ck E GB 0 "_law_every" 1)
include k2 in
theorem BN{R:List D->M D}{lv:Nat}(kR:Ck E R 2 "_law_set" lv)(h2:5<=lv)(Y:FH E.K "_law_more" (top 38)):Ck E (V7 R) 3 "_law_more" (lv+1):=by
 refine Q3 ["purse", "pick", "deep"] ["purse", "pick", "deep"] zx Y ?_ ?_ rfl rfl ?_;walk_at "s1";unfold kG;walk_at "db0"
include k2 k3 k4 in
theorem nL{R:List D->M D}{lv:Nat}(kR:Ck E R 2 "_law_set" lv)(h13:Ck E (V7 R) 3 "_law_more" (lv+1))(h2:5<=lv)(Y:FH E.K "_law_lists" (top 39)):Ck E (uB R) 2 "_law_lists" (lv+2):=by
 refine Q3 ["purse", "deep", "pick", "more", "fronts"] ["purse", "deep"] zx Y ?_ ?_ rfl rfl ?_;walk_at "s1";unfold TF;walk_at "db0"
include k2 k3 k8 in
theorem RN{R:List D->M D}{lv:Nat}(kR:Ck E R 2 "_law_set" lv)(h13:Ck E (V7 R) 3 "_law_more" (lv+1))(h2:5<=lv)(Y:FH E.K "_law_records" (top 40)):Ck E (U7 R) 2 "_law_records" (lv+2):=by
 refine Q3 ["purse", "deep", "pick", "more", "fields", "name", "inner", "must"] ["purse", "deep"] zx Y ?_ ?_ rfl rfl ?_;walk_at "s1";unfold RG;unfold RB;walk_at "db0"
include k2 k3 k7 k10 k11 in
theorem Vq{R:List D->M D}{lv:Nat}(kR:Ck E R 2 "_law_set" lv)(h14:Ck E (uB R) 2 "_law_lists" (lv+2))(h15:Ck E (U7 R) 2 "_law_records" (lv+2))(h2:5<=lv)(Y:FH E.K "_law_set" (top 41)):Ck E (J3 7 (qD R)) 2 "_law_set" (lv+3):=by
 refine Q3 ["purse", "deep", "pick", "parts", "at", "share", "other"] ["purse", "deep"] zx Y ?_ ?_ rfl rfl ?_;walk_at "s1";unfold qD;unfold I5;walk_at "db0"
section
variable(Y:FH E.K "_law_set" (top 41))(Y13:FH E.K "_law_more" (top 38))(Y14:FH E.K "_law_lists" (top 39))(Y15:FH E.K "_law_records" (top 40))
include Y Y13 Y14 Y15 k2 k3 k4 k7 k8 k10 k11
theorem eQ:∀n,Ck E (fA n) 2 "_law_set" (5+3*n)
 |0=>UA ["purse", "deep"] zx Y (by walk_at "ba") rfl
 |n+1=>by
   have kR:=eQ n
   have h13:=BN zx zb k2 kR (zU _ _) Y13
   have h14:=nL zx zb k2 k3 k4 kR h13 (zU _ _) Y14
   have h15:=RN zx zb k2 k3 k8 kR h13 (zU _ _) Y15
   exact Vq zx zb k2 k3 k7 k10 k11 kR h14 h15 (zU _ _) Y
end
include k2 k3 k4 k7 k8 k10 k11 in
theorem NS(Y:FH E.K "_law_set" (top 41))(Y13:FH E.K "_law_more" (top 38))(Y14:FH E.K "_law_lists" (top 39))(Y15:FH E.K "_law_records" (top 40)):Ck E KA 2 "_law_set" 185:=eQ zx zb k2 k3 k4 k7 k8 k10 k11 Y Y13 Y14 Y15 60
variable(k12:Ck E KA 2 "_law_set" 185)
include k2 k12 in
theorem AX(Y:FH E.K "_law_more" (top 38)):Ck E RO 3 "_law_more" 186:=BN zx zb k2 k12 (by decide) Y
variable(k13:Ck E RO 3 "_law_more" 186)
include k2 k3 k4 k12 k13 in
theorem Wj(Y:FH E.K "_law_lists" (top 39)):Ck E bI 2 "_law_lists" 187:=nL zx zb k2 k3 k4 k12 k13 (by decide) Y
variable(k14:Ck E bI 2 "_law_lists" 187)
include k2 k3 k8 k12 k13 in
theorem Nv(Y:FH E.K "_law_records" (top 40)):Ck E iI 2 "_law_records" 187:=RN zx zb k2 k3 k8 k12 k13 (by decide) Y
variable(k15:Ck E iI 2 "_law_records" 187)
theorem HV(Y:FH E.K "parts_of" (top 14)):Ck E lF 1 "parts_of" 1:=by
 refine Q3 ["some"] ["some"] zx Y ?_ ?_ rfl rfl ?_;walk_at "s1";unfold EO;walk_at "db0"
variable(k16:Ck E lF 1 "parts_of" 1)
theorem nY(Y:FH E.K "number_order" (top 10)):Ck E K7 1 "number_order" 1:=by
 refine Q3 ["number"] ["number"] zx Y ?_ ?_ rfl rfl ?_;walk_at "s1";unfold dP;walk_at "db0"
variable(k17:Ck E K7 1 "number_order" 1)
theorem nZ(Y:FH E.K "nearest" (top 20)):Ck E iE 2 "nearest" 1:=by
 refine Q3 ["low", "high"] ["low", "high"] zx Y ?_ ?_ rfl rfl ?_;walk_at "s1";unfold AF;walk_at "db0"
variable(k18:Ck E iE 2 "nearest" 1)
include k17 k18 in
theorem Nf(Y:FH E.K "first_number" (top 19)):Ck E oF 1 "first_number" 4:=by
 refine Q3 ["numbers"] ["numbers"] zx Y ?_ ?_ rfl rfl ?_;walk_at "s1";unfold aF;walk_at "db0"
variable(k19:Ck E oF 1 "first_number" 4)
theorem cY(Y:FH E.K "text_behind" (top 22)):Ck E FE 1 "text_behind" 1:=by
 refine Q3 ["text", "stem", "letter"] ["text"] zx Y ?_ ?_ rfl rfl ?_;walk_at "s1";unfold vG;walk_at "db0"
variable(k20:Ck E FE 1 "text_behind" 1)
include k20 in
theorem vR(Y:FH E.K "first_text" (top 21)):Ck E cG 1 "first_text" 2:=by
 refine Q3 ["texts", "first", "text"] ["texts"] zx Y ?_ ?_ rfl rfl ?_;walk_at "s1";unfold bF;unfold FT;walk_at "db0"
variable(k21:Ck E cG 1 "first_text" 2)
theorem cC4(Y:FH E.K "record_of" (top 17)):Ck E MF 1 "record_of" 1:=by
 refine Q3 ["fields"] ["fields"] zx Y ?_ ?_ rfl rfl ?_;walk_at "s1";unfold KF;walk_at "db0"
variable(k22:Ck E MF 1 "record_of" 1)
theorem NM{R:List D->M D}{lv:Nat}(kR:Ck E R 1 "first_value" lv)(h2:4<=lv)(Y:FH E.K "first_values" (top 23)):Ck E (mD R) 1 "first_values" (lv+1):=by
 refine Q3 ["fronts"] ["fronts"] zx Y ?_ ?_ rfl rfl ?_;walk_at "s1";unfold vF;walk_at "db0"
theorem sN{R:List D->M D}{lv:Nat}(kR:Ck E R 1 "first_value" lv)(h2:4<=lv)(Y:FH E.K "least_fields" (top 24)):Ck E (Z8 R) 1 "least_fields" (lv+1):=by
 refine Q3 ["records"] ["records"] zx Y ?_ ?_ rfl rfl ?_;walk_at "s1";unfold tE;walk_at "db0"
include k16 k19 k21 k22 in
theorem BV{R:List D->M D}{lv:Nat}(kR:Ck E R 1 "first_value" lv)(h24:Ck E (mD R) 1 "first_values" (lv+1))(h25:Ck E (Z8 R) 1 "least_fields" (lv+1))(h2:4<=lv)(Y:FH E.K "first_value" (top 18)):Ck E (J3 2 (U3 R)) 1 "first_value" (lv+2):=by
 refine Q3 ["some", "parts"] ["some"] zx Y ?_ ?_ rfl rfl ?_;walk_at "s1";unfold U3;walk_at "db0"
section
variable(Y:FH E.K "first_value" (top 18))(Y24:FH E.K "first_values" (top 23))(Y25:FH E.K "least_fields" (top 24))
include Y Y24 Y25 k16 k19 k21 k22
theorem oP:∀n,Ck E (T5 n) 1 "first_value" (4+2*n)
 |0=>UA ["some"] zx Y (by walk_at "ba") rfl
 |n+1=>by
   have kR:=oP n
   have h24:=NM zx zb kR (zU _ _) Y24
   have h25:=sN zx zb kR (zU _ _) Y25
   exact BV zx zb k16 k19 k21 k22 kR h24 h25 (zU _ _) Y
end
include k16 k19 k21 k22 in
theorem sR(Y:FH E.K "first_value" (top 18))(Y24:FH E.K "first_values" (top 23))(Y25:FH E.K "least_fields" (top 24)):Ck E X6 1 "first_value" 124:=oP zx zb k16 k19 k21 k22 Y Y24 Y25 60
variable(k23:Ck E X6 1 "first_value" 124)
include k23 in
theorem Hz(Y:FH E.K "first_values" (top 23)):Ck E cL 1 "first_values" 125:=NM zx zb k23 (by decide) Y
variable(k24:Ck E cL 1 "first_values" 125)
include k23 in
theorem Wb(Y:FH E.K "least_fields" (top 24)):Ck E sP 1 "least_fields" 125:=sN zx zb k23 (by decide) Y
variable(k25:Ck E sP 1 "least_fields" 125)
include k3 k4 k5 k8 in
theorem OU{R:List D->M D}{lv kk:Nat}(kR:Ck E R 2 "_law_value" lv)(h1:lv<=kk)(h2:5<=kk)(Y:FH E.K "_law_value" (top 46)):Ck E (J3 4 (UC R)) 2 "_law_value" (kk+1):=by
 refine Q3 ["purse", "deep", "pick", "way"] ["purse", "deep"] zx Y ?_ ?_ rfl rfl ?_;walk_at "s1";unfold UC;walk_at "db0"
section
variable(Y:FH E.K "_law_value" (top 46))
include Y k3 k4 k5 k8
theorem UO:∀n,Ck E (AC n) 2 "_law_value" (5+n)
 |0=>UA ["purse", "deep"] zx Y (by walk_at "ba") rfl
 |n+1=>OU zx zb k3 k4 k5 k8 (UO n) (zo _) (zU _ _) Y
end
include k3 k4 k5 k8 in
theorem Nw(Y:FH E.K "_law_value" (top 46)):Ck E Q8 2 "_law_value" 65:=UO zx zb k3 k4 k5 k8 Y 60
variable(k26:Ck E Q8 2 "_law_value" 65)
theorem BU(Y:FH E.K "_law_number_in" (top 47)):Ck E OG 2 "_law_number_in" 1:=by
 refine Q3 ["stretches", "number", "low", "high", "step"] ["stretches", "number"] zx Y ?_ ?_ rfl rfl ?_;walk_at "s1";unfold fG;walk_at "db0"
variable(k27:Ck E OG 2 "_law_number_in" 1)
theorem VV(Y:FH E.K "_law_word_in" (top 48)):Ck E aH 2 "_law_word_in" 1:=by
 refine Q3 ["texts", "number", "word"] ["texts", "number"] zx Y ?_ ?_ rfl rfl ?_;walk_at "s1";unfold tG;walk_at "db0"
variable(k28:Ck E aH 2 "_law_word_in" 1)
include k2 k3 in
theorem MO{R:List D->M D}{lv:Nat}(kR:Ck E R 2 "_law_value_in" lv)(h2:65<=lv)(Y:FH E.K "_law_list_in" (top 49)):Ck E (Z9 R) 2 "_law_list_in" (lv+1):=by
 refine Q3 ["purse", "part", "values"] ["purse", "part"] zx Y ?_ ?_ rfl rfl ?_;walk_at "s1";unfold gF;walk_at "db0"
include k2 k3 in
theorem KP{R:List D->M D}{lv:Nat}(kR:Ck E R 2 "_law_value_in" lv)(h2:65<=lv)(Y:FH E.K "_law_record_in" (top 50)):Ck E (U9 R) 2 "_law_record_in" (lv+1):=by
 refine Q3 ["purse", "part", "pairs", "name", "field"] ["purse", "part"] zx Y ?_ ?_ rfl rfl ?_;walk_at "s1";unfold SG;unfold RF RL;walk_at "db0"
include k2 k3 k26 k27 k28 in
theorem bB5{R:List D->M D}{lv:Nat}(kR:Ck E R 2 "_law_value_in" lv)(h30:Ck E (Z9 R) 2 "_law_list_in" (lv+1))(h31:Ck E (U9 R) 2 "_law_record_in" (lv+1))(h2:65<=lv)(Y:FH E.K "_law_value_in" (top 51)):Ck E (J3 6 (Q5 R)) 2 "_law_value_in" (lv+2):=by
 refine Q3 ["purse", "some", "none", "ways", "pick", "way"] ["purse", "some"] zx Y ?_ ?_ rfl rfl ?_;walk_at "s1";unfold Q5;walk_at "db0"
section
variable(Y:FH E.K "_law_value_in" (top 51))(Y30:FH E.K "_law_list_in" (top 49))(Y31:FH E.K "_law_record_in" (top 50))
include Y Y30 Y31 k2 k3 k26 k27 k28
theorem iL:∀n,Ck E (Q4 n) 2 "_law_value_in" (65+2*n)
 |0=>UA ["purse", "some"] zx Y (by walk_at "ba") rfl
 |n+1=>by
   have kR:=iL n
   have h30:=MO zx zb k2 k3 kR (zU _ _) Y30
   have h31:=KP zx zb k2 k3 kR (zU _ _) Y31
   exact bB5 zx zb k2 k3 k26 k27 k28 kR h30 h31 (zU _ _) Y
end
include k2 k3 k26 k27 k28 in
theorem rT(Y:FH E.K "_law_value_in" (top 51))(Y30:FH E.K "_law_list_in" (top 49))(Y31:FH E.K "_law_record_in" (top 50)):Ck E X5 2 "_law_value_in" 185:=iL zx zb k2 k3 k26 k27 k28 Y Y30 Y31 60
variable(k29:Ck E X5 2 "_law_value_in" 185)
include k2 k3 k29 in
theorem VT(Y:FH E.K "_law_list_in" (top 49)):Ck E oM 2 "_law_list_in" 186:=MO zx zb k2 k3 k29 (by decide) Y
variable(k30:Ck E oM 2 "_law_list_in" 186)
include k2 k3 k29 in
theorem QV(Y:FH E.K "_law_record_in" (top 50)):Ck E rQ 2 "_law_record_in" 186:=KP zx zb k2 k3 k29 (by decide) Y
variable(k31:Ck E rQ 2 "_law_record_in" 186)
include k26 in
theorem GM{R:List D->M D}{lv:Nat}(kR:Ck E R 2 "_law_turned" lv)(h2:65<=lv)(Y:FH E.K "_law_turned_list" (top 55)):Ck E (R7 R) 3 "_law_turned_list" (lv+1):=by
 refine Q3 ["purse", "values", "pick", "at"] ["purse", "values", "pick"] zx Y ?_ ?_ rfl rfl ?_;walk_at "s1";unfold W6;walk_at "db0"
include k26 in
theorem GP{R:List D->M D}{lv:Nat}(kR:Ck E R 2 "_law_turned" lv)(h2:65<=lv)(Y:FH E.K "_law_turned_record" (top 56)):Ck E (P0 R) 3 "_law_turned_record" (lv+1):=by
 refine Q3 ["purse", "pairs", "pick", "at", "pair"] ["purse", "pairs", "pick"] zx Y ?_ ?_ rfl rfl ?_;walk_at "s1";unfold S9;walk_at "db0"
include k3 k26 in
theorem HS{R:List D->M D}{lv:Nat}(kR:Ck E R 2 "_law_turned" lv)(h33:Ck E (R7 R) 3 "_law_turned_list" (lv+1))(h34:Ck E (P0 R) 3 "_law_turned_record" (lv+1))(h2:65<=lv)(Y:FH E.K "_law_turned" (top 57)):Ck E (J3 3 (wD R)) 2 "_law_turned" (lv+2):=by
 refine Q3 ["purse", "value", "pick"] ["purse", "value"] zx Y ?_ ?_ rfl rfl ?_;walk_at "s1";unfold wD;walk_at "db0"
section
variable(Y:FH E.K "_law_turned" (top 57))(Y33:FH E.K "_law_turned_list" (top 55))(Y34:FH E.K "_law_turned_record" (top 56))
include Y Y33 Y34 k3 k26
theorem BP:∀n,Ck E (aE n) 2 "_law_turned" (65+2*n)
 |0=>UA ["purse", "value"] zx Y (by walk_at "ba") rfl
 |n+1=>by
   have kR:=BP n
   have h33:=GM zx zb k26 kR (zU _ _) Y33
   have h34:=GP zx zb k26 kR (zU _ _) Y34
   exact HS zx zb k3 k26 kR h33 h34 (zU _ _) Y
end
include k3 k26 in
theorem GU(Y:FH E.K "_law_turned" (top 57))(Y33:FH E.K "_law_turned_list" (top 55))(Y34:FH E.K "_law_turned_record" (top 56)):Ck E X7 2 "_law_turned" 185:=BP zx zb k3 k26 Y Y33 Y34 60
variable(k32:Ck E X7 2 "_law_turned" 185)
include k26 k32 in
theorem TW(Y:FH E.K "_law_turned_list" (top 55)):Ck E DQ 3 "_law_turned_list" 186:=GM zx zb k26 k32 (by decide) Y
variable(k33:Ck E DQ 3 "_law_turned_list" 186)
include k26 k32 in
theorem aT8(Y:FH E.K "_law_turned_record" (top 56)):Ck E SL 3 "_law_turned_record" 186:=GP zx zb k26 k32 (by decide) Y
variable(k34:Ck E SL 3 "_law_turned_record" 186)
include k29 k32 in
theorem Vh(Y:FH E.K "_law_near" (top 58)):Ck E uD 2 "_law_near" 186:=by
 refine Q3 ["purse", "some", "found", "k", "value"] ["purse", "some"] zx Y ?_ ?_ rfl rfl ?_;walk_at "s1";unfold WF;unfold NB;walk_at "db0"
variable(k35:Ck E uD 2 "_law_near" 186)
theorem Sz(Y:FH E.K "is_tagged" (top 3)):Ck E GF 2 "is_tagged" 1:=by
 refine Q3 ["thing", "word"] ["thing", "word"] zx Y ?_ ?_ rfl rfl ?_;walk_at "s1";unfold GN;walk_at "db0"
variable(k36:Ck E GF 2 "is_tagged" 1)
theorem cR6(Y:FH E.K "is_text" (top 1)):Ck E PD 1 "is_text" 1:=by
 refine Q3 ["thing"] ["thing"] zx Y ?_ ?_ rfl rfl ?_;walk_at "s1";unfold iF;walk_at "db0"
variable(k37:Ck E PD 1 "is_text" 1)
theorem dC5(Y:FH E.K "rising" (top 5)):Ck E pG 1 "rising" 1:=by
 refine Q3 ["keys"] ["keys"] zx Y ?_ ?_ rfl rfl ?_;walk_at "s1";unfold dF;walk_at "db0"
variable(k38:Ck E pG 1 "rising" 1)
theorem Sj(Y:FH E.K "names_of" (top 6)):Ck E oG 1 "names_of" 1:=by
 refine Q3 ["pairs"] ["pairs"] zx Y ?_ ?_ rfl rfl ?_;walk_at "s1";unfold qF;walk_at "db0"
variable(k39:Ck E oG 1 "names_of" 1)
include k37 in
theorem RS(Y:FH E.K "is_name" (top 2)):Ck E UE 1 "is_name" 2:=by
 refine Q3 ["thing"] ["thing"] zx Y ?_ ?_ rfl rfl ?_;walk_at "s1";unfold wF;walk_at "db0"
variable(k40:Ck E UE 1 "is_name" 2)
include k40 in
theorem MR(Y:FH E.K "is_pair" (top 4)):Ck E MC 1 "is_pair" 3:=by
 refine Q3 ["thing"] ["thing"] zx Y ?_ ?_ rfl rfl ?_;walk_at "s1";unfold lG;walk_at "db0"
variable(k41:Ck E MC 1 "is_pair" 3)
include k36 k37 k38 k39 k41 in
theorem Wf(Y:FH E.K "has_form" (top 7)):Ck E HG 1 "has_form" 4:=by
 refine Q3 ["thing"] ["thing"] zx Y ?_ ?_ rfl rfl ?_;walk_at "s1";unfold HB;walk_at "db0"
variable(k42:Ck E HG 1 "has_form" 4)
theorem cX(Y:FH E.K "inner_values" (top 8)):Ck E AG 1 "inner_values" 1:=by
 refine Q3 ["thing"] ["thing"] zx Y ?_ ?_ rfl rfl ?_;walk_at "s1";unfold VF;walk_at "db0"
variable(k43:Ck E AG 1 "inner_values" 1)
include k42 k43 in
theorem Mm(Y:FH E.K "is_value" (top 9)):Ck E ND 1 "is_value" 5:=by
 refine Q3 ["thing", "waiting", "some"] ["thing"] zx Y ?_ ?_ rfl rfl ?_;walk_at "s1";unfold UF;unfold VL;walk_at "db0"
variable(k44:Ck E ND 1 "is_value" 5)
theorem Th(Y:FH E.K "_law_inner" (top 42)):Ck E rF 2 "_law_inner" 1:=by
 refine Q3 ["part", "name", "field"] ["part", "name"] zx Y ?_ ?_ rfl rfl ?_;walk_at "s1";unfold wK;unfold IB;walk_at "db0"
variable(k45:Ck E rF 2 "_law_inner" 1)
theorem CP{R:List D->M D}{lv:Nat}(kR:Ck E R 2 "_law_in" lv)(h2:1<=lv)(Y:FH E.K "_law_in_lists" (top 43)):Ck E (W7 R) 2 "_law_in_lists" (lv+1):=by
 refine Q3 ["values", "part", "sides"] ["values", "part"] zx Y ?_ ?_ rfl rfl ?_;walk_at "s1";unfold rE;walk_at "db0"
include k45 in
theorem fL{R:List D->M D}{lv:Nat}(kR:Ck E R 2 "_law_in" lv)(h2:1<=lv)(Y:FH E.K "_law_in_records" (top 44)):Ck E (T3 R) 2 "_law_in_records" (lv+1):=by
 refine Q3 ["pairs", "part", "there"] ["pairs", "part"] zx Y ?_ ?_ rfl rfl ?_;walk_at "s1";unfold Z5;walk_at "db0"
theorem Tf{R:List D->M D}{lv:Nat}(kR:Ck E R 2 "_law_in" lv)(h47:Ck E (W7 R) 2 "_law_in_lists" (lv+1))(h48:Ck E (T3 R) 2 "_law_in_records" (lv+1))(h2:1<=lv)(Y:FH E.K "_law_in" (top 45)):Ck E (J3 2 (OC R)) 2 "_law_in" (lv+2):=by
 refine Q3 ["value", "some"] ["value", "some"] zx Y ?_ ?_ rfl rfl ?_;walk_at "s1";unfold OC;unfold NE;walk_at "db0"
section
variable(Y:FH E.K "_law_in" (top 45))(Y47:FH E.K "_law_in_lists" (top 43))(Y48:FH E.K "_law_in_records" (top 44))
include Y Y47 Y48 k45
theorem wO:∀n,Ck E (gD n) 2 "_law_in" (1+2*n)
 |0=>UA ["value", "some"] zx Y (by walk_at "ba") rfl
 |n+1=>by
   have kR:=wO n
   have h47:=CP zx zb kR (zU _ _) Y47
   have h48:=fL zx zb k45 kR (zU _ _) Y48
   exact Tf zx zb kR h47 h48 (zU _ _) Y
end
include k45 in
theorem Nc(Y:FH E.K "_law_in" (top 45))(Y47:FH E.K "_law_in_lists" (top 43))(Y48:FH E.K "_law_in_records" (top 44)):Ck E lA 2 "_law_in" 121:=wO zx zb k45 Y Y47 Y48 60
variable(k46:Ck E lA 2 "_law_in" 121)
include k46 in
theorem aW(Y:FH E.K "_law_in_lists" (top 43)):Ck E AQ 2 "_law_in_lists" 122:=CP zx zb k46 (by decide) Y
variable(k47:Ck E AQ 2 "_law_in_lists" 122)
include k45 k46 in
theorem VW(Y:FH E.K "_law_in_records" (top 44)):Ck E SM 2 "_law_in_records" 122:=fL zx zb k45 k46 (by decide) Y
variable(k48:Ck E SM 2 "_law_in_records" 122)
theorem RV(Y:FH E.K "_law_kind" (top 52)):Ck E QB 1 "_law_kind" 1:=by
 refine Q3 ["value"] ["value"] zx Y ?_ ?_ rfl rfl ?_;walk_at "s1";unfold uC;walk_at "db0"
variable(k49:Ck E QB 1 "_law_kind" 1)
include k49 in
theorem SK{R:List D->M D}{lv:Nat}(kR:Ck E R 2 "_law_ahead_of_all" lv)(h2:1<=lv)(Y:FH E.K "_law_ahead" (top 54)):Ck E (K9 R) 2 "_law_ahead" (lv+1):=by
 refine Q3 ["one", "other", "kind", "names", "others"] ["one", "other"] zx Y ?_ ?_ rfl rfl ?_;walk_at "s1";unfold uE;walk_at "db0"
theorem Wm{R:List D->M D}{lv:Nat}(kR:Ck E R 2 "_law_ahead_of_all" lv)(h51:Ck E (K9 R) 2 "_law_ahead" (lv+1))(h2:1<=lv)(Y:FH E.K "_law_ahead_of_all" (top 53)):Ck E (J3 3 (K8 R)) 2 "_law_ahead_of_all" (lv+2):=by
 refine Q3 ["ones", "others", "at"] ["ones", "others"] zx Y ?_ ?_ rfl rfl ?_;walk_at "s1";unfold K8;unfold AB;walk_at "db0"
section
variable(Y:FH E.K "_law_ahead_of_all" (top 53))(Y51:FH E.K "_law_ahead" (top 54))
include Y Y51 k49
theorem GO:∀n,Ck E (Q7 n) 2 "_law_ahead_of_all" (1+2*n)
 |0=>UA ["ones", "others"] zx Y (by walk_at "ba") rfl
 |n+1=>by
   have kR:=GO n
   have h51:=SK zx zb k49 kR (zU _ _) Y51
   exact Wm zx zb kR h51 (zU _ _) Y
end
include k49 in
theorem Mp(Y:FH E.K "_law_ahead_of_all" (top 53))(Y51:FH E.K "_law_ahead" (top 54)):Ck E RI 2 "_law_ahead_of_all" 121:=GO zx zb k49 Y Y51 60
variable(k50:Ck E RI 2 "_law_ahead_of_all" 121)
include k49 k50 in
theorem wZ(Y:FH E.K "_law_ahead" (top 54)):Ck E GH 2 "_law_ahead" 122:=SK zx zb k49 k50 (by decide) Y
variable(k51:Ck E GH 2 "_law_ahead" 122)
end
set_option maxHeartbeats 4000000 in
theorem all_mk{l:PySem.W.OpenLaw}{w:jk}{K:zh}{h:Heap}{mg:Str->Option zj}{fa:Addr}(X:K.In h)(G:h.Ns jv mg)(hfa:mg "law" =some (.ref fa))(Z0:FHs K top ["_law_mixed", "_law_purse", "_law_none", "_law_next", "_law_few", "_law_word", "_law_rank", "_law_words", "_law_names", "_law_size", "_law_stretches", "_law_every", "_law_set", "_law_more", "_law_lists", "_law_records", "parts_of", "number_order", "nearest", "first_number", "text_behind", "first_text", "record_of", "first_value", "first_values"] [26,27,36,28,29,32,33,34,35,30,31,37,41,38,39,40,14,10,20,19,22,21,17,18,23])(Z25:FHs K top ["least_fields", "_law_value", "_law_number_in", "_law_word_in", "_law_value_in", "_law_list_in", "_law_record_in", "_law_turned", "_law_turned_list", "_law_turned_record", "_law_near", "is_tagged", "is_text", "rising", "names_of", "is_name", "is_pair", "has_form", "inner_values", "is_value", "_law_inner", "_law_in", "_law_in_lists", "_law_in_records", "_law_kind"] [24,46,47,48,51,49,50,57,55,56,58,3,1,5,6,2,4,7,8,9,42,45,43,44,52])(Z50:FHs K top ["_law_ahead_of_all", "_law_ahead", "law"] [53,54,59])
 (g_ANY:CC K mg "ANY" RQ)
 (g_ALL_PARTS:CC K mg "ALL_PARTS" AN)
 (g_LETTERS:CC K mg "LETTERS" eO)
 (z:∀b∈bltL,xQ K jv b=some none) (pure:∀ns:List Int,ns.length<=63->∃G',eJ [.ref 0] [.rol (ns.map D.int)]=some (.ok (.bl true),G')):
 ∃fd:xi,(∀(s:zv) (v:zj),ZY s fd ⟨[v], []⟩ [("script",v)])/\∀base:Heap,K.In base->base.Ns jv mg->M0 l.prog w K mg base CX0 188 fa fd ["script"] (uF K):=by
 obtain⟨Y0,Y1,Y2,Y3,Y4,Y5,Y6,Y7,Y8,Y9,Y10,Y11,Y12,Y13,Y14,Y15,Y16,Y17,Y18,Y19,Y20,Y21,Y22,Y23,Y24,_⟩:=Z0
 obtain⟨Y25,Y26,Y27,Y28,Y29,Y30,Y31,Y32,Y33,Y34,Y35,Y36,Y37,Y38,Y39,Y40,Y41,Y42,Y43,Y44,Y45,Y46,Y47,Y48,Y49,_⟩:=Z25
 obtain⟨Y50,Y51,Y52,_⟩:=Z50
 have zb:BC K mg:=⟨BLs.of X G z,g_ANY.ok X G,g_ALL_PARTS.ok X G,g_LETTERS.ok X G⟩
 refine Sx (N:= ["script", "purse", "some", "way", "found", "values", "value"]) X G hfa Y52 (by walk_at "ba") (by walk_at "sc") rfl (λ_ _ _ _ _ _ s v=>.of_eq rfl) (λbase=>?_) pure
 have zx:EvX ⟨l.prog,w,K,mg,base⟩:=⟨h,X,G⟩
 have k0:=bR8 zx zb Y0
 have k1:=gY zx zb k0 Y1
 have k2:=Lz zx zb Y2
 have k3:=KS zx zb Y3
 have k4:=cJ7 zx zb k3 Y4
 have k5:=GS zx zb k3 Y5
 have k6:=Lc zx zb Y6
 have k7:=Vk zx zb k4 k5 k6 Y7
 have k8:=AY zx zb k7 Y8
 have k9:=UR zx zb k3 Y9
 have k10:=Wq zx zb k3 k4 k9 Y10
 have k11:=qb zx zb Y11
 have k12:=NS zx zb k2 k3 k4 k7 k8 k10 k11 Y12 Y13 Y14 Y15
 have k13:=AX zx zb k2 k12 Y13
 have k14:=Wj zx zb k2 k3 k4 k12 k13 Y14
 have k15:=Nv zx zb k2 k3 k8 k12 k13 Y15
 have k16:=HV zx zb Y16
 have k17:=nY zx zb Y17
 have k18:=nZ zx zb Y18
 have k19:=Nf zx zb k17 k18 Y19
 have k20:=cY zx zb Y20
 have k21:=vR zx zb k20 Y21
 have k22:=cC4 zx zb Y22
 have k23:=sR zx zb k16 k19 k21 k22 Y23 Y24 Y25
 have k24:=Hz zx zb k23 Y24
 have k25:=Wb zx zb k23 Y25
 have k26:=Nw zx zb k3 k4 k5 k8 Y26
 have k27:=BU zx zb Y27
 have k28:=VV zx zb Y28
 have k29:=rT zx zb k2 k3 k26 k27 k28 Y29 Y30 Y31
 have k30:=VT zx zb k2 k3 k29 Y30
 have k31:=QV zx zb k2 k3 k29 Y31
 have k32:=GU zx zb k3 k26 Y32 Y33 Y34
 have k33:=TW zx zb k26 k32 Y33
 have k34:=aT8 zx zb k26 k32 Y34
 have k35:=Vh zx zb k29 k32 Y35
 have k36:=Sz zx zb Y36
 have k37:=cR6 zx zb Y37
 have k38:=dC5 zx zb Y38
 have k39:=Sj zx zb Y39
 have k40:=RS zx zb k37 Y40
 have k41:=MR zx zb k40 Y41
 have k42:=Wf zx zb k36 k37 k38 k39 k41 Y42
 have k43:=cX zx zb Y43
 have k44:=Mm zx zb k42 k43 Y44
 have k45:=Th zx zb Y45
 have k46:=Nc zx zb k45 Y46 Y47 Y48
 have k47:=aW zx zb k46 Y47
 have k48:=VW zx zb k45 k46 Y48
 have k49:=RV zx zb Y49
 have k50:=Mp zx zb k49 Y50 Y51
 have k51:=wZ zx zb k49 k50 Y51
 intro _ _ _ _ _ _ _ _
 obtain⟨_,_,_,_⟩:=zb;unfold mE;unfold W1 VB' W2 VA LB PU0;walk_at "db0"
mutual
def szD:D->Nat
 | .tup l=>1+szL l
 | .str _=>1
 | .ref _=>1
 | .fn _=>1
 | .ty _=>1
 | .non=>1
 | .bl _=>1
 | .int _=>1
def szL:List D->Nat
 |[]=>0
 |d::r=>szD d+szL r
end
theorem pZ:∀d:D,1<=szD d:=λd=>by cases d<;>unfold szD<;>lia
theorem lL:∀l:List D,l.length<=szL l
 |[]=>by simp[szL]
 |d::r=>by
   have:=lL r
   have:=pZ d
   unfold szL
   simp only[zM]
   lia
theorem gK:∀a b:List D,szL (a++b)=szL a+szL b
 |[],b=>by simp[szL]
 |d::r,b=>by
   have:=gK r b
   simp only[List.cons_append,szL]
   lia
abbrev r6:Str:= "list"
abbrev P4:Str:= "record"
def Ap(G G':DH):Prop:=∃t,G'=G++t
theorem Ap.refl:Ap G G:=⟨[],by simp⟩
theorem Ap.trans(h:Ap G G1)(k:Ap G1 G2):Ap G G2:=by
 obtain⟨t,rfl⟩:=h
 obtain⟨u,rfl⟩:=k
 exact⟨t++u,by simp⟩
theorem Ap.one:Ap G (G++[o]):=⟨_,rfl⟩
theorem Ap.at{p:Nat}(h:Ap G G')(e:G[p]? =some o):G'[p]? =some o:=by
 obtain⟨t,rfl⟩:=h
 exact V0 e
theorem Ap.gr(h:Ap G G'):Gr G G':=by
 obtain⟨t,rfl⟩:=h
 exact Gr.app
section
end
theorem nH(e:G[p]? =some (.lst xs))(eq:G[q]? =some (.lst [])):Wp (eqD (.ref p) (.ref q)) G Q↔Q (.bl xs.isEmpty) G:=by
 have h:eqN 40 G (.ref p) (.ref q)=some xs.isEmpty:=by
  have h1:C0 G (.ref p)=some (false,xs):=by simp only[C0,e]
  have h2:C0 G (.ref q)=some (false, []):=by simp only[C0,eq]
  rw[FB,h1,h2]
  cases xs<;>rfl
 rw[dA,h];exact R5
theorem Bp{lo hi:Option Int}(e:G[p]? =some (.lst l)):Wp (slD (.ref p) lo hi) G Q↔Q (.ref G.length) (G++[.lst (DL.cutD l lo hi)]):=by
 have h:slD (.ref p) lo hi= (do
  let l <-O4 p >>= DL.listOf
  N7 (.lst (DL.cutD l lo hi))):=rfl
 rw[h]
 simp only[j5,O5,e,R5,DL.listOf,j7,R3]
theorem big:1000000<zg:=by decide
section
theorem oN:Wp (W0 (n+1) t b σ) G P↔Wp (t σ) G λk G1=>if k=true then Wp (b σ) G1 λfl G2=>match fl with
 | .nx X2=>Wp (W0 n t b X2) G2 P
 | .ct X2=>Wp (W0 n t b X2) G2 P
 | .bk X2=>P (.nx X2) G2
 | .rt d=>P (.rt d) G2
 else P (.nx σ) G1:=by
 rw[W0]
 simp only[j5,i8,j7]
 constructor
 · rintro⟨k,G1,e,q⟩
   refine⟨k,G1,e,?_⟩
   rcases k with _|_
   ·exact q
   ·
     simp only[if_true]at q ⊢
     obtain⟨fl,G2,e2,q⟩:=q
     refine⟨fl,G2,e2,?_⟩
     cases fl<;>first
      |exact q
      |exact j7.mp q
 · rintro⟨k,G1,e,q⟩
   refine⟨k,G1,e,?_⟩
   rcases k with _|_
   ·exact q
   ·
     simp only[if_true]at q ⊢
     obtain⟨fl,G2,e2,q⟩:=q
     refine⟨fl,G2,e2,?_⟩
     cases fl<;>first
      |exact q
      |exact j7.mpr q
theorem wM(h:Wp (W0 n t b σ) G P):Wp (bB t b σ) G P:=by
 obtain⟨a,G',e,q⟩:=h
 refine⟨a,G',?_,q⟩
 have hx:∃n,(W0 n t b σ G).isSome=true:=⟨n,by rw[e];rfl⟩
 unfold bB
 rw[dif_pos hx]
 have hs:=Classical.choose_spec hx
 obtain⟨r,hr⟩:=Xz.mp hs
 rw[hr]
 have e1:=gP (Nat.le_max_left n (Yu hx)) e
 have e2:=gP (Nat.le_max_right n (Yu hx)) hr
 rw[e1]at e2
 exact e2.symm
end
theorem LP(h:G[r]? =some (.lst (l++[y]))):Wp (dD (.ref r) []) G Q↔Q y (G.set r (.lst l)):=by
 have e:dD (.ref r) []= (do
  let l <-lstM r
  match l.getLast? with
  |some y=>do
    let _ <-d4 r (.lst l.dropLast)
    pure y
  |none=>M.stuck):=rfl
 rw[e]
 unfold lstM
 simp only[j5,O5,h,R5,j7,List.getLast?_append,List.getLast?_singleton,Option.some_or,List.dropLast_concat,tB]
theorem qX(h:G[r]? =some (.lst l))(hq:G[q]? =some (.lst k))(hl:l.length+k.length<=zg):Wp (EG (.ref r) [.ref q]) G Q↔Q .non (G.set r (.lst (l++k))):=by
 have e:EG (.ref r) [.ref q]= (do
  let l <-lstM r
  let k <-lstM q
  if l.length+k.length<=zg then do
   let _ <-d4 r (.lst (l++k))
   pure .non
  else M.stuck):=rfl
 rw[e]
 unfold lstM
 simp only[j5,O5,h,hq,R5,j7,if_pos hl,tB]
theorem Gr.set(h:Gr G0 G)(hp:G0.length<=p):Gr G0 (G.set p o):=⟨by rw[xS];exact h.1,λi hi=>by rw[jb (by lia)];exact h.2 i hi⟩
theorem Rz(e:G[p]? =some (.lst xs)):Wp (t3 (.ref p)) G B↔B (!xs.isEmpty) G:=by
 unfold t3
 simp only[j5,O5,e,R5,j7]
theorem lt_of_get{G:DH}(e:G[p]? =some o):p<G.length:=by
 by_cases hi:p<G.length
 ·exact hi
 ·rw[zO (by lia)]at e;exact J7 e
section
variable{bd n:Nat}
end
theorem eE(l:List D)(n:Nat):DL.cutD l none (some (n:Int))=l.take n:=by
 unfold DL.cutD
 rw[HT.sIx_none,HT.sIx_nat,XD,Nat.sub_zero]
 by_cases h:n<=l.length
 ·rw[Nat.min_eq_left h]
 ·rw[Nat.min_eq_right (by lia),xv (zo _),xv (by lia)]
theorem eD(l:List D)(n:Nat):DL.cutD l (some (n:Int)) none=l.drop n:=by
 unfold DL.cutD
 rw[HT.sIx_none,HT.sIx_nat]
 by_cases h:n<=l.length
 ·rw[Nat.min_eq_left h,xv (by rw[jR];lia)]
 · rw[Nat.min_eq_right (by lia),xz (zo _),xz (by lia)]
   simp
section
variable{G:DH}{Q:DPP}
theorem bZ{k:Bool}:Wp (l9 [.bl k]) G Q↔Q (.int (if k then 1 else 0)) G:=j7
theorem AS{i:Int}:Wp (C3 [.int i]) G Q↔Q (.int (if i<0 then -i else i)) G:=j7
end
def D1{α β:Type}(R:α->β->Prop):List α->List β->Prop
 |[], []=>True
 |a::r,b::s=>R a b/\D1 R r s
 |_,_=>False
section
variable{α β:Type}{R S:α->β->Prop}
theorem D1.len:∀ {a:List α} {b:List β},D1 R a b->a.length=b.length
 |[], [],_=>rfl
 |_::_,_::_,h=>by simp[D1.len h.2]
 |[],_::_,h=>h.elim
 |_::_, [],h=>h.elim
end
abbrev Rg:=Option Int×Option Int
def inR(p:Rg)(x:Int):Prop:=(∀a,p.1=some a->a<=x)/\∀b,p.2=some b->x<=b
def inS(l:List Rg)(x:Int):Prop:=∃p∈l,inR p x
def okR(p:Rg):Prop:=∀a b,p.1=some a->p.2=some b->a<=b
def KM(p q:Rg):Prop:=∃a b,p.2=some a/\q.1=some b/\a+1<b
def Can(l:List Rg):Prop:=(∀p∈l,okR p)/\l.Pairwise KM
theorem V1:inS (p::l) x↔inR p x\/inS l x:=by
 unfold inS
 constructor
 · rintro⟨q,hq,h⟩
   rcases zp.mp hq with rfl|hq
   ·exact .inl h
   ·exact .inr ⟨q,hq,h⟩
 · rintro(h|⟨q,hq,h⟩)
   ·exact⟨p,zt ..,h⟩
   ·exact⟨q,zn _ hq,h⟩
theorem y8:¬inS [] x:=fun⟨_,h,_⟩=>nomatch h
theorem Can.tail(h:Can (p::l)):Can l:=⟨λq hq=>h.1 q (zn _ hq),(jf.mp h.2).2⟩
theorem Can.head(h:Can (p::l)):okR p:=h.1 p (zt ..)
theorem Can.beyond(h:Can (p::l))(hx:inS l x):∃a,p.2=some a/\a+1<x:=by
 obtain⟨q,hq,h1,h2⟩:=hx
 obtain⟨a,b,e1,e2,k⟩:=(jf.mp h.2).1 q hq
 exact⟨a,e1,by have:=h1 b e2;lia⟩
theorem Can.low(h:Can (p::l))(e:p.1=some a)(hx:inS (p::l) x):a<=x:=by
 rcases V1.mp hx with k|k
 ·exact k.1 a e
 · obtain⟨b,e2,k⟩:=h.beyond k
   have:=h.head a b e e2
   lia
theorem Can.deep(e:p.1=none)(a:Int):∃x,x<a/\inS (p::l) x:=by
 rcases e2:p.2 with _|b
 ·exact⟨a-1,by lia,V1.mpr (.inl ⟨λc hc=>(by rw[e]at hc;cases hc),λc hc=>(by rw[e2]at hc;cases hc)⟩)⟩
 ·exact⟨min (a-1) b,by lia,V1.mpr (.inl ⟨λc hc=>(by rw[e]at hc;cases hc),λc hc=>(by rw[e2]at hc;cases hc;lia)⟩)⟩
theorem okR.some(h:okR p):∃x,inR p x:=by
 obtain⟨a,b⟩:=p
 rcases a with _|a<;>rcases b with _|b
 ·exact⟨0,λc hc=>(nomatch hc),λc hc=>(nomatch hc)⟩
 ·exact⟨b,λc hc=>(nomatch hc),λc hc=>by cases hc;exact Yc _⟩
 ·exact⟨a,λc hc=>(by cases hc;exact Yc _),λc hc=>nomatch hc⟩
 ·exact⟨a,λc hc=>(by cases hc;exact Yc _),λc hc=>by cases hc;exact h a b rfl rfl⟩
theorem wP(hp:Can (p::l))(hq:Can (q::m))(h:∀x,inS (p::l) x↔inS (q::m) x):p.1=q.1:=by
 have one:∀ {p q:Rg} {l m:List Rg} {a:Int},Can (p::l)->Can (q::m)->(∀x,inS (p::l) x↔inS (q::m) x)->p.1=some a->∃b,q.1=some b/\b<=a:=by
  intro p q l m a hp hq h e
  have ha:inS (p::l) a:=V1.mpr (.inl ⟨λc hc=>(by rw[e]at hc;cases hc;exact Yc _),λb hb=>hp.head a b e hb⟩)
  rcases e2:q.1 with _|b
  · obtain⟨x,hx,k⟩:=Can.deep e2 a
    have:=hp.low e ((h x).mpr k)
    lia
  ·exact⟨b,rfl,hq.low e2 ((h a).mp ha)⟩
 rcases e1:p.1 with _|a
 · rcases e2:q.1 with _|b
   ·rfl
   · obtain⟨a,e3,_⟩:=one hq hp (λx=>(h x).symm) e2
     rw[e1]at e3;cases e3
 · obtain⟨b,e2,k1⟩:=one hp hq h e1
   obtain⟨a',e3,k2⟩:=one hq hp (λx=>(h x).symm) e2
   rw[e1]at e3;cases e3
   rw[e2,Int.le_antisymm k1 k2]
theorem dY7(hp:Can (p::l))(hq:Can (q::m))(h:∀x,inS (p::l) x↔inS (q::m) x):p.2=q.2:=by
 have lo:=wP hp hq h
 have one:∀ {p q:Rg} {l m:List Rg} {a:Int},Can (p::l)->Can (q::m)->(∀x,inS (p::l) x↔inS (q::m) x)->p.1=q.1->p.2=some a->∃b,q.2=some b/\b<=a:=by
  intro p q l m a hp hq h lo e
  have hn:¬inS (q::m) (a+1):=λk=>by
   rcases V1.mp ((h (a+1)).mpr k)with k|k
   ·have:=k.2 a e;lia
   · obtain⟨b,e2,k⟩:=hp.beyond k
     rw[e]at e2;cases e2;lia
  have hlo:∀c,q.1=some c->c<=a:=λc hc=>hp.head c a (lo.trans hc) e
  rcases e2:q.2 with _|b
  ·exact absurd (V1.mpr (.inl ⟨λc hc=>(by have:=hlo c hc;lia),λc hc=>by rw[e2]at hc;cases hc⟩)) hn
  · refine⟨b,rfl,?_⟩
    rcases Int.lt_or_le a b with k|k
    ·exact absurd (V1.mpr (.inl ⟨λc hc=>(by have:=hlo c hc;lia),λc hc=>by rw[e2]at hc;cases hc;lia⟩)) hn
    ·exact k
 rcases e1:p.2 with _|a
 · rcases e2:q.2 with _|b
   ·rfl
   · obtain⟨a,e3,_⟩:=one hq hp (λx=>(h x).symm) lo.symm e2
     rw[e1]at e3;cases e3
 · obtain⟨b,e2,k1⟩:=one hp hq h lo e1
   obtain⟨a',e3,k2⟩:=one hq hp (λx=>(h x).symm) lo.symm e2
   rw[e1]at e3;cases e3
   rw[e2,Int.le_antisymm k1 k2]
theorem GJ:∀ {l m},Can l->Can m->(∀x,inS l x↔inS m x)->l=m
 |[], [],_,_,_=>rfl
 |[],q::m,_,hm,h=>by
   obtain⟨x,hx⟩:=hm.head.some
   exact absurd ((h x).mpr (V1.mpr (.inl hx))) y8
 |p::l, [],hl,_,h=>by
   obtain⟨x,hx⟩:=hl.head.some
   exact absurd ((h x).mp (V1.mpr (.inl hx))) y8
 |p::l,q::m,hl,hm,h=>by
   have e:p=q:=Xy (wP hl hm h) (dY7 hl hm h)
   subst e
   rw[GJ hl.tail hm.tail λx=>?_]
   have out:∀ {l:List Rg},Can (p::l)->inS l x->¬inR p x:=λhl k r=>by
    obtain⟨a,e,k⟩:=hl.beyond k
    have:=r.2 a e
    lia
   constructor
   · intro k
     rcases V1.mp ((h x).mp (V1.mpr (.inr k)))with r|r
     ·exact absurd r (out hl k)
     ·exact r
   · intro k
     rcases V1.mp ((h x).mpr (V1.mpr (.inr k)))with r|r
     ·exact absurd r (out hm k)
     ·exact r
theorem Can.snoc(h:Can l)(ok:okR r)(c:∀p∈l,KM p r):Can (l++[r]):=
 ⟨λp hp=>(zJ.mp hp).elim (h.1 p) λk=>by rw[zk.mp k];exact ok,
  yB.mpr ⟨h.2,Zq ..,λp hp q hq=>by rw[zk.mp hq];exact c p hp⟩⟩
theorem cH:Wp (gtD (.int i) (.int j)) G Q↔Q (.bl (decide (i>j))) G:=j7
theorem hZ(e:G[p]? =some (.lst xs))(eq:G[q]? =some (.lst [])):Wp (neD (.ref p) (.ref q)) G Q↔Q (.bl (!xs.isEmpty)) G:=by
 have h:eqN 40 G (.ref p) (.ref q)=some xs.isEmpty:=by
  have h1:C0 G (.ref p)=some (false,xs):=by simp only[C0,e]
  have h2:C0 G (.ref q)=some (false, []):=by simp only[C0,eq]
  rw[FB]
  rw[h1,h2]
  rcases xs with _|⟨_,_⟩
  ·rfl
  ·rfl
 exact lB (show neD (.ref p) (.ref q) G=_ from by unfold neD;rw[h])
theorem ixv(ha:a σ G=some (.ok (.ref r),G))(hb:b σ G=some (.ok (.int j),G))(e:G[r]? =some (.lst l))(hd:atI l j=some d)(q:Q d G):Wp (c7 ixD a b σ) G Q:=o4 ha hb ((E5 e).mpr ⟨d,hd,q⟩)
theorem tK(ha:a σ G=some (.ok (.ref r),G))(hb:b σ G=some (.ok (.int k),G))(e:G[r]? =some (.lst l))(hj:ixN l.length k=some j)(q:S σ (G.set r (.lst (l.set j d)))):Wp (F1 a b d σ) G S:=NG.mpr (d7 ha (d7 hb ((nM e hj).mpr q)))
theorem Fw{lo hi:Option Int}(e:G[p]? =some (.lst l)):Wp (slT (.ref p) lo hi) G Q↔Q (.ref G.length) (G++[.lst (DL.cutD l lo hi)]):=Bp e
section
theorem DJ(e:a σ G=some (.ok (.bl true),G1))(w:Wp (b σ) G1 Q):Wp (B2 a b σ) G Q:=nE.mpr (d7 e (R6.mpr (by rw[if_pos rfl];exact w)))
theorem FL(w:Wp (a σ) G λx G1=>x= .bl true/\Wp (b σ) G1 Q):Wp (B2 a b σ) G Q:=nE.mpr (w.mono λx G1 q=>by
 obtain⟨rfl,q⟩:=q
 exact R6.mpr (by rw[if_pos rfl];exact q))
theorem EW(w:Wp (t σ) G λk G1=>k=true/\Wp (g σ) G1 P):Wp (ifS (c8 t) f g σ) G P:=Q0 (fH.mpr (w.mono λk G1 q=>by
 obtain⟨rfl,q⟩:=q
 exact⟨λz=>(by exact kE z),λ_=>q⟩))
theorem Cp(w:Wp (a σ) G λx G1=>x= .bl true/\B true G1):Wp (J8 a σ) G B:=X4.mpr (w.mono λx G1 q=>by
 obtain⟨rfl,q⟩:=q
 exact R6.mpr q)
end
def rD(p:Rg):D:=.tup [l4 p.1,l4 p.2]
def rsD(l:List Rg):List D:=l.map rD
section
end
theorem KH(l:List Rg):(rsD l).length=l.length:=zc ..
theorem fG6:atI (rsD (l0++p::l)) (l0.length:Int)=some (rD p):=atI_nat (by unfold rsD;simp)
theorem kH(l:List Rg)(p:Rg):rsD (l++[p])=rsD l++[rD p]:=jG ..
section
end
def AD:D->D
 | .str z=>.tup [.int z.length,.str z]
 |_=>.non
def txB(a b:Str):Bool:=if a.length=b.length then decide (a.cps.toList<b.cps.toList)else decide (a.length<b.length)
abbrev wOf:Str:= "of"
abbrev BI:Str:= "but"
theorem sL(h:G[r]? =some (.dct l))(hl:l.length<zg):Wp (HA (.ref r) (.str z) d) G R↔R () (G.set r (.dct (F5 l (.inr z) d))):=by
 unfold HA
 simp only[j5,O5,h,R5,f8,if_pos hl,tB]
theorem KJ:∀ss:List Str,P3 (ss.map D.str)=some ss
 |[]=>rfl
 |z::r=>by simp only[zL,P3,KJ r,Zu]
def Tx(z:Str):Prop:=lV z=true/\z.length<=1000
def Ris(s:List Str):Prop:=s.Pairwise λa b=>txB a b=true
theorem kQ(h1:txB a b=true)(h2:txB b c=true):txB a c=true:=by
 have:= @FC ((a.length:Int),a) ((b.length:Int),b) ((c.length:Int),c)
 unfold O0 at this
 unfold txB at *
 simp only[Int.ofNat_inj,Int.ofNat_lt]at this
 exact this h1 h2
theorem dB(a:Str):txB a a=false:=by
 unfold txB
 rw[if_pos rfl,decide_eq_false (ZT _)]
theorem mK(a b:Str):txB a b=O0 ((a.length:Int),a) ((b.length:Int),b):=by
 unfold txB O0
 simp only[Int.ofNat_inj,Int.ofNat_lt]
theorem FI:∀ {s t},Ris s->Ris t->(∀z,z∈s↔z∈t)->s=t
 |[], [],_,_,_=>rfl
 |[],b::t,_,_,h=>by have:=(h b).mpr (by simp);cases this
 |a::s, [],_,_,h=>by have:=(h a).mp (by simp);cases this
 |a::s,b::t,h1,h2,h=>by
   obtain⟨p1,p2⟩:=jf.mp h1
   obtain⟨q1,q2⟩:=jf.mp h2
   have e:a=b:=by
    rcases zp.mp ((h a).mp (by simp))with e|m
    ·exact e
    · rcases zp.mp ((h b).mpr (by simp))with e|m'
      ·exact e.symm
      · have:=kQ (q1 a m) (p1 b m')
        rw[dB]at this;cases this
   subst e
   congr 1
   refine FI p2 q2 λz=>⟨λm=>?_,λm=>?_⟩
   · rcases zp.mp ((h z).mp (zn _ m))with e|m'
     · subst e
       have:=p1 z m
       rw[dB]at this;cases this
     ·exact m'
   · rcases zp.mp ((h z).mpr (zn _ m))with e|m'
     · subst e
       have:=q1 z m
       rw[dB]at this;cases this
     ·exact m'
abbrev wrd(b:Bool):Str:=if b then wOf else BI
def J2(b:Bool)(s:List Str):D:=.tup [.str (wrd b),.tup (s.map D.str)]
def Mk(l:List (Key×D))(ks:List Str):Prop:=U5 l=some ks/\ks.Nodup
theorem uP:∀s:List Str,F8 mG (s.map λz=>AD (.str z))=some (s.map λz=>((z.length:Int),z))
 |[]=>rfl
 |a::r=>by simp only[zL,F8,uP r];rfl
theorem QT(s:List Str):sC (s.map λz=>AD (.str z))=some (s.map λz=>((z.length:Int),z)):=by unfold sC;rw[uP]
theorem nX(nd:s.Nodup):∃m,iC (s.map λz=>((z.length:Int),z)) (s.map D.str)=m.map D.str/\Ris m/\m.Perm s:=by
 have hz:(s.map λz=>(((z.length:Int),z):Int×Str)).zip (s.map D.str)=s.map λz=>(((z.length:Int),z),D.str z):=by
  rw[List.zip_map']
 have nd2:(s.map λz=>(((z.length:Int),z):Int×Str)).Nodup:=by
  rw[List.Nodup,yf]
  exact nd.imp λ{a b} h e=>h (yV e).2
 let m:=s.mergeSort λa b=> !txB b a
 have hp:m.Perm s:=jC _ _
 have hs:m.Pairwise λa b=>(!txB b a)=true:=yH (λa b c h1 h2=>by
  simp only[xB]at *
  refine xC.mpr λh=>?_
  by_cases e:a=b
  ·subst e;rw[h]at h2;cases h2
  · rw[mK]at h h1 h2
    have:=FC h (aD (λz=>e (yV z).2.symm) h1)
    rw[this]at h2;cases h2) (λa b=>by
  by_cases e:a=b
  ·subst e;rw[dB];rfl
  · cases q:txB b a with
    |false=>rfl
    |true=>
      have:txB a b=false:=by
       refine xC.mpr λh=>?_
       have:=kQ q h
       rw[dB]at this;cases this
      rw[this];rfl) _
 refine⟨m,?_,?_,hp⟩
 · have e:=kN nd2 (z:=m.map λz=>(((z.length:Int),z),D.str z)) (by rw[hz];exact hp.map _) (by
    rw[yf]
    refine hs.imp λ{a b} h=>?_
    unfold A8
    rw[<-mK];exact h)
   rw[<-e,xa]
   rfl
 · have ndm:m.Nodup:=hp.nodup_iff.mpr nd
   have:m.Pairwise λa b=>(!txB b a)=true/\a≠b:=List.Pairwise.and hs ndm
   refine this.imp λ{a b} h=>?_
   have h1:=h.1
   simp only[xB]at h1
   rw[mK]at h1 ⊢
   exact aD (λz=>h.2 (yV z).2.symm) h1
theorem QW:Wp (mB F fe σ) G Q↔Wp (fe σ) G λx G1=>Wp (uA F x) G1 Q:=by unfold mB;simp only[j5]
def inT(b:Bool)(s:List Str)(z:Str):Prop:=if b then z∈s else z∉s
structure Rw(s:List Str):Prop where
 ris:Ris s
 tx:∀z∈s,Tx z
 len:s.length<30
inductive NV where
 |num (i:Int)
 |txt (z:Str)
 |tru (b:Bool)
 |lst (n:Nat) (f:Nat->NV)
 |rcd (p:Str->Bool) (f:Str->NV)
structure Pt(α:Type) where
 ns:List Rg
 b:Bool
 ss:List Str
 bs:List Bool
 ls:Option (List α×α)
 rs:Option (List (Str×Bool×α)×α)
section
def fld:List (Str×Bool×α)->α->Str->Bool×α
 |[],m,_=>(false,m)
 |e::fs,m,z=>if e.1=z then e.2 else fld fs m z
def frt(fs:List α)(m:α)(i:Nat):α:=(fs[i]?).getD m
variable(mem:α->NV->Prop)(gd:α->Prop)
def F2(r:Option (List α×α))(n:Nat)(f:Nat->NV):Prop:=∃fs m,r=some (fs,m)/\fs.length<=n/\∀i,i<n->mem (frt fs m i) (f i)
def T2(r:Option (List (Str×Bool×α)×α))(p:Str->Bool)(f:Str->NV):Prop:=∃fs m,r=some (fs,m)/\∀z,(p z=true->mem (fld fs m z).2 (f z))/\(p z=false->(fld fs m z).1=false)
def x9(s:Pt α):NV->Prop
 | .num i=>inS s.ns i
 | .txt z=>inT s.b s.ss z
 | .tru b=>b∈s.bs
 | .lst n f=>F2 mem s.ls n f
 | .rcd p f=>T2 mem s.rs p f
def RP:Option (Pt α)->NV->Prop
 |none,_=>True
 |some s,v=>x9 mem s v
def L7(r:Option (List α×α)):Prop:=∀fs m,r=some (fs,m)->gd m/\∀a∈fs,gd a/\∃v,mem a v
def Nms(fs:List (Str×Bool×α)):Prop:=fs.Pairwise λe e'=>e.1.cps.toList<e'.1.cps.toList
def S2(r:Option (List (Str×Bool×α)×α)):Prop:=∀fs m,r=some (fs,m)->gd m/\Nms fs/\∀e∈fs,gd e.2.2/\(e.2.1=true->∃v,mem e.2.2 v)/\(e.2.1=false->e.2.2≠m)
def B4:List (List Bool):= [[], [false], [true], [false,true]]
structure GdP(s:Pt α):Prop where
 ns:Can s.ns
 ss:Ris s.ss
 bs:s.bs∈B4
 ls:L7 mem gd s.ls
 rs:S2 mem gd s.rs
def GdS:Option (Pt α)->Prop
 |none=>True
 |some s=>GdP mem gd s/\¬∀v,x9 mem s v
def Ext:Prop:=∀a b,gd a->gd b->(∀v,mem a v↔mem b v)->a=b
end
theorem eN:∀l:List Str,∃N,∀z∈l,z.cps.size<N
 |[]=>⟨0,λ_ h=>nomatch h⟩
 |x::l=>by
   obtain⟨N,h⟩:=eN l
   refine⟨N+x.cps.size+1,λz hz=>?_⟩
   rcases zp.mp hz with rfl|hz
   ·lia
   ·have:=h z hz;lia
theorem fresh(l:List Str):∃z,z∉l:=by
 obtain⟨N,h⟩:=eN l
 refine⟨⟨Array.replicate N 0⟩,λhz=>?_⟩
 have:=h _ hz
 rw[Array.size_replicate]at this
 lia
theorem HQ(hs:Ris s)(ht:Ris t)(h:∀z,inT b s z↔inT c t z):b=c/\s=t:=by
 obtain⟨z,hz⟩:=fresh (s++t)
 have z1:z∉s:=λk=>hz (jQ _ k)
 have z2:z∉t:=λk=>hz (zE _ k)
 rcases b with _|_<;>rcases c with _|_
 ·exact⟨rfl,FI hs ht λx=>Decidable.not_iff_not.mp (h x)⟩
 ·exact absurd ((h z).mp z1) z2
 ·exact absurd ((h z).mpr z2) z1
 ·exact⟨rfl,FI hs ht h⟩
theorem mP:∀a∈B4,∀b∈B4,(∀k,k∈a↔k∈b)->a=b:=by
 unfold B4
 decide
section
variable{α:Type}{mem:α->NV->Prop}{gd:α->Prop}
theorem P5(h:i<fs.length):frt fs m i=fs[i]:=by
 unfold frt;rw[ze h];rfl
theorem EA(h:fs.length<=i):frt fs m i=m:=by
 unfold frt;rw[zO h];rfl
theorem VG(fs:List α)(h:∀a∈fs,∃v,mem a v):∃f:Nat->NV,∀i hi,mem fs[i] (f i):=by
 refine⟨λi=>if hi:i<fs.length then (h fs[i] (jd hi)).choose else .num 0,λi hi=>?_⟩
 simp only[dif_pos hi]
 exact(h fs[i] (jd hi)).choose_spec
theorem bJ(h:∀i hi,mem fs[i] (f i)):F2 mem (some (fs,m)) fs.length f:=
 ⟨fs,m,rfl,zo _,λi hi=>by rw[P5 hi];exact h i hi⟩
theorem b9:F2 mem (some (fs,m)) n f↔fs.length<=n/\∀i,i<n->mem (frt fs m i) (f i):=
 ⟨fun⟨gs,k,e,h⟩=>by cases e;exact h,λh=>⟨fs,m,rfl,h⟩⟩
theorem OD:¬F2 mem none n f:=fun⟨_,_,e,_⟩=>nomatch e
theorem QK(h1:L7 mem gd (some (fs,m)))(h:∀n f,F2 mem (some (fs,m)) n f↔F2 mem (some (gs,k)) n f):gs.length<=fs.length:=by
 obtain⟨f,hf⟩:=VG fs λa ha=>((h1 fs m rfl).2 a ha).2
 exact(b9.mp ((h _ _).mp (bJ hf))).1
theorem mQ(h1:L7 mem gd (some (fs,m)))(h:∀n f,F2 mem (some (fs,m)) n f↔F2 mem (some (gs,k)) n f)(i:Nat)(v:NV)(hv:mem (frt fs m i) v)(hi:i<=fs.length):mem (frt gs k i) v:=by
 obtain⟨f,hf⟩:=VG fs λa ha=>((h1 fs m rfl).2 a ha).2
 have w:F2 mem (some (fs,m)) (max fs.length (i+1)) (λj=>if j=i then v else f j):=b9.mpr ⟨by lia,λj hj=>by
  by_cases e:j=i
  ·rw[e];simp only[if_pos];exact hv
  · simp only[if_neg e]
    have hl:j<fs.length:=by lia
    rw[P5 hl];exact hf j hl⟩
 have:=(b9.mp ((h _ _).mp w)).2 i (by lia)
 simpa using this
theorem GZ(he:Ext mem gd)(h1:L7 mem gd r)(h2:L7 mem gd t)(h:∀n f,F2 mem r n f↔F2 mem t n f):r=t:=by
 rcases r with _|⟨fs,m⟩<;>rcases t with _|⟨gs,k⟩
 ·rfl
 · obtain⟨f,hf⟩:=VG gs λa ha=>((h2 gs k rfl).2 a ha).2
   exact absurd ((h _ _).mpr (bJ hf)) OD
 · obtain⟨f,hf⟩:=VG fs λa ha=>((h1 fs m rfl).2 a ha).2
   exact absurd ((h _ _).mp (bJ hf)) OD
 · have hl:fs.length=gs.length:=Nat.le_antisymm (QK h2 λn f=>(h n f).symm) (QK h1 h)
   have e:∀i,i<=fs.length->gd (frt fs m i)->gd (frt gs k i)->frt fs m i=frt gs k i:=λi hi a b=>he _ _ a b λv=>⟨λhv=>mQ h1 h i v hv hi,λhv=>mQ h2 (λn f=>(h n f).symm) i v hv (hl▸hi)⟩
   have em:m=k:=by
    have:=e fs.length (zo _) (by rw[EA (zo _)];exact(h1 fs m rfl).1) (by rw[EA (xG hl.symm)];exact(h2 gs k rfl).1)
    rwa [EA (zo _),EA (xG hl.symm)]at this
   have ef:fs=gs:=xK hl λi ha hb=>by
    have:=e i (ym ha) (by rw[P5 ha];exact((h1 fs m rfl).2 _ (jd ha)).1) (by rw[P5 hb];exact((h2 gs k rfl).2 _ (jd hb)).1)
    rwa [P5 ha,P5 hb]at this
   rw[em,ef]
end
abbrev nlt(a b:Str):Prop:=a.cps.toList<b.cps.toList
theorem AA(a:Str):¬nlt a a:=ZT _
theorem aJ(h:nlt a b)(k:nlt b c):nlt a c:=Yt h k
section
variable{mem:α->NV->Prop}{gd:α->Prop}
theorem WA{m:α}:z∈fs.map (·.1)->(z,fld fs m z)∈fs:=by
 induction fs with
 |nil=>intro h;cases h
 |cons e fs ih=>
   intro h
   unfold fld
   by_cases k:e.1=z
   ·rw[if_pos k,<-k];exact zt ..
   · rw[if_neg k]
     rcases zp.mp h with h|h
     ·exact absurd h.symm k
     ·exact zn _ (ih h)
theorem y7{m:α}:z∉fs.map (·.1)->fld fs m z= (false,m):=by
 induction fs with
 |nil=>intro h;rfl
 |cons e fs ih=>
   intro h
   unfold fld
   rw[if_neg λk=>h (zp.mpr (.inl k.symm)),ih λk=>h (zn _ k)]
theorem MB(hn:Nms fs)(he:e∈fs):fld fs m e.1=e.2:=by
 induction fs with
 |nil=>cases he
 |cons x fs ih=>
   unfold fld
   obtain⟨h1,h2⟩:=jf.mp hn
   rcases zp.mp he with rfl|he
   ·rw[if_pos rfl]
   ·rw[if_neg λk=>AA e.1 (by have:=h1 e he;rw[k]at this;exact this),ih h2 he]
theorem X8:T2 mem (some (fs,m)) p f↔∀z,(p z=true->mem (fld fs m z).2 (f z))/\(p z=false->(fld fs m z).1=false):=
 ⟨fun⟨gs,k,e,h⟩=>by cases e;exact h,λh=>⟨fs,m,rfl,h⟩⟩
theorem QG:¬T2 mem none p f:=fun⟨_,_,e,_⟩=>nomatch e
theorem lN{m:α}(h:S2 mem gd (some (fs,m)))(k:(fld fs m z).1=true):∃v,mem (fld fs m z).2 v:=by
 by_cases hz:z∈fs.map (·.1)
 ·exact((h fs m rfl).2.2 _ (WA hz)).2.1 k
 ·rw[y7 hz]at k;cases k
theorem GL(h:S2 mem gd (some (fs,m)))(z:Str):gd (fld fs m z).2:=by
 by_cases hz:z∈fs.map (·.1)
 ·exact((h fs m rfl).2.2 _ (WA hz)).1
 ·rw[y7 hz];exact(h fs m rfl).1
theorem dH(h:S2 mem gd (some (fs,m))):∃f:Str->NV,∀z,(fld fs m z).1=true->mem (fld fs m z).2 (f z):=by
 refine⟨λz=>if k:(fld fs m z).1=true then (lN h k).choose else .num 0,λz k=>?_⟩
 simp only[dif_pos k]
 exact(lN h k).choose_spec
theorem uJ(h:∀z,(fld fs m z).1=true->mem (fld fs m z).2 (f z)):T2 mem (some (fs,m)) (λz=>(fld fs m z).1) f:=X8.mpr λz=>⟨h z,id⟩
theorem mM(h1:S2 mem gd (some (fs,m)))(h:∀p f,T2 mem (some (fs,m)) p f↔T2 mem (some (gs,k)) p f)(z:Str)(e:(fld fs m z).1=false):(fld gs k z).1=false:=by
 obtain⟨f,hf⟩:=dH h1
 exact(X8.mp ((h _ _).mp (uJ hf)) z).2 e
theorem sO(h1:S2 mem gd (some (fs,m)))(h:∀p f,T2 mem (some (fs,m)) p f↔T2 mem (some (gs,k)) p f)(z:Str)(v:NV)(hv:mem (fld fs m z).2 v):mem (fld gs k z).2 v:=by
 obtain⟨f,hf⟩:=dH h1
 have w:T2 mem (some (fs,m)) (λy=>decide (y=z)||(fld fs m y).1) (λy=>if y=z then v else f y):=X8.mpr λy=>by
  by_cases e:y=z
  ·subst e;simp[hv]
  ·simp only[e,decide_false,Bool.false_or,if_false];exact⟨hf y,id⟩
 have:=(X8.mp ((h _ _).mp w) z).1 (by simp)
 simpa using this
theorem dL:∀ {fs gs:List (Str×Bool×α)},Nms fs->Nms gs->(∀e,e∈fs↔e∈gs)->fs=gs
 |[], [],_,_,_=>rfl
 |[],g::gs,_,_,h=>nomatch (h g).mpr (zt ..)
 |f::fs, [],_,_,h=>nomatch (h f).mp (zt ..)
 |f::fs,g::gs,hf,hg,h=>by
   obtain⟨f1,f2⟩:=jf.mp hf
   obtain⟨g1,g2⟩:=jf.mp hg
   have e:f=g:=by
    rcases zp.mp ((h f).mp (zt ..))with e|a
    ·exact e
    · rcases zp.mp ((h g).mpr (zt ..))with e|b
      ·exact e.symm
      ·exact absurd (aJ (f1 g b) (g1 f a)) (AA _)
   subst e
   rw[dL f2 g2 λe=>⟨λa=>?_,λa=>?_⟩]
   · rcases zp.mp ((h e).mp (zn _ a))with k|k
     ·exact absurd (f1 e a) (by rw[k];exact AA _)
     ·exact k
   · rcases zp.mp ((h e).mpr (zn _ a))with k|k
     ·exact absurd (g1 e a) (by rw[k];exact AA _)
     ·exact k
theorem Nz{fs gs:List (Str×Bool×α)}(h1:S2 mem gd (some (fs,m)))(h2:S2 mem gd (some (gs,m)))(e:∀z,fld fs m z=fld gs m z):fs=gs:=by
 have one:∀ {fs gs:List (Str×Bool×α)},S2 mem gd (some (fs,m))->(∀z,fld fs m z=fld gs m z)->∀x∈fs,x∈gs:=λ{fs gs} h1 e x hx=>by
  have ex:=MB (m:=m) (h1 _ _ rfl).2.1 hx
  by_cases hz:x.1∈gs.map (·.1)
  · have:=WA (m:=m) hz
    rw[<-e,ex]at this
    exact this
  · have h3:x.2= (false,m):=by rw[<-ex,e,y7 hz]
    exact absurd (congrArg (·.2) h3) (((h1 _ _ rfl).2.2 x hx).2.2 (congrArg (·.1) h3))
 exact dL (h1 _ _ rfl).2.1 (h2 _ _ rfl).2.1 λx=>⟨one h1 e x,one h2 (λz=>(e z).symm) x⟩
theorem uZ(he:Ext mem gd)(h1:S2 mem gd r)(h2:S2 mem gd t)(h:∀p f,T2 mem r p f↔T2 mem t p f):r=t:=by
 rcases r with _|⟨fs,m⟩<;>rcases t with _|⟨gs,k⟩
 ·rfl
 · obtain⟨f,hf⟩:=dH h2
   exact absurd ((h _ _).mpr (uJ hf)) QG
 · obtain⟨f,hf⟩:=dH h1
   exact absurd ((h _ _).mp (uJ hf)) QG
 · have h':=λp f=>(h p f).symm
   have e:∀z,fld fs m z=fld gs k z:=λz=>Xy (by
    rcases a:(fld fs m z).1 with _|_
    ·exact(mM h1 h z a).symm
    · rcases b:(fld gs k z).1 with _|_
      ·exact absurd (mM h2 h' z b) (by rw[a];decide)
      ·rfl) (he _ _ (GL h1 z) (GL h2 z) λv=>⟨sO h1 h z v,sO h2 h' z v⟩)
   obtain⟨z,hz⟩:=fresh (fs.map (·.1)++gs.map (·.1))
   have em:m=k:=by
    have:=e z
    rw[y7 λa=>hz (jQ _ a),y7 λa=>hz (zE _ a)]at this
    exact congrArg (·.2) this
   subst em
   rw[Nz h1 h2 e]
theorem Pz(he:Ext mem gd):Ext (RP mem) (GdS mem gd):=by
 intro a b ha hb h
 rcases a with _|a<;>rcases b with _|b
 ·rfl
 ·exact absurd (λv=>(h v).mp trivial) hb.2
 ·exact absurd (λv=>(h v).mpr trivial) ha.2
 · have e1:=GJ ha.1.ns hb.1.ns λx=>h (.num x)
   have e2:=HQ ha.1.ss hb.1.ss λx=>h (.txt x)
   have e3:=mP _ ha.1.bs _ hb.1.bs λx=>h (.tru x)
   have e4:=GZ he ha.1.ls hb.1.ls λn f=>h (.lst n f)
   have e5:=uZ he ha.1.rs hb.1.rs λn f=>h (.rcd n f)
   rcases a with⟨a1,a2,a3,a4,a5,a6⟩
   rcases b with⟨b1,b2,b3,b4,b5,b6⟩
   obtain⟨e2,e2'⟩:=e2
   dsimp only at e1 e2 e2' e3 e4 e5
   rw[e1,e2,e2',e3,e4,e5]
end
def CS:Nat->Type
 |0=>Unit
 |n+1=>Option (Pt (CS n))
def inC:(n:Nat)->CS n->NV->Prop
 |0=>λ_ _=>True
 |n+1=>RP (inC n)
def Gd:(n:Nat)->CS n->Prop
 |0=>λ_=>True
 |n+1=>GdS (inC n) (Gd n)
theorem BE:∀n,Ext (inC n) (Gd n)
 |0=>λ_ _ _ _ _=>rfl
 |n+1=>Pz (BE n)
structure IsMt(n:Nat)(s t m:CS n):Prop where
 g:Gd n m
 i:∀v,inC n m v↔inC n s v/\inC n t v
section
variable{α:Type}{mem:α->NV->Prop}{gd:α->Prop}
structure IsM(mem:α->NV->Prop)(gd:α->Prop)(s t r:α):Prop where
 g:gd r
 i:∀v,mem r v↔mem s v/\mem t v
open Classical in
structure Mw(mem:α->NV->Prop)(s:Pt α):Prop where
 ns:s.ns= [(none,none)]
 b:s.b=false
 ss:s.ss= []
 bs:s.bs= [false,true]
 ls:∃m,s.ls=some ([],m)/\∀v,mem m v
 rs:∃m,s.rs=some ([],m)/\∀v,mem m v
theorem pJ:Can [(none,none)]:=⟨λp hp _ _ e=>by rw[zk.mp hp]at e;exact J7 e,Zq ..⟩
theorem qd(he:Ext mem gd)(h:GdP mem gd s):(∀v,x9 mem s v)↔Mw mem s:=by
 constructor
 · intro a
   have e2:=HQ (c:=false) h.ss .nil λz=>⟨λ_ k=>(nomatch k),λ_=>a (.txt z)⟩
   refine⟨GJ h.ns pJ λx=>⟨λ_=>⟨(none,none),zk.mpr rfl,λa e=>J7 e,λa e=>J7 e⟩,λ_=>a (.num x)⟩,e2.1,e2.2,mP _ h.bs _ (by decide) λk=>⟨λ_=>by cases k<;>decide,λ_=>a (.tru k)⟩,?_,?_⟩
   · obtain⟨fs,m,e,hl,_⟩:=a (.lst 0 λ_=>.num 0)
     have:fs= []:=List.length_eq_zero_iff.mp (Nat.le_zero.mp hl)
     subst this
     refine⟨m,e,λv=>?_⟩
     have:=a (.lst 1 λ_=>v)
     have:F2 mem s.ls 1 λ_=>v:=this
     rw[e]at this
     exact(b9.mp this).2 0 (by decide)
   · obtain⟨fs,m,e,hf⟩:=a (.rcd (λ_=>false) λ_=>.num 0)
     have al:∀z v,mem (fld fs m z).2 v:=λz v=>by
      have:T2 mem s.rs (λ_=>true) λ_=>v:=a (.rcd (λ_=>true) λ_=>v)
      rw[e]at this
      exact(X8.mp this z).1 rfl
     obtain⟨z,hz⟩:=fresh (fs.map (·.1))
     have hm:∀v,mem m v:=λv=>by have:=al z v;rwa [y7 hz]at this
     have g:=h.rs fs m e
     have:fs= []:=List.eq_nil_iff_forall_not_mem.mpr λx hx=>by
      have k:=MB (m:=m) g.2.1 hx
      have g2:=g.2.2 x hx
      refine g2.2.2 (by rw[<-k];exact(hf x.1).2 rfl) (he _ _ g2.1 g.1 λv=>⟨λ_=>hm v,λ_=>by have:=al x.1 v;rwa [k]at this⟩)
     subst this
     exact⟨m,e,hm⟩
 · rintro⟨h1,h2,h3,h4,⟨m,e,hm⟩,k,e',hk⟩ v
   rcases v with i|z|b|⟨n,f⟩|⟨p,f⟩
   · show inS s.ns i
     rw[h1]
     exact⟨(none,none),zk.mpr rfl,λa e=>J7 e,λa e=>J7 e⟩
   · show inT s.b s.ss z
     rw[h2,h3]
     exact λk=>nomatch k
   · show b∈s.bs
     rw[h4]
     cases b<;>decide
   · show F2 mem s.ls n f
     rw[e]
     exact b9.mpr ⟨zY _,λi _=>hm _⟩
   · show T2 mem s.rs p f
     rw[e']
     exact X8.mpr λz=>⟨λ_=>hk _,λ_=>rfl⟩
end
abbrev B3:Str:= "any"
def Z1(n:Nat)(G:DH)(x y:D)(P:Prop):Prop:=∃k,eqN n G x y=some k/\(k=true↔P)
def V8(n:Nat)(G:DH)(x y:List D)(P:Prop):Prop:=∃k,eqL (eqN n G) x y=some k/\(k=true↔P)
section
theorem Z1.tup(h:V8 n G a b P):Z1 (n+1) G (.tup a) (.tup b) P:=by
 obtain⟨k,e,i⟩:=h
 refine⟨k,?_,i⟩
 rw[FB]
 show (if true=true then (if true=false/\_ then some false else eqL (eqN n G) a b)else some false)=_
 rw[if_pos rfl,if_neg (λh=>Bool.noConfusion h.1),e]
theorem V8.nil:V8 n G [] [] True:=⟨true,rfl,by simp⟩
theorem Z1.cons(h:Z1 n G x y P)(t:V8 n G xs ys P'):V8 n G (x::xs) (y::ys) (P/\P'):=by
 obtain⟨k,e,i⟩:=h
 obtain⟨k',e',i'⟩:=t
 refine⟨k&&k',by rw[nG,e,e'],?_⟩
 rw[ZU,i,i']
theorem Z1.iff(h:Z1 n G x y P)(i:P↔P'):Z1 n G x y P':=h.elim λk z=>⟨k,z.1,z.2.trans i⟩
theorem V8.iff(h:V8 n G x y P)(i:P↔P'):V8 n G x y P':=h.elim λk z=>⟨k,z.1,z.2.trans i⟩
theorem V8.map{f:α->D}(h:∀a b,Z1 n G (f a) (f b) (a=b)):∀l m:List α,V8 n G (l.map f) (m.map f) (l=m)
 |[], []=>V8.nil.iff (by simp)
 |[],_::_=>⟨false,rfl,by simp⟩
 |_::_, []=>⟨false,rfl,by simp⟩
 |a::l,b::m=>((h a b).cons (V8.map h l m)).iff (by rw[List.cons.injEq])
theorem bE(a b:Str):Z1 (n+1) G (.str a) (.str b) (a=b):=⟨a==b,rfl,by simp⟩
theorem cJ(a b:Bool):Z1 (n+1) G (.bl a) (.bl b) (a=b):=⟨a==b,rfl,by simp⟩
theorem dQ(a b:Option Int):Z1 (n+1) G (l4 a) (l4 b) (a=b):=by
 rcases a with _|a<;>rcases b with _|b
 ·exact⟨true,rfl,by simp⟩
 ·exact⟨false,rfl,by simp⟩
 ·exact⟨false,rfl,by simp⟩
 ·exact⟨a==b,rfl,by simp⟩
theorem fP(p q:Rg):Z1 (n+2) G (rD p) (rD q) (p=q):=(Z1.tup ((dQ p.1 q.1).cons ((dQ p.2 q.2).cons V8.nil))).iff (by rw[Jk];simp)
theorem EK(b c:Bool)(s t:List Str):Z1 (n+3) G (J2 b s) (J2 c t) (b=c/\s=t):=(Z1.tup ((bE (wrd b) (wrd c)).cons ((Z1.tup (V8.map bE s t)).cons V8.nil))).iff (by
 have:wrd b=wrd c↔b=c:=by cases b<;>cases c<;>decide
 rw[this];simp)
end
theorem FY(h:Z1 40 G x y P)(t:P->Q (.bl true) G)(f:¬P->Q (.bl false) G):Wp (eqD x y) G Q:=by
 obtain⟨k,e,i⟩:=h
 refine dA.mpr ⟨k,e,?_⟩
 rcases k with _|_
 ·exact f λp=>nomatch (i.mpr p)
 ·exact t (i.mp rfl)
section
variable(en:α->D)
def lsD:Option (List α×α)->D
 |none=>.non
 |some p=>.tup [.tup (p.1.map en),en p.2]
def fdE(e:Str×Bool×α):D:=.tup [.str e.1,.bl e.2.1,en e.2.2]
def rcD:Option (List (Str×Bool×α)×α)->D
 |none=>.non
 |some p=>.tup [.tup (p.1.map (fdE en)),en p.2]
def fiv(s:Pt α):List D:= [.tup (rsD s.ns),J2 s.b s.ss,.tup (s.bs.map D.bl),lsD en s.ls,rcD en s.rs]
def enS:Option (Pt α)->D
 |none=>.str B3
 |some s=>.tup (fiv en s)
def aB(N:Nat):Prop:=∀k G a b,Z1 (k+(N+3)) G (en a) (en b) (a=b)
end
def enC:(n:Nat)->CS n->D
 |0=>λ_=>.str B3
 |n+1=>enS (enC n)
section
variable{α:Type}{en:α->D}{N:Nat}
theorem FN(h:aB en N)(k:Nat)(G:DH)(a b:Option (List α×α)):Z1 (k+(N+5)) G (lsD en a) (lsD en b) (a=b):=by
 rcases a with _|⟨fs,m⟩<;>rcases b with _|⟨gs,l⟩
 ·exact⟨true,rfl,by simp⟩
 ·exact⟨false,rfl,by simp⟩
 ·exact⟨false,rfl,by simp⟩
 · have h2:=h (k+1) G m l
   rw[show k+1+(N+3)=k+(N+3)+1 by lia]at h2
   exact(Z1.tup ((Z1.tup (V8.map (h k G) fs gs)).cons (h2.cons V8.nil))).iff (by simp)
theorem mZ(h:aB en N)(k:Nat)(G:DH)(a b:Str×Bool×α):Z1 (k+(N+4)) G (fdE en a) (fdE en b) (a=b):=
 (Z1.tup ((bE a.1 b.1).cons ((cJ a.2.1 b.2.1).cons ((h k G a.2.2 b.2.2).cons V8.nil)))).iff (by rw[Jk,Jk];simp)
theorem EQ(h:aB en N)(k:Nat)(G:DH)(a b:Option (List (Str×Bool×α)×α)):Z1 (k+(N+6)) G (rcD en a) (rcD en b) (a=b):=by
 rcases a with _|⟨fs,m⟩<;>rcases b with _|⟨gs,l⟩
 ·exact⟨true,rfl,by simp⟩
 ·exact⟨false,rfl,by simp⟩
 ·exact⟨false,rfl,by simp⟩
 · have h2:=h (k+2) G m l
   rw[show k+2+(N+3)=k+(N+4)+1 by lia]at h2
   exact(Z1.tup ((Z1.tup (V8.map (mZ h k G) fs gs)).cons (h2.cons V8.nil))).iff (by simp)
theorem dD1(h:aB en N):aB (enS en) (N+4):=by
 intro k G a b
 rcases a with _|a<;>rcases b with _|b
 ·exact⟨true,rfl,by simp⟩
 ·exact⟨false,rfl,by simp⟩
 ·exact⟨false,rfl,by simp⟩
 · have h2:=FN h (k+1) G a.ls b.ls
   rw[show k+1+(N+5)=k+(N+6) by lia]at h2
   exact(Z1.tup ((Z1.tup (V8.map (fP) a.ns b.ns)).cons ((EK a.b b.b a.ss b.ss).cons ((Z1.tup (V8.map (cJ) a.bs b.bs)).cons (h2.cons ((EQ h k G a.rs b.rs).cons V8.nil)))))).iff (by
    obtain⟨a1,a2,a3,a4,a5,a6⟩:=a
    obtain⟨b1,b2,b3,b4,b5,b6⟩:=b
    simp only[zZ,Pt.mk.injEq,and_assoc,and_true])
end
theorem TC:∀n,aB (enC n) (4*n)
 |0=>λk G a b=>(bE B3 B3).iff ⟨λ_=>rfl,λ_=>rfl⟩
 |n+1=>dD1 (TC n)
theorem lE(hn:n<=8)(G:DH)(a b:CS n):Z1 40 G (enC n a) (enC n b) (a=b):=by
 have:=TC n (37-4*n) G a b
 rwa [show 37-4*n+(4*n+3)=40 by lia]at this
theorem OL(h:enC n a=enC n b):a=b:=by
 obtain⟨k,e,i⟩:=TC n 0 [] a b
 obtain⟨k',e',i'⟩:=TC n 0 [] a a
 rw[<-h,e']at e
 cases e
 exact i.mp (i'.mpr rfl)
def E2(α:Type):Pt α:=⟨[],true, [], [],none,none⟩
def A2:D:=.tup [.tup [],J2 true [],.tup [],.non,.non]
section
variable{α:Type}{mem:α->NV->Prop}{gd:α->Prop}
theorem CD(v:NV):¬x9 mem (E2 α) v:=by
 rcases v with i|z|b|⟨n,f⟩|⟨p,f⟩
 ·exact y8
 ·exact λh=>(nomatch h)
 ·exact λh=>(nomatch h)
 ·exact OD
 ·exact QG
theorem vO:GdS mem gd (some (E2 α)):=⟨⟨⟨λ_ h=>(nomatch h),.nil⟩,.nil,show []∈B4 by decide,λ_ _ e=>(nomatch e),λ_ _ e=>(nomatch e)⟩,λh=>CD (.num 0) (h _)⟩
end
theorem Gq:∀ {n} {a},Gd n a->(enC n a=A2↔∀v,¬inC n a v)
 |0,a,_=>⟨λe=>D.noConfusion e,λe=>absurd trivial (e (.num 0))⟩
 |n+1,a,h=>⟨λe v k=>by
   have:a=some (E2 _):=OL e
   rw[this]at k
   exact CD v k,λe=>by
   have:a=some (E2 _):=BE (n+1) _ _ h vO λv=>⟨λk=>absurd k (e v),λk=>absurd k (CD v)⟩
   rw[this];rfl⟩
theorem OB:∀ {n} (hn:n<=8) G a,Gd n a->Z1 40 G (enC n a) A2 (∀v,¬inC n a v)
 |0,_,_,a,_=>⟨false,rfl,λe=>(nomatch e),λe=>absurd trivial (e (.num 0))⟩
 |n+1,hn,G,a,h=>(lE hn G a (some (E2 _))).iff ((show a=some (E2 _)↔enC (n+1) a=A2 from⟨λe=>by rw[e];rfl,λe=>OL e⟩).trans (Gq h))
structure SzP{α:Type}(sz:α->Prop)(k:Nat)(s:Pt α):Prop where
 ns:s.ns.length<=k
 ss:s.ss.length<=k
 tx:∀z∈s.ss,Tx z
 ls:∀fs m,s.ls=some (fs,m)->fs.length<=k/\sz m/\∀a∈fs,sz a
 rs:∀fs m,s.rs=some (fs,m)->fs.length<=k/\sz m/\∀e∈fs,sz e.2.2/\Tx e.1/\0<e.1.length
def SzC:(n:Nat)->Nat->CS n->Prop
 |0,_=>λ_=>True
 |n+1,k=>λa=>∀s,a=some s->SzP (SzC n k) k s
section
variable{α:Type}{mem:α->NV->Prop}{gd:α->Prop}
def qI(gd:α->Prop)(r:Option (List α×α)):Prop:=∀fs m,r=some (fs,m)->gd m/\∀a∈fs,gd a
def qH(gd:α->Prop)(r:Option (List (Str×Bool×α)×α)):Prop:=∀fs m,r=some (fs,m)->gd m/\Nms fs/\∀e∈fs,gd e.2.2
end
section
variable{n:Nat}{G:DH}
end
theorem l5(J:DH->Prop)(S:DSt->Prop)(rel:D->D->Prop)(hck:∀G,J G->ck G=true):∀items σ G,S σ->J G->
 (∀d∈items,∀ σ G,S σ->J G->Wp (g d σ) G λWY G1=>G1=G/\S WY/\Wp (e WY) G λy G3=>J G3/\rel d y)->
 Wp (M9 g O7 e ck items σ) G λys G'=>J G'/\∃zs:List (D×D),zs.map (·.1)=items/\ys=zs.map (·.2)/\∀z∈zs,rel z.1 z.2
 |[],σ,G,s,j,_=>W8.mpr ⟨hck G j,j, [],rfl,rfl,λ_ h=>nomatch h⟩
 |d::r,σ,G,s,j,step=>by
   refine X3.mpr ⟨hck G j,(step d (zt ..) σ G s j).mono λWY G1 ⟨e1,s1,w1⟩=>?_⟩
   subst e1
   refine d7 rfl ?_
   rw[if_pos rfl]
   refine w1.mono λy G3 ⟨j3,py⟩=>?_
   refine(l5 J S rel hck r WY G3 s1 j3 λd hd=>step d (zn _ hd)).mono λys G4 ⟨j4,zs,h1,h2,h3⟩=>⟨j4,(d,y)::zs,by rw[zL,h1],by rw[zL,h2],λz hz=>?_⟩
   rcases zp.mp hz with rfl|hz
   ·exact py
   ·exact h3 z hz
theorem nB{e:β->D}{P:D->β->Prop}:∀zs:List (D×D),(∀z∈zs,∃m,z.2=e m/\P z.1 m)->∃hs:List β,zs.map (·.2)=hs.map e/\hs.length=zs.length/\∀(i:Nat) a d,hs[i]? =some a->(zs.map (·.1))[i]? =some d->P d a
 |[],_=>⟨[],rfl,rfl,λi a d h=>by simp at h⟩
 |z::zs,h=>by
   obtain⟨m,e1,p1⟩:=h z (zt ..)
   obtain⟨hs,e2,l2,p2⟩:=nB zs λx hx=>h x (zn _ hx)
   refine⟨m::hs,by rw[zL,zL,e1,e2],by rw[zM,zM,l2],λi a d ha hd=>?_⟩
   rcases i with _|i
   · simp only[zL,zQ,zZ]at ha hd
     rw[<-ha,<-hd];exact p1
   · simp only[zL,jq]at ha hd
     exact p2 i a d ha hd
section
def lsZ(n k:Nat)(r:Option (List (CS n)×CS n)):Prop:=∀fs m,r=some (fs,m)->fs.length<=k/\SzC n k m/\∀a∈fs,SzC n k a
theorem vY(h:qI (Gd n) (some (fs,m)))(i:Nat):Gd n (frt fs m i):=by
 by_cases hi:i<fs.length
 ·rw[P5 hi];exact(h _ _ rfl).2 _ (jd hi)
 ·rw[EA (XW.mp hi)];exact(h _ _ rfl).1
theorem AZ(h:lsZ n k (some (fs,m)))(i:Nat):SzC n k (frt fs m i):=by
 by_cases hi:i<fs.length
 ·rw[P5 hi];exact(h _ _ rfl).2.2 _ (jd hi)
 ·rw[EA (XW.mp hi)];exact(h _ _ rfl).2.1
end
section
def rsZ(n k:Nat)(r:Option (List (Str×Bool×CS n)×CS n)):Prop:=∀fs m,r=some (fs,m)->fs.length<=k/\SzC n k m/\∀e∈fs,SzC n k e.2.2/\Tx e.1/\0<e.1.length
theorem pW(h:rsZ n k (some (fs,m)))(z:Str):SzC n k (fld fs m z).2:=by
 by_cases hz:z∈fs.map (·.1)
 ·exact((h fs m rfl).2.2 _ (WA hz)).1
 ·rw[y7 hz];exact(h fs m rfl).2.1
end
section
theorem QM(h:l.Nodup):(V6 l).Pairwise nlt:=by
 have h2:(V6 l).Pairwise λa b=>leS a b=true:=yH sE mH l
 have h3:(V6 l).Nodup:=(jC l leS).nodup_iff.mpr h
 refine(h2.and (XA.mp h3)).imp λ{a b} k=>?_
 rcases Classical.em (nlt a b)with x|x
 ·exact x
 ·exact absurd (nF k.1 (by unfold leS;simpa using x)) k.2
end
theorem P8(e:G[p]? =some (.lst l)):ckO p (.lst l) G=true:=by simp only[ckO,e];simp
section
end
section
def P2:(n:Nat)->CS n
 |0=>()
 |_+1=>none
theorem oK:∀n,enC n (P2 n)= .str B3
 |0=>rfl
 |_+1=>rfl
theorem AE:∀n v,inC n (P2 n) v
 |0,_=>trivial
 |_+1,_=>trivial
theorem PF:∀n,Gd n (P2 n)
 |0=>trivial
 |_+1=>trivial
theorem cQ(g:Gd n a):a=P2 n↔∀v,inC n a v:=⟨λe v=>by rw[e];exact AE n v,λh=>BE n _ _ g (PF n) λv=>⟨λ_=>AE n v,λ_=>h v⟩⟩
def evP(n:Nat):Pt (CS n):=⟨[(none,none)],false, [], [false,true],some ([],P2 n),some ([],P2 n)⟩
def evD:D:=.tup [.tup [.tup [.non,.non]],J2 false [],.tup [.bl false,.bl true],.tup [.tup [],.str B3],.tup [.tup [],.str B3]]
theorem pL:enC (n+1) (some (evP n))=evD:=by
 show D.tup [_,_,_,.tup [_,enC n (P2 n)],.tup [_,enC n (P2 n)]]=_
 rw[oK]
 rfl
theorem qN(g:GdP (inC n) (Gd n) q):q=evP n↔∀v,x9 (inC n) q v:=by
 rw[qd (BE n) g]
 constructor
 · rintro rfl
   exact⟨rfl,rfl,rfl,rfl,⟨_,rfl,AE n⟩,_,rfl,AE n⟩
 · rintro⟨h1,h2,h3,h4,⟨m,e,hm⟩,k,e',hk⟩
   have em:=(cQ (g.ls _ _ e).1).mpr hm
   have ek:=(cQ (g.rs _ _ e').1).mpr hk
   rcases q with⟨a1,a2,a3,a4,a5,a6⟩
   dsimp only at h1 h2 h3 h4 e e'
   rw[h1,h2,h3,h4,e,e',em,ek]
   rfl
theorem iY(hn:n<=7)(G:DH)(g:GdP (inC n) (Gd n) q):Z1 40 G (.tup (fiv (enC n) q)) evD (∀v,x9 (inC n) q v):=by
 have:=(lE (n:=n+1) (by lia) G (some q) (some (evP n))).iff ⟨λe=>(qN g).mp (jl e),λh=>congrArg some ((qN g).mpr h)⟩
 rw[pL]at this
 exact this
end
section
theorem kb(h:bs∈B4):inB (.bl k) (.tup (bs.map D.bl)) G=some (decide (k∈bs)):=by
 simp only[B4,zp,zS,or_false]at h
 rcases h with rfl|rfl|rfl|rfl<;>cases k<;>rfl
theorem SzC.mono:∀ {n} {k l} {a},k<=l->SzC n k a->SzC n l a
 |0,_,_,_,_,_=>trivial
 |n+1,k,l,a,h,s=>λp e=>by
   have s:=s p e
   exact⟨zI s.ns h,zI s.ss h,s.tx,λfs m e=>⟨zI (s.ls fs m e).1 h,SzC.mono h (s.ls fs m e).2.1,λa ha=>SzC.mono h ((s.ls fs m e).2.2 a ha)⟩,λfs m e=>⟨zI (s.rs fs m e).1 h,SzC.mono h (s.rs fs m e).2.1,λx hx=>⟨SzC.mono h ((s.rs fs m e).2.2 x hx).1,((s.rs fs m e).2.2 x hx).2⟩⟩⟩
theorem L7.raw(h:L7 (inC n) (Gd n) r):qI (Gd n) r:=λfs m e=>⟨(h fs m e).1,λa ha=>((h fs m e).2 a ha).1⟩
theorem S2.raw(h:S2 (inC n) (Gd n) r):qH (Gd n) r:=λfs m e=>⟨(h fs m e).1,(h fs m e).2.1,λa ha=>((h fs m e).2.2 a ha).1⟩
end
def Dr(G:DH)(r:Nat):Prop:=∃ns:List Nat,G[r]? =some (.lst (ns.map λn:Nat=>D.int (n:Int)))
def Fd(r:Nat)(G G':DH):Prop:=G.length<=G'.length/\(∀i,i≠r->i<G.length->G'[i]? =G[i]?)/\Dr G' r
theorem Dr.lt(h:Dr G r):r<G.length:=by
 obtain⟨ns,hr⟩:=h
 exact lt_of_get hr
theorem Dr.app(h:Dr G r):Dr (G++t) r:=by
 obtain⟨ns,hr⟩:=h
 exact⟨ns,V0 hr⟩
theorem Fd.refl(h:Dr G r):Fd r G G:=⟨zo _,λ_ _ _=>rfl,h⟩
theorem Fd.trans(h:Fd r G G1)(k:Fd r G1 G2):Fd r G G2:=
 ⟨zI h.1 k.1,λi hi hl=>by rw[k.2.1 i hi (by have:=h.1;lia),h.2.1 i hi hl],k.2.2⟩
theorem Fd.app(h:Dr G r):Fd r G (G++t):=⟨by simp,λi _ hl=>zK hl,h.app⟩
theorem Fd.at(h:Fd r G G')(hp:p≠r)(e:G[p]? =some o):G'[p]? =some o:=by
 rw[h.2.1 p hp (lt_of_get e)];exact e
theorem Dr.set(h:Dr G r)(hp:p≠r):Dr (G.set p o) r:=by
 obtain⟨ns,hr⟩:=h
 exact⟨ns,by rw[jb hp];exact hr⟩
theorem Fd.put(h:Fd r G G')(hp:G.length<=p)(hr:p≠r):Fd r G (G'.set p o):=
 ⟨by rw[xS];exact h.1,λi hi hl=>by rw[jb (by lia)];exact h.2.1 i hi hl,h.2.2.set hr⟩
section
theorem vW(hz:z.length<=zg)(h0:0<=k)(h1:k<z.length)(q:∀c∈z.cps.toList,Q (.str ⟨#[c]⟩) G):Wp (ixD (.str z) (.int k)) G Q:=by
 have e:ixD (.str z) (.int k)=if z.length<=zg then (do
  let c <-K0 (atI z.cps.toList k)
  pure (.str ⟨#[c]⟩):M D)else M.stuck:=rfl
 rw[e,if_pos hz]
 simp only[j5,L4,j7]
 have hl:z.length=z.cps.toList.length:=rfl
 obtain⟨n,rfl⟩:=yK h0
 have hn:n<z.cps.toList.length:=by lia
 refine⟨z.cps.toList[n],?_,q _ (jd hn)⟩
 unfold atI ixN
 rw[if_pos (by lia),if_pos (by lia)]
 simp only[jX,Option.bind_some,ze hn]
end
theorem W5(h:Dr G r)(q:∀k:Nat,∀G',Fd r G G'->Q (.int (k:Int)) G'):Wp (u6 [.ref r]) G Q:=by
 have h':=h
 obtain⟨ns,hr⟩:=h'
 have s0:([D.ref r].map some++zm (1 - [D.ref r].length) none:DSt)= [some (.ref r)]:=rfl
 unfold u6 fJ
 simp only[iA,s0,d8,C9,pB,LA,c9,W3,E6,D6,m5,A3,u4,j0,zZ,exists_eq_left',zQ]
 refine⟨sz,?_⟩
 have e1:=V0 (t:= [DO.lst []]) hr
 rw[nH e1 j8]
 refine⟨_,rfl,?_⟩
 rcases Jx ns with rfl|⟨t,n,rfl⟩
 · simp only[xX,List.isEmpty_nil,if_true]
   exact q 0 _ (Fd.app h)
 · have hne:((t.concat n).map λn:Nat=>D.int (n:Int)).isEmpty=false:=by simp
   simp only[hne,jw,if_false]
   rw[ZL,jG]at e1
   rw[L9 e1,LP e1]
   refine q n _ ⟨by simp,λi hi hl=>?_,t,?_⟩
   ·rw[jb (Ne.symm hi),zK hl]
   ·rw[zX (lt_of_get e1)]
theorem MG(h:Dr G r)(q:∀k:Nat,k<7->∀G',Fd r G G'->Q (.int (k:Int)) G'):Wp (T9 [.ref r]) G Q:=by
 have s0:([D.ref r].map some++zm (2 - [D.ref r].length) none:DSt)= [some (.ref r),none]:=rfl
 unfold T9 qK
 simp only[iA,s0,d8,Z7,O1,C9,pB,LA,c9,y9,D6,m5,A3,u4,U8,j0,zZ,exists_eq_left',zQ,jq,yp,yq]
 refine⟨rfl,W5 h λk G1 f1=>?_⟩
 simp only[u5 (show (0:Int)<8 by decide),u5 (show (0:Int)<7 by decide),u5 (show (0:Int)<4 by decide),M3 (show (0:Int)<8/\(8:Int)<2 ^ 100 by decide),O2,LF]
 have n1:∀m:Int,0<m->m<=7->∃j:Nat,j<7/\(k:Int) / 8 % m= (j:Int):=λm hm h7=>by
  have a1:0<=(k:Int) / 8 % m:=jp _ (by lia)
  have a2:(k:Int) / 8 % m<m:=jn _ hm
  exact⟨((k:Int) / 8 % m).toNat,by lia,by lia⟩
 by_cases hk:(k:Int) % 8=7
 · simp only[hk,decide_true,if_true]
   obtain⟨j,hj,e⟩:=n1 7 (by decide) (by decide)
   rw[e];exact q j hj G1 f1
 · simp only[hk,decide_false,jw,if_false]
   obtain⟨j,hj,e⟩:=n1 4 (by decide) (by decide)
   rw[e];exact q j hj G1 f1
theorem p10:Wp (F6 (.int 10) (.int 10)) G Q↔Q (.int 10000000000) G:=by
 rw[BH (by decide)];rfl
theorem UJ(h:Dr G r)(q:∀k:Nat,∀G',Fd r G G'->Q (.int (k:Int)) G'):Wp (V4 [.ref r]) G Q:=by
 have s0:([D.ref r].map some++zm (2 - [D.ref r].length) none:DSt)= [some (.ref r),none]:=rfl
 unfold V4 PH
 simp only[iA,s0,d8,Z7,O1,C9,pB,LA,c9,y9,D6,m5,A3,u4,U8,j0,zZ,exists_eq_left',zQ,jq,yp,yq]
 refine⟨rfl,W5 h λk G1 f1=>?_⟩
 simp only[u5 (show (0:Int)<9 by decide),u5 (show (0:Int)<5 by decide),M3 (show (0:Int)<9/\(9:Int)<2 ^ 100 by decide),O2,LF,L5 (show L3 ((k:Int) / 9) 1000003 from Or.inr ⟨by decide,by decide⟩)]
 by_cases hk:(k:Int) % 9=8
 · simp only[hk,decide_true,if_true]
   refine⟨rfl,W5 f1.2.2 λj G2 f2=>?_⟩
   rw[Z2,p10,L5 (show L3 6 10000000000 from Or.inl ⟨by decide,by decide⟩),u5 (by decide)]
   have a1:0<=((k:Int) / 9*1000003+(j:Int)) % (6*10000000000):=jp _ (by decide)
   obtain⟨m,hm⟩:=yK a1
   rw[hm]
   exact q m G2 (f1.trans f2)
 · simp only[hk,decide_false,jw,if_false]
   have a1:0<=(k:Int) / 9 % 5:=jp _ (by decide)
   obtain⟨m,hm⟩:=yK a1
   rw[hm]
   exact q m G1 f1
def Fd2(r p:Nat)(G G':DH):Prop:=G.length<=G'.length/\(∀i,i≠r->i≠p->i<G.length->G'[i]? =G[i]?)/\Dr G' r
theorem Fd2.trans(h:Fd2 r p G G1)(k:Fd2 r p G1 G2):Fd2 r p G G2:=
 ⟨zI h.1 k.1,λi hi hp hl=>by rw[k.2.1 i hi hp (by have:=h.1;lia),h.2.1 i hi hp hl],k.2.2⟩
theorem Fd.two(h:Fd r G G1):Fd2 r p G G1:=⟨h.1,λi hi _ hl=>h.2.1 i hi hl,h.2.2⟩
theorem Fd2.set(hp:p≠r)(h:Dr G r):Fd2 r p G (G.set p o):=
 ⟨by rw[xS];exact zo _,λi _ hi hl=>by rw[jb (Ne.symm hi)],h.set hp⟩
theorem Fd.thru(h:Fd r G G1)(k:Fd2 r p G1 G2)(hp:G.length<=p):Fd r G G2:=
 ⟨zI h.1 k.1,λi hi hl=>by rw[k.2.1 i hi (by lia) (by have:=h.1;lia),h.2.1 i hi hl],k.2.2⟩
theorem bS:KG=j6 (v8 (T7 g0) (y0 1)) (j6 (v8 (c7 Q1 (unE A6 (x0 (fnX 1 V4) (d0 (b8 0) g0))) (cE (.int 2))) (y0 2)) (j6 (S1 (T4 (d0 (x0 (fnX 1 T9) (d0 (b8 0) g0)) g0)) (y0 3) SB) (j6 (v8 (x0 (fnX 1 u6) (d0 (b8 0) g0)) (y0 5)) (j6 SC1 (j6 SC2 (t6 (x0 T8 (d0 (b8 1) g0)))))))):=rfl
def Up(lo:Int)(ns:List Rg):Prop:=∀p∈ns,∃a:Int,p.2=some a/\a<=lo
section
theorem cZ(hp:p≠r)(h:Dr G r)(e:G[p]? =some (.lst (rsD ns)))(hn:Can ns)(hu:Up a ns)(hl:ns.length<=50):
 Wp (SB [some (.ref r),some (.ref p),some (.int a),u,v,w]) G λfl G'=>Fd2 r p G G'/\∃a' v' ns',fl= .nx [some (.ref r),some (.ref p),some (.int a'),u,v',w]/\G'[p]? =some (.lst (rsD ns'))/\Can ns'/\Up a' ns'/\ns'.length<=ns.length+1:=by
 have bg:=big
 refine d8.mpr<| K6<| m8<| d7 rfl<| j9 rfl rfl<| UJ h λk G1 f1=>Z2.mpr<| d8.mpr<| K6<| m8<| d7 rfl<| j9 rfl rfl<| UJ f1.2.2 λj G2 f2=>Z2.mpr ?_
 have f12:=f1.trans f2
 have e2:=f12.at hp e
 refine NC.mpr<| E6.mpr<| d7 rfl<| (L9 e2).mpr<| d7 (a:= [rD (some (a+2+k),some (a+2+k+j))]) rfl<| (ED e2 (by rw[KH];lia)).mpr ?_
 refine⟨f12.two.trans (Fd2.set hp f2.2.2),_,_,ns++[(some (a+2+k),some (a+2+k+j))],rfl,?_,hn.snoc (λx y ea eb=>?_) λx hx=>?_,λq hq=>?_,by simp⟩
 ·rw[zX (lt_of_get e2),kH]
 ·cases ea;cases eb;lia
 · obtain⟨b,eb,hb⟩:=hu x hx
   exact⟨b,_,eb,rfl,by lia⟩
 · rcases zJ.mp hq with hq|hq
   · obtain⟨b,eb,hb⟩:=hu q hq
     exact⟨b,eb,by lia⟩
   · rw[zk.mp hq]
     exact⟨_,rfl,Yc _⟩
end
theorem sQ(hp:p≠r):∀items a u v ns G,Dr G r->G[p]? =some (.lst (rsD ns))->Can ns->Up a ns->ns.length+items.length<=50->
 Wp (H0 (y0 3) SB (λ_=>true) items [some (.ref r),some (.ref p),some (.int a),u,v,w]) G λfl G'=>Fd2 r p G G'/\∃a' u' v' ns',fl= .nx [some (.ref r),some (.ref p),some (.int a'),u',v',w]/\G'[p]? =some (.lst (rsD ns'))/\Can ns'/\ns'.length<=ns.length+items.length
 |[],a,u,v,ns,G,h,e,hn,hu,hl=>E7.mpr ⟨rfl,(Fd.refl h).two,a,u,v,ns,rfl,e,hn,by simp⟩
 |d::t,a,u,v,ns,G,h,e,hn,hu,hl=>by
   simp only[zM]at hl
   refine P7.mpr ⟨rfl,O1.mpr<| (cZ hp h e hn hu (by lia)).mono ?_⟩
   rintro _ G1 ⟨f1,a1,v1,ns1,rfl,q2,q3,q3',q4⟩
   refine(sQ hp t a1 _ v1 ns1 G1 f1.2.2 q2 q3 q3' (by lia)).mono ?_
   rintro _ G2 ⟨f2,b1,b2,b3,b4,p1,p2,p3,p4⟩
   exact⟨f1.trans f2,b1,b2,b3,b4,p1,p2,p3,by simp only[zM];lia⟩
theorem fR(e:G[p]? =some (.lst (rsD ns))):Wp (neD (.ref p) (.ref G.length)) (G++[.lst []]) Q↔Q (.bl (!ns.isEmpty)) (G++[.lst []]):=by
 rw[hZ (V0 e) j8]
 unfold rsD
 rw[List.isEmpty_map]
theorem Can.noLow(h:Can (q::t)):Can ((none,q.2)::t):=by
 refine⟨λx hx=>?_,jf.mpr ⟨(jf.mp h.2).1,(jf.mp h.2).2⟩⟩
 rcases zp.mp hx with rfl|hx
 ·exact λ_ _ ea=>J7 ea
 ·exact h.1 x (zn _ hx)
theorem Can.noHigh(h:Can (t++[q])):Can (t++[(q.1,none)]):=by
 have hp:=yB.mp h.2
 exact Can.snoc ⟨λx hx=>h.1 x (jQ _ hx),hp.1⟩ (λ_ _ _ eb=>J7 eb) λx hx=>hp.2.2 x hx q (zk.mpr rfl)
theorem LM:ixN (l++[x]).length (-1)=some l.length:=by
 unfold ixN
 rw[if_neg (by lia),if_pos (by simp;lia)]
 congr 1
 simp;lia
section
variable{r p:Nat}{G:DH}{ns:List Rg}{a u v:Option D}{k:Nat}
def CQ(r p:Nat)(a u v:Option D)(k:Nat)(ns:List Rg)(G:DH)(fl:Fl)(G':DH):Prop:=Fd2 r p G G'/\∃ns',fl= .nx [some (.ref r),some (.ref p),a,u,v,some (.int (k:Int))]/\G'[p]? =some (.lst (rsD ns'))/\Can ns'/\ns'.length=ns.length
theorem Rp(hp:p≠r)(h:Dr G r)(e:G[p]? =some (.lst (rsD ns)))(hn:Can ns):Wp (SC1 [some (.ref r),some (.ref p),a,u,v,some (.int (k:Int))]) G (CQ r p a u v k ns G):=by
 have f1:Fd r G (G++[.lst []]):=Fd.app h
 refine Q0<| D7<| v9<| m8<| d7 rfl<| W3.mpr<| m5.mpr ⟨sz,(fR e).mpr ⟨_,rfl,λg=>?_,λg=>⟨λz=>(nomatch z),λ_=>j0.mpr ⟨f1.two,ns,rfl,V0 e,hn,rfl⟩⟩⟩⟩
 rcases ns with _|⟨q,t⟩
 ·cases g
 · have e2:=f1.at hp e
   refine v9<| m8<| o4 rfl rfl<| (u5 (by decide)).mpr<| d7 rfl<| O2.mpr ⟨_,rfl,λ_=>?_,λ_=>j0.mpr ⟨f1.two,q::t,rfl,e2,hn,rfl⟩⟩
   refine Z7.mpr<| N5.mpr<| K5 rfl<| m7<| m8<| ixv rfl rfl e2 (fG6 (l0:= []))<| d7 rfl<| (ix_tup).mpr ⟨l4 q.2,rfl,m5.mpr ⟨sz,tK (j:=0) rfl rfl e2 ?_ ?_⟩⟩
   ·unfold ixN;rw[if_pos (by lia),if_pos (by simp[rsD])];rfl
   ·exact⟨f1.two.trans (Fd2.set hp f1.2.2),(none,q.2)::t,rfl,zX (lt_of_get e2),hn.noLow,rfl⟩
theorem LV(hp:p≠r)(h:Dr G r)(e:G[p]? =some (.lst (rsD ns)))(hn:Can ns):Wp (SC2 [some (.ref r),some (.ref p),a,u,v,some (.int (k:Int))]) G (CQ r p a u v k ns G):=by
 have f1:Fd r G (G++[.lst []]):=Fd.app h
 refine Q0<| D7<| v9<| m8<| d7 rfl<| W3.mpr<| m5.mpr ⟨sz,(fR e).mpr ⟨_,rfl,λg=>?_,λg=>⟨λz=>(nomatch z),λ_=>j0.mpr ⟨f1.two,ns,rfl,V0 e,hn,rfl⟩⟩⟩⟩
 have hne:ns≠ []:=by rintro rfl;cases g
 clear g
 obtain⟨t,q,rfl⟩:∃(t:List Rg) (q:Rg),ns=t++[q]:=⟨_,_,(Xk hne).symm⟩
 have e2:=f1.at hp e
 refine v9<| m8<| m8<| o4 rfl rfl<| (M3 ⟨by decide,by decide⟩).mpr<| d7 rfl<| (u5 (by decide)).mpr<| d7 rfl<| O2.mpr ⟨_,rfl,λ_=>?_,λ_=>j0.mpr ⟨f1.two,t++[q],rfl,e2,hn,rfl⟩⟩
 rw[kH]at e2
 refine Z7.mpr<| N5.mpr<| m7<| m8<| ixv rfl rfl e2 (atI_last _ _)<| d7 rfl<| (ix_tup).mpr ⟨l4 q.1,rfl,d7 rfl ⟨sz,tK rfl rfl e2 LM ?_⟩⟩
 refine⟨f1.two.trans (Fd2.set hp f1.2.2),t++[(q.1,none)],rfl,?_,hn.noHigh,by simp⟩
 rw[zX (lt_of_get e2),kH,Jw _ _ (zo _),Jt];rfl
theorem Kf(h:Dr G r):Wp (U6 [.ref r]) G λx G'=>∃ns,x= .tup (rsD ns)/\Can ns/\ns.length<=6/\Fd r G G':=by
 refine J4 (show Wp (KG [some (.ref r),none,none,none,none,none]) G _ from ?_)
 rw[bS]
 have f1:Fd r G (G++[.lst []]):=Fd.app h
 have hp:G.length≠r:=by have:=h.lt;lia
 refine J6 (X2:= [some (.ref r),some (.ref G.length),none,none,none,none]) rfl<| d8.mpr<| K6<| m8<| mL.mpr<| j9 rfl rfl<| UJ f1.2.2 λk G1 f2=>Nb.mpr<| d7 rfl<| kA.mpr ?_
 refine d8.mpr<| A7.mpr<| rng1.mpr<| m7<| j9 rfl rfl<| MG f2.2.2 λm hm G2 f3=>m5.mpr<| (rng1_int ⟨by lia,by lia⟩).mpr ?_
 have f23:=f2.trans f3
 have e2:G2[G.length]? =some (.lst (rsD [])):=f23.at hp j8
 have hlen:(K3 0 (m:Int).toNat).length=m:=by unfold K3;rw[zc,jV,jX]
 refine(sQ hp (K3 0 (m:Int).toNat) _ none none [] G2 f3.2.2 e2 ⟨(λp hp=>by cases hp),.nil⟩ (λp hp=>by cases hp) (by rw[hlen];simp;lia)).mono ?_
 rintro _ G3 ⟨f4,lo',v4,v5,ns1,rfl,q2,q3,q4⟩
 refine d8.mpr<| K6<| j9 rfl rfl<| W5 f4.2.2 λn G4 f5=>?_
 refine d8.mpr<| (Rp hp f5.2.2 (f5.at hp q2) q3).mono ?_
 rintro _ G5 ⟨f6,ns2,rfl,q6,q7,q8⟩
 refine d8.mpr<| (LV hp f6.2.2 q6 q7).mono ?_
 rintro _ G6 ⟨f7,ns3,rfl,q10,q11,q12⟩
 have fb:=Fd.thru (f1.trans f23) (((f4.trans f5.two).trans f6).trans f7) (zo _)
 exact o9<| y3 rfl<| (S5 q10).mpr<| t8 ⟨ns3,rfl,q11,by rw[hlen]at q4;simp only[yy]at q4;lia,fb⟩
end
theorem Kp(a b:Str):L2.eqV (.str a) (.str b)= (a==b):=by rfl
theorem OH{s:List Str}:inB (.str z) (.tup (s.map D.str)) G=some (decide (z∈s)):=by
 have hf:(F3 (.str z)&&(s.map D.str).all F3)=true:=by simp[F3,ZB]
 unfold inB
 simp only[hf,if_true]
 congr 1
 unfold L2.inV
 rw[xa,YJ]
 induction s with
 |nil=>rfl
 |cons a r ih=>
   rw[yb,ih (by simp[F3,ZB])]
   have e:((λy=>L2.eqV y (toV (.str z)))∘(toV∘D.str)) a= (a==z):=Kp a z
   rw[e]
   by_cases h:a=z
   ·simp[h]
   · have:¬z=a:=λe=>h e.symm
     simp[h,this]
theorem aZ(h:z.length<=zg):Wp (O9 [.str z]) G Q↔Q (AD (.str z)) G:=by
 unfold O9 kK
 have s0:([D.str z].map some++zm (1 - [D.str z].length) none:DSt)= [some (.str z)]:=rfl
 simp only[iA,s0,LA,N5,y9,D6,m5,u4,zZ,exists_eq_left',zQ,bA h]
 exact⟨λq=>q.2,λq=>⟨sz,q⟩⟩
theorem ON:∀(s:List Str) G,(∀z∈s,z.length<=zg)->N3 O9 (s.map D.str) G=some (.ok (s.map λz=>AD (.str z)),G)
 |[],G,_=>rfl
 |a::r,G,h=>by
   have h1:noX (O9 [.str a]) G=some (.ok (AD (.str a)),G):=R8 (kB.mpr ((aZ (h a (by simp))).mpr ⟨rfl,rfl⟩))
   have h2:=ON r G λz hz=>h z (by simp[hz])
   show (noX (O9 [.str a]) >>= λk=>N3 O9 (r.map D.str) >>= λks=>pure (k::ks)) G=_
   rw[M.bind_ok h1,M.bind_ok h2]
   rfl
theorem IR{Q:DPP}(e:G[q]? =some (.lst (ks.map D.str)))(nd:ks.Nodup)(h64:ks.length<64)(hz:∀z∈ks,z.length<=zg)(hq:∀m,Ris m->m.Perm ks->Q (.ref G.length) (G++[.lst (m.map D.str)])):Wp (uA O9 (.ref q)) G Q:=by
 obtain⟨m,e1,e2,e3⟩:=nX nd
 have nd2:(ks.map λz=>(((z.length:Int),z):Int×Str)).Nodup:=by
  rw[List.Nodup,yf]
  exact nd.imp λ{a b} h e=>h (yV e).2
 have hl:(ks.map D.str).length<64:=by rw[zc];exact h64
 unfold uA
 simp only[j5,O5,e,R5,if_pos hl,gA]
 refine(lB (ON ks G hz)).mpr ?_
 rw[L4,QT]
 refine⟨_,rfl,?_⟩
 rw[if_pos nd2,R3,e1]
 exact hq m e2 e3
theorem lI{s:List Str}(e:G[q]? =some (.lst (s.map D.str))):inB (.str z) (.ref q) G=some (decide (z∈s)):=by
 have h:=OH (z:=z) (s:=s) (G:=G)
 have e2:inB (.str z) (.ref q) G=inB (.str z) (.tup (s.map D.str)) G:=by
  simp only[inB,e]
 rw[e2,h]
theorem pM:∀ss:List Str,(ZX ("" :Str) ss).cps.toList= (ss.map λz=>z.cps.toList).flatten:=λss=>by
 have go:∀(r:List Str) (acc:Array Nat),(r.foldl (λacc p=>acc++("" :Str).cps++p.cps) acc).toList=acc.toList++(r.map λz=>z.cps.toList).flatten:=λr=>by
  induction r with
  |nil=>intro acc;simp
  |cons p r ih=>
    intro acc
    rw[Xj,ih,Yd,Yd,zL,yg,show ("" :Str).cps.toList= []from rfl,yz,xA]
 rcases ss with _|⟨a,r⟩
 ·rfl
 ·exact go r a.cps
theorem TY:∀c∈("abcdefghijklmnopqrstuvwxyz" :Str).cps.toList,IA c=true:=by decide +kernel
def cN(y:D):Prop:=∃c:Nat,IA c=true/\y= .str ⟨#[c]⟩
theorem aO:∀ {zs},(∀y∈zs,cN y)->∃ss:List Str,zs=ss.map D.str/\ss.length=zs.length/\(ss.map λz=>z.length).sum=zs.length/\∀c∈(ss.map λz=>z.cps.toList).flatten,IA c=true
 |[],_=>⟨[],rfl,rfl,rfl,λ_ h=>nomatch h⟩
 |y::t,h=>by
   obtain⟨c,hc,rfl⟩:=h _ (zt ..)
   obtain⟨ss,h1,h2,h3,h4⟩:=aO λy hy=>h y (zn _ hy)
   refine⟨⟨#[c]⟩::ss,by rw[zL,h1],by simp[h2],?_,λx hx=>?_⟩
   · rw[zL,List.sum_cons,h3,zM]
     show 1+_=_
     lia
   · rw[zL,yg]at hx
     rcases zJ.mp hx with hx|hx
     ·rw[show x=c from zk.mp hx];exact hc
     ·exact h4 x hx
theorem Wg:∀z∈(["", "a", "b", "aa", "ab", "ca"]:List Str),Tx z:=by
 intro z hz
 simp only[zp,zS,or_false]at hz
 rcases hz with rfl|rfl|rfl|rfl|rfl|rfl<;>exact⟨by decide +kernel,by decide +kernel⟩
section
theorem BM(h:Dr G r):Wp (vD [.ref r]) G λx G'=>(∃z,x= .str z/\Tx z)/\Fd r G G':=by
 have bg:=big
 refine J4 (show Wp (tJ [some (.ref r),none]) G _ from ?_)
 refine d8.mpr<| K6<| j9 rfl rfl<| W5 h λk G1 f1=>d8.mpr<| Q0<| v9<| m8<| o4 rfl rfl<| (u5 (by decide)).mpr<| d7 rfl<| O2.mpr ⟨_,rfl,λ_=>?_,λ_=>j0.mpr ?_⟩
 · have a1:0<=(k:Int) / 9 % 21:=jp _ (by decide)
   have a2:(k:Int) / 9 % 21<21:=jn _ (by decide)
   refine o9<| E6.mpr<| d7 rfl ?_
   refine dR1.mpr<| m7<| wp_comp.mpr<| rng1.mpr<| m7<| m8<| o4 rfl rfl<| (M3 ⟨by decide,by decide⟩).mpr<| d7 rfl<| (u5 (by decide)).mpr<| m5.mpr<| (rng1_int ⟨by lia,by lia⟩).mpr ?_
   have ln:(K3 0 ((k:Int) / 9 % 21).toNat).length= ((k:Int) / 9 % 21).toNat:=by unfold K3;rw[zc,jV]
   refine⟨by show (K3 0 ((k:Int) / 9 % 21).toNat).length<=_;rw[ln];lia,(l5 (Fd r G1) (λσ=>∃u,σ= [u,some (.ref r)]) (λ_ y=>cN y) (λ_ _=>rfl) _ _ G1 ⟨_,rfl⟩ (Fd.refl f1.2.2) ?_).mono ?_⟩
   · rintro d hd _ G3 ⟨v,rfl⟩ j
     refine O1.mpr ⟨rfl,⟨_,rfl⟩,m8<| d7 rfl<| m8<| j9 rfl rfl<| W5 j.2.2 λi G4 f4=>d7 rfl<| (u5 (by decide)).mpr ?_⟩
     have b1:0<=(i:Int) % 26:=jp _ (by decide)
     have b2:(i:Int) % 26<26:=jn _ (by decide)
     have hA:("abcdefghijklmnopqrstuvwxyz" :Str).length=26:=by rfl
     exact vW (by lia) b1 (by lia) λc hc=>⟨j.trans f4,c,TY c hc,rfl⟩
   · rintro _ G3 ⟨f3,zs,e1,rfl,hz⟩
     obtain⟨ss,h1,h2,h3,h4⟩:=aO λy hy=>by
      obtain⟨z,hzm,rfl⟩:=zG.mp hy
      exact hz z hzm
     have lz:(zs.map (·.2)).length= ((k:Int) / 9 % 21).toNat:=by
      have:=congrArg xl e1
      rw[zc]at this
      rw[zc,this]
      exact ln
     have hs:("" :Str).length=0:=rfl
     refine m5.mpr<| (Tj j8 (by rw[h1];exact KJ ss) ?_).mpr ?_
     · rw[h3,hs,Nat.mul_zero,Nat.add_zero,lz]
       lia
     · refine t8 ⟨⟨_,rfl,?_,?_⟩,f1.trans (f3.trans (Fd.app f3.2.2))⟩
       · show (ZX ("" :Str) ss).cps.toList.all IA=true
         rw[pM]
         exact jS.mpr h4
       · show (ZX ("" :Str) ss).cps.toList.length<=1000
         rw[pM,List.length_flatten,xa]
         have:(ss.map (xl∘λz=>z.cps.toList)).sum= (zs.map (·.2)).length:=h3
         rw[this,lz]
         lia
 · have a1:0<=(k:Int) / 9 % 6:=jp _ (by decide)
   have a2:(k:Int) / 9 % 6<6:=jn _ (by decide)
   refine o9<| m8<| W3.mpr<| d7 rfl ⟨sz,m8<| o4 rfl rfl<| (M3 ⟨by decide,by decide⟩).mpr<| d7 rfl<| (u5 (by decide)).mpr<| (E5 j8).mpr ?_⟩
   obtain⟨d,hd,e⟩:=vE (l:=([("" :Str), "a", "b", "aa", "ab", "ca"]).map D.str) a1 (by exact a2)
   obtain⟨z,hz,rfl⟩:=zG.mp hd
   exact⟨_,e,t8 ⟨⟨z,rfl,Wg z hz⟩,f1.trans (Fd.app f1.2.2)⟩⟩
end
theorem Rk:EF=j6 (v8 (T7 g0) (y0 1)) (j6 (S1 (T4 (d0 (x0 (fnX 1 T9) (d0 (b8 0) g0)) g0)) (y0 2) WB) (t6 (x0 T8 (d0 (mB O9 (b8 1)) g0)))):=rfl
def Wd(ss:List Str):Prop:=ss.Nodup/\∀z∈ss,Tx z
theorem Rf{u v:Option D}(hp:p≠r)(h:Dr G r)(e:G[p]? =some (.lst (ss.map D.str)))(hs:Wd ss)(hl:ss.length<=1000):
 Wp (WB [some (.ref r),some (.ref p),u,v]) G λfl G'=>Fd2 r p G G'/\∃v' ss',fl= .nx [some (.ref r),some (.ref p),u,v']/\G'[p]? =some (.lst (ss'.map D.str))/\Wd ss'/\ss'.length<=ss.length+1:=by
 have bg:=big
 refine d8.mpr<| K6<| j9 rfl rfl<| (BM h).mono ?_
 rintro _ G1 ⟨⟨z,rfl,hz⟩,f1⟩
 have e1:=f1.at hp e
 refine Q0<| v9<| m8<| d7 rfl<| d7 rfl<| KL.mpr ⟨_,lI e1,_,rfl,λhm=>?_,λ_=>j0.mpr ⟨f1.two,_,ss,rfl,e1,hs,by lia⟩⟩
 have hm:z∉ss:=by simpa using hm
 refine NC.mpr<| E6.mpr<| d7 rfl<| (L9 e1).mpr<| d7 rfl<| (ED e1 (by rw[zc];lia)).mpr ?_
 refine⟨f1.two.trans (Fd2.set hp f1.2.2),_,ss++[z],rfl,by rw[zX (lt_of_get e1),jG];rfl,⟨?_,λy hy=>?_⟩,by simp⟩
 · rw[YH]
   exact⟨hs.1,by simp,λa ha b hb=>by rw[zk]at hb;subst hb;exact λe=>hm (by rw[<-e];exact ha)⟩
 · rcases zJ.mp hy with hy|hy
   ·exact hs.2 y hy
   ·rw[zk]at hy;subst hy;exact hz
theorem CN(hp:p≠r):∀items u v ss G,Dr G r->G[p]? =some (.lst (ss.map D.str))->Wd ss->ss.length+items.length<=50->
 Wp (H0 (y0 2) WB (λ_=>true) items [some (.ref r),some (.ref p),u,v]) G λfl G'=>Fd2 r p G G'/\∃u' v' ss',fl= .nx [some (.ref r),some (.ref p),u',v']/\G'[p]? =some (.lst (ss'.map D.str))/\Wd ss'/\ss'.length<=ss.length+items.length
 |[],u,v,ss,G,h,e,hs,hl=>E7.mpr ⟨rfl,(Fd.refl h).two,u,v,ss,rfl,e,hs,by simp⟩
 |d::t,u,v,ss,G,h,e,hs,hl=>by
   simp only[zM]at hl
   refine P7.mpr ⟨rfl,O1.mpr<| (Rf hp h e hs (by lia)).mono ?_⟩
   rintro _ G1 ⟨f1,v1,ss1,rfl,q2,q3,q4⟩
   refine(CN hp t _ v1 ss1 G1 f1.2.2 q2 q3 (by lia)).mono ?_
   rintro _ G2 ⟨f2,b1,b2,b3,p1,p2,p3,p4⟩
   exact⟨f1.trans f2,b1,b2,b3,p1,p2,p3,by simp only[zM];lia⟩
theorem wL(h:Dr G r):Wp (wB [.ref r]) G λx G'=>∃ss,x= .tup (ss.map D.str)/\Rw ss/\ss.length<=6/\Fd r G G':=by
 have bg:=big
 refine J4 (show Wp (EF [some (.ref r),none,none,none]) G _ from ?_)
 rw[Rk]
 have fd:Fd r G (G++[DO.lst []]):=Fd.app h
 have hp:G.length≠r:=by have:=h.lt;lia
 refine J6 (X2:= [some (.ref r),some (.ref G.length),none,none]) rfl<| d8.mpr<| A7.mpr<| rng1.mpr<| m7<| j9 rfl rfl<| MG fd.2.2 λm hm G2 f2=>m5.mpr<| (rng1_int ⟨by lia,by lia⟩).mpr ?_
 have e2:G2[G.length]? =some (.lst (([]:List Str).map D.str)):=f2.at hp j8
 have hlen:(K3 0 (m:Int).toNat).length=m:=by unfold K3;rw[zc,jV,jX]
 refine(CN hp (K3 0 (m:Int).toNat) none none [] G2 f2.2.2 e2 ⟨List.nodup_nil,λz hz=>nomatch hz⟩ (by rw[hlen];simp;lia)).mono ?_
 rintro _ G3 ⟨f3,u',v',ss,rfl,q2,q3,q4⟩
 rw[hlen,yy]at q4
 refine o9<| M8<| m7<| QW.mpr<| d7 rfl<| IR q2 q3.1 (by lia) (λz hz=>zI (q3.2 z hz).2 (by lia)) λm' rm pm=>m5.mpr<| (S5 j8).mpr ?_
 have fr:=(fd.trans f2).thru f3 (zo _)
 have hl:=pm.length_eq
 exact t8 ⟨m',rfl,⟨rm,λz hz=>q3.2 z (pm.mem_iff.mp hz),by lia⟩,by lia,fr.trans (Fd.app fr.2.2)⟩
theorem Dd{c:Int}{k:Nat}{G:DH}{Q:DPP}(hk:k<=1000)(q:∀m:Nat,Q (.int (m:Int)) G):Wp (IC [.int c,.int (k:Int)]) G Q:=by
 have s0:([D.int c,D.int (k:Int)].map some++zm (3 - [D.int c,D.int (k:Int)].length) none:DSt)= [some (.int c),some (.int (k:Int)),none]:=rfl
 have b:∀x:Int,0<=x % 2147483647/\x % 2147483647<2147483647:=λx=>⟨jp _ (by decide),jn _ (by decide)⟩
 have b':∀x:Int,0<=x % 2147483629/\x % 2147483629<2147483629:=λx=>⟨jp _ (by decide),jn _ (by decide)⟩
 have m1:L3 40692 ((k:Int)+1):=Or.inl ⟨by decide,by decide⟩
 have mm:∀x:Int,0<=x->x<2147483647->L3 x x:=λx h1 h2=>Or.inl ⟨by lia,by lia⟩
 have m3:∀x:Int,L3 48271 x:=λx=>Or.inl ⟨by decide,by decide⟩
 have m4:∀x:Int,L3 x 69621:=λx=>Or.inr ⟨by decide,by decide⟩
 unfold IC mI
 simp only[iA,s0,d8,Z7,O1,LA,c9,A3,u4,zZ,exists_eq_left',zQ,jq,yp,yq,u5 (show (0:Int)<2147483647 by decide),u5 (show (0:Int)<2147483629 by decide),Z2,L5 m1]
 generalize hx:(c % 2147483647+40692*((k:Int)+1)) % 2147483647=x
 have hb:=b (c % 2147483647+40692*((k:Int)+1))
 rw[hx]at hb
 simp only[L5 (mm x hb.1 hb.2),L5 (m3 x),Z2]
 generalize hy:(x*x+48271*x+(k:Int)) % 2147483647=y
 have hb2:=b (x*x+48271*x+(k:Int))
 rw[hy]at hb2
 simp only[u5 (show (0:Int)<2147483647 by decide),hy,L5 (mm y hb2.1 hb2.2),u5 (show (0:Int)<2147483629 by decide),L5 (m4 _),M3 (show (0:Int)<8/\(8:Int)<2 ^ 100 by decide)]
 obtain⟨n,hn⟩:=yK (b' (y*y % 2147483629*69621)).1
 rw[hn]
 have:=q (n / 8)
 simpa using this
theorem wj{a b:Nat}(h:0<b):Wp (K1 (.int (a:Int)) (.int (b:Int))) G Q↔Q (.int ((a % b:Nat):Int)) G:=by rw[u5 (by lia)];simp
theorem Qj{a b:Nat}(h:0<b)(h2:b<1000):Wp (M4 (.int (a:Int)) (.int (b:Int))) G Q↔Q (.int ((a / b:Nat):Int)) G:=by rw[M3 ⟨by lia,by lia⟩];simp
theorem QD{p k:Nat}(e:G[p]? =some (.lst l))(h:l[k]? =some d):Wp (ixD (.ref p) (.int (k:Int))) G Q↔Q d G:=by
 rw[E5 e,atI_nat h];exact R5
theorem NF{p:Nat}{l:List D}{G:DH}{Q:DPP}(e:G[p]? =some (.lst l)):Wp (V9 [.ref p]) G Q↔Q (.int (l.length:Int)) G:=by
 unfold V9
 simp only[j5,O5,e,R5,j7]
def N2(ns:List Nat):List D:=ns.map λn:Nat=>D.int (n:Int)
structure PuI(pc pr pp:Nat)(cs:List Int)(rs ns:List Nat)(G:DH):Prop where
 c:G[pc]? =some (.lst (cs.map D.int))
 r:G[pr]? =some (.lst (N2 rs))
 p:G[pp]? =some (.lst (N2 ns))
 n0:0<cs.length
 nl:cs.length<=100
 eq:rs.length=cs.length
 ne:pc≠pr/\pc≠pp/\pr≠pp
theorem PuI.at{pc pr pp:Nat}{cs:List Int}{rs ns:List Nat}{G:DH}(I:PuI pc pr pp cs rs ns G){k:Nat}(hk:k<cs.length):(∃n:Nat,rs[k]? =some n)/\∃c:Int,cs[k]? =some c:=by
 refine⟨⟨rs[k]'(by rw[I.eq];exact hk),ze _⟩,⟨cs[k],ze _⟩⟩
def Gr3(pr pp:Nat)(G G':DH):Prop:=G'.length=G.length/\∀i,i≠pr->i≠pp->G'[i]? =G[i]?
theorem tT{pc pr pp k:Nat}{rs ns:List Nat}(I:PuI pc pr pp cs rs ns G)(hn:ns.length<=1000)(hk:k<=1000):
 Wp (PB [o0,o1,o2,o3,some (.ref pc),some (.ref pr),some (.ref pp),some (.int (k:Int)),u]) G λfl G'=>Gr3 pr pp G G'/\∃u' rs' ns',fl= .nx [o0,o1,o2,o3,some (.ref pc),some (.ref pr),some (.ref pp),some (.int (k:Int)),u']/\PuI pc pr pp cs rs' ns' G'/\ns'.length=ns.length+1:=by
 have bg:=big
 unfold PB
 have hlc:(cs.map D.int).length=cs.length:=zc _
 simp only[d8,Z7,O1,C9,pB,NC,E6,NG,c9,y9,D6,m5,A3,u4,U8,zZ,exists_eq_left',zQ,jq,yp,yq,NF I.c,hlc,wj I.n0]
 have hm:k % cs.length<cs.length:=Nat.mod_lt _ I.n0
 generalize hj:k % cs.length=j at hm ⊢
 obtain⟨⟨n,en⟩,c,ec⟩:=I.at hm
 have en':(N2 rs)[j]? =some (.int (n:Int)):=by unfold N2;rw[zB,en];rfl
 have ec':(cs.map D.int)[j]? =some (.int c):=by rw[zB,ec];rfl
 have hjr:j<rs.length:=by rw[I.eq];exact hm
 have hnl:(N2 ns).length=ns.length:=zc _
 rw[QD I.r en',kc]
 simp only[LF]
 by_cases h0:(0:Int)<(n:Int)
 · simp only[h0,decide_true,if_true]
   rw[L9 I.p,QD I.r en',u5 (by decide),ED I.p (by lia)]
   have lp:=lt_of_get I.p
   have lr:=lt_of_get I.r
   have r1:(G.set pp (.lst (N2 ns++[.int ((n:Int) % 1000003)])))[pr]? =some (.lst (N2 rs)):=by rw[jb (Ne.symm I.ne.2.2)];exact I.r
   rw[QD r1 en',M3 (by decide),nM r1 (j:=j) (by unfold ixN N2;simp;lia)]
   refine⟨⟨by simp,λi h1 h2=>by rw[jb (Ne.symm h1),jb (Ne.symm h2)]⟩,_,rs.set j (n / 1000003),ns++[n % 1000003],rfl,⟨?_,?_,?_,I.n0,I.nl,by rw[xS];exact I.eq,I.ne⟩,by simp⟩
   ·rw[jb (Ne.symm I.ne.1),jb (Ne.symm I.ne.2.1)];exact I.c
   · rw[zX (lt_of_get r1)]
     unfold N2
     rw[List.map_set]
     simp
   · rw[jb I.ne.2.2,zX lp]
     unfold N2
     rw[jG]
     simp
 · simp only[h0,decide_false,jw,if_false]
   rw[L9 I.p,QD I.c ec',NF I.c,hlc,Qj I.n0 (by have:=I.nl;lia)]
   refine⟨rfl,Dd (zI (Nat.div_le_self _ _) hk) λm=>?_⟩
   rw[ED I.p (by lia)]
   refine⟨⟨by simp,λi h1 h2=>by rw[jb (Ne.symm h2)]⟩,_,rs,ns++[m],rfl,⟨?_,?_,?_,I.n0,I.nl,I.eq,I.ne⟩,by simp⟩
   ·rw[jb (Ne.symm I.ne.2.1)];exact I.c
   ·rw[jb (Ne.symm I.ne.2.2)];exact I.r
   · rw[zX (lt_of_get I.p)]
     unfold N2
     rw[jG]
     simp
theorem KO:∀m j v u rs ns G,PuI pc pr pp cs rs ns G->ns.length+m<=1000->j+m<=1000->
 Wp (H0 (y0 7) PB (λ_=>true) ((List.range' j m).map fun(i:Nat)=>D.int (0+(i:Int))) [o0,o1,o2,o3,some (.ref pc),some (.ref pr),some (.ref pp),v,u]) G λfl G'=>Gr3 pr pp G G'/\∃v' u' rs' ns',fl= .nx [o0,o1,o2,o3,some (.ref pc),some (.ref pr),some (.ref pp),v',u']/\PuI pc pr pp cs rs' ns' G'
 |0,j,v,u,rs,ns,G,I,hn,hj=>by
   simp only[List.range'_zero,xX,E7]
   exact⟨trivial,⟨rfl,λ_ _ _=>rfl⟩,_,_,rs,ns,rfl,I⟩
 |m+1,j,v,u,rs,ns,G,I,hn,hj=>by
   simp only[List.range'_succ,zL,P7,O1,yq,yp]
   refine⟨trivial,?_⟩
   rw[show (0+(j:Int))= (j:Int) by lia]
   refine Wp.mono (tT I (by lia) (by lia)) λfl G1 ⟨g1,u1,rs1,ns1,e1,I1,hl1⟩=>?_
   subst e1
   exact Wp.mono (KO m (j+1) _ _ rs1 ns1 G1 I1 (by lia) (by lia)) λfl G2 ⟨g2,h2⟩=>⟨⟨g2.1.trans g1.1,λi a b=>(g2.2 i a b).trans (g1.2 i a b)⟩,h2⟩
theorem tU:eI=j6 (v8 (kD (b8 0) (S8 (b8 1)) (S8 (cE (.int 126))) (S8 (b8 2))) (y0 4)) (j6 (ifS (m6 (c7 eqD (b8 4) (T7 g0))) (v8 (T7 (d0 (b8 1) g0)) (y0 4)) m9) PT):=rfl
theorem Pv:Wp (geD (.int i) (.int j)) G Q↔Q (.bl (decide (j<=i))) G:=j7
def u8(c:Int):Nat:=if 1000000000000000000<=c.natAbs then c.natAbs else 0
theorem bT{cs:List Int}(e:G[p]? =some (.lst (cs.map D.int)))(hl:cs.length<=100)(q:Q (.ref G.length) (G++[.lst (N2 (cs.map u8))])):Wp (PR [o0,o1,o2,o3,some (.ref p),o5,o6,o7,o8]) G Q:=by
 have bg:=big
 unfold PR
 have hs:itW (b8 4) [o0,o1,o2,o3,some (.ref p),o5,o6,o7,o8] G=some (.ok ⟨cs.map D.int,ckO p (.lst (cs.map D.int))⟩,G):=by
  obtain⟨a,G',e1,e2⟩:=(show Wp (itW (b8 4) [o0,o1,o2,o3,some (.ref p),o5,o6,o7,o8]) G λa G'=>a= ⟨cs.map D.int,ckO p (.lst (cs.map D.int))⟩/\G'=G by
   simp only[wp_itW,u4,zQ,jq,zZ,exists_eq_left']
   rw[iB e]
   exact⟨rfl,rfl⟩)
  rw[e2.1,e2.2]at e1
  exact e1
 rw[eD6 (λσ=>σ.length=1) hs (by show (cs.map D.int).length<=_;rw[zc];lia) (by simp only[ckO,e];simp) rfl (λx hx σ WK=>?_)]
 · have em:(cs.map D.int).map (λx=>match x with| .int c=>D.int (u8 c:Int)|_=>.non)=N2 (cs.map u8):=by
    unfold N2
    rw[xa,xa]
    rfl
   show Q (.ref G.length) (G++[.lst ((cs.map D.int).map λx=>match x with| .int c=>D.int (u8 c:Int)|_=>.non)])
   rw[em]
   exact q
 · obtain⟨c,hc,rfl⟩:=zG.mp hx
   match σ,WK with
   |[u],_=>
     refine⟨[some (.int c)],rfl,rfl,rfl,R8 ?_⟩
     simp only[c9,y9,D6,m5,A3,u4,zQ,zZ,exists_eq_left',AS,p18,Pv,bZ]
     have ea:(if c<0 then -c else c)= (c.natAbs:Int):=by split<;>lia
     rw[ea]
     by_cases h1:1000000000000000000<=c.natAbs
     · have h1':decide ((1000000000000000000:Int)<=(c.natAbs:Int))=true:=decide_eq_true (by lia)
       rw[h1',if_pos rfl,L5 (Or.inr ⟨by decide,by decide⟩)]
       unfold u8
       rw[if_pos h1]
       exact⟨by simp,rfl⟩
     · have h1':decide ((1000000000000000000:Int)<=(c.natAbs:Int))=false:=decide_eq_false (by lia)
       rw[h1',if_neg (by decide),L5 (Or.inr ⟨by decide,by decide⟩)]
       unfold u8
       rw[if_neg h1]
       exact⟨by simp,rfl⟩
theorem oX{ns:List Int}{lo hi st:Option Int}:∃cs:List Int,fE (ns.map D.int) lo hi st=cs.map D.int/\cs.length<=ns.length:=by
 refine⟨(w9 ns.length lo hi st).filterMap (ns[·]?),?_,?_⟩
 · unfold fE
   rw[zc,List.map_filterMap]
   congr 1
   funext i
   rw[zB]
 · have h:=slicePick_size_le (ns.map λi=>Value.none).toArray lo hi st
   unfold XG at h
   rw[zi,zi,zc]at h
   refine zI (xG ?_) h
   unfold w9
   generalize sliceRange _ _ _=is
   induction is with
   |nil=>rfl
   |cons i r ih=>
     rw[jK,jK]
     by_cases hi:i<ns.length
     ·simp[hi,ih]
     ·simp[hi,ih]
theorem HM{st:Int}{cs:List Int}{G G1:DH}(g1:Gr G G1)(e1:G1[pc]? =some (.lst (cs.map D.int)))(h0:0<cs.length)(hl:cs.length<=63)(hpc:G.length<=pc):
 Wp (PT [some (.ref p0),some (.int a),some (.int st),some (.int 60),some (.ref pc),none,none,none,none]) G1 λfl G'=>∃r,fl= .rt (.ref r)/\Dr G' r/\Gr G G'/\G.length<=r:=by
 unfold PT
 simp only[d8,Z7,O1,W3,m5,yp,yq]
 refine bT e1 (by lia) ⟨sz,?_⟩
 have l1:=lt_of_get e1
 rw[A7]
 simp only[rng1,D6,m5,u4,zZ,exists_eq_left',zQ,jq]
 rw[rng1_int ⟨by decide,by decide⟩]
 have er:K3 0 (60:Int).toNat= (List.range' 0 60).map fun(i:Nat)=>D.int (0+(i:Int)):=by
  unfold K3
  rw[List.range_eq_range']
  rfl
 show Wp (H0 (y0 7) PB (λ_=>true) (K3 0 (60:Int).toNat) _) _ _
 rw[er]
 have I:PuI pc G1.length (G1++[DO.lst (N2 (cs.map u8))]).length cs (cs.map u8) [] (G1++[DO.lst (N2 (cs.map u8))]++[DO.lst []]):=⟨V0 (V0 e1),V0 j8,j8,h0,by lia,by simp,by simp;lia⟩
 refine Wp.mono (KO 60 0 none none _ _ _ I (by simp) (by lia)) λfl G3 ⟨g3,v',u',rs',ns',e3,I3⟩=>?_
 subst e3
 simp only[LA,mL,u4,zZ,exists_eq_left',zQ,jq]
 rw[Hg I3.p]
 have hlen:=g3.1
 simp only[zA,jc]at hlen
 refine⟨_,rfl,⟨ns'.reverse,by rw[j8];unfold N2;rw[List.map_reverse]⟩,?_,?_⟩
 · refine⟨?_,λi hi=>?_⟩
   · have:=g1.1
     simp only[zA,jc];lia
   · have:=g1.1
     rw[zK (by lia),g3.2 i (by lia) (by simp;lia),zK (by simp;lia),zK (by lia),g1.2 i hi]
 · have:=g1.1
   lia
theorem OI{p0:Nat}{a:Nat}{st:Int}(h0:st≠0){ns:List Int}(e:G[p0]? =some (.rol (ns.map D.int)))(hn:ns.length<=63):Wp (S7 [.ref p0,.int (a:Int),.int st,.int 60]) G λx G'=>∃r,x= .ref r/\Dr G' r/\Gr G G'/\G.length<=r:=by
 have bg:=big
 unfold S7
 rw[tU]
 have s0:([D.ref p0,.int (a:Int),.int st,.int 60].map some++zm (9 - [D.ref p0,.int (a:Int),.int st,.int 60].length) none:DSt)= [some (.ref p0),some (.int (a:Int)),some (.int st),some (.int 60),none,none,none,none,none]:=rfl
 simp only[iA,s0,d8,Z7,O1,C9,pB,c9,W3,D6,m5,A3,u4,j0,iZ,CZ,Qq,zZ,exists_eq_left',zQ,jq,yp,yq]
 rw[Sd e (by simpa using h0)]
 obtain⟨cs,ec,hc⟩:=oX
 rw[ec]
 refine⟨sz,?_⟩
 rw[nH (V0 j8) j8]
 simp only[LF]
 cases cs with
 |nil=>
   simp only[xX,List.isEmpty_nil,if_true]
   refine⟨sz,?_⟩
   refine Wp.mono (HM (cs:= [(a:Int)]) (Gr.app.trans (Gr.app.trans Gr.app)) j8 (by simp) (by simp) (by simp)) λfl G' ⟨r,e1,h1⟩=>?_
   subst e1
   exact⟨r,rfl,h1⟩
 |cons c0 cr=>
   simp only[zL,List.isEmpty_cons,jw,if_false]
   refine Wp.mono (HM (cs:=c0::cr) (Gr.app.trans Gr.app) (V0 j8) (by simp) (by lia) (zo _)) λfl G' ⟨r,e1,h1⟩=>?_
   subst e1
   exact⟨r,rfl,h1⟩
def DC(n:Nat)(c:CS n):Prop:=Gd n c/\SzC n 6 c
def LOk(n:Nat)(r:Option (List (CS n)×CS n)):Prop:=L7 (inC n) (Gd n) r/\lsZ n 6 r
def ROk(n:Nat)(r:Option (List (Str×Bool×CS n)×CS n)):Prop:=S2 (inC n) (Gd n) r/\rsZ n 6 r
def tF(n:Nat):CS (n+1):=some (E2 _)
theorem sK:∀n k,SzC n k (P2 n)
 |0,_=>trivial
 |_+1,_=>λ_ e=>nomatch e
theorem kO(n:Nat):DC n (P2 n):=⟨PF n,sK n 6⟩
theorem uG(n:Nat):DC (n+1) (tF n):=⟨vO,by
 rintro _ ⟨⟩
 exact⟨zY _,zY _,λ_ h=>(nomatch h),λ_ _ e=>(nomatch e),λ_ _ e=>(nomatch e)⟩⟩
theorem Sm:LOk n none:=⟨λ_ _ e=>(nomatch e),λ_ _ e=>(nomatch e)⟩
theorem LY:ROk n none:=⟨λ_ _ e=>(nomatch e),λ_ _ e=>(nomatch e)⟩
theorem NJ:LOk n (some ([],P2 n)):=⟨by rintro _ _ ⟨⟩;exact⟨PF n,λ_ h=>(nomatch h)⟩,by rintro _ _ ⟨⟩;exact⟨zY _,sK n 6,λ_ h=>(nomatch h)⟩⟩
theorem uH:ROk n (some ([],P2 n)):=⟨by rintro _ _ ⟨⟩;exact⟨PF n,.nil,λ_ h=>(nomatch h)⟩,by rintro _ _ ⟨⟩;exact⟨zY _,sK n 6,λ_ h=>(nomatch h)⟩⟩
theorem LH:J5 [] G=some (.ok A2,G):=rfl
theorem tO:GB [] G=some (.ok evD,G):=rfl
theorem tP:(k:Int) / 8 % 2=0\/(k:Int) / 8 % 2=1:=by
 have a1:0<=(k:Int) / 8 % 2:=jp _ (by decide)
 have a2:(k:Int) / 8 % 2<2:=jn _ (by decide)
 lia
theorem KY:∃b,atI [D.non,.tup [.tup [],.str B3]] ((k:Int) / 8 % 2)=some (lsD (enC n) b)/\LOk n b:=by
 rcases tP with z|z
 ·exact⟨none,by rw[z];rfl,Sm⟩
 ·exact⟨some ([],P2 n),by rw[z];show _=some (D.tup [.tup [],enC n (P2 n)]);rw[oK];rfl,NJ⟩
theorem Bx:∃b,atI [D.non,.tup [.tup [],.str B3]] ((k:Int) / 8 % 2)=some (rcD (enC n) b)/\ROk n b:=by
 rcases tP with z|z
 ·exact⟨none,by rw[z];rfl,LY⟩
 ·exact⟨some ([],P2 n),by rw[z];show _=some (D.tup [.tup [],enC n (P2 n)]);rw[oK];rfl,uH⟩
def DAt(d:Nat)(R:List D->M D):Prop:=∀(G:DH) (r:Nat),Dr G r->Wp (R [.ref r,.int (d:Int)]) G λx G'=>Fd r G G'/\∃c,x=enC (d+1) c/\DC (d+1) c
section
variable{r d:Nat}{G:DH}{R:List D->M D}
theorem VO(ih:DAt d R)(h:Dr G r):Wp (V7 R [.ref r,.int (k:Int),.int (d:Int)]) G λx G'=>Fd r G G'/\∃c,x=enC (d+1) c/\DC (d+1) c:=by
 refine J4 (show Wp (kG R [some (.ref r),some (.int (k:Int)),some (.int (d:Int))]) G _ from ?_)
 unfold kG
 refine d8.mpr<| Q0<| v9<| m8<| o4 rfl rfl<| (u5 (by decide)).mpr<| d7 rfl<| cH.mpr ⟨_,rfl,λ_=>?_,λ_=>j0.mpr ?_⟩
 ·exact o9<| j9 rfl rfl<| ih G r h
 ·exact o9<| j9 rfl rfl<| d7 LH<| t8 ⟨Fd.refl h,tF d,rfl,uG d⟩
theorem sG:((d+1:Nat):Int)-1= (d:Int):=by lia
theorem qL(h6:d<=6)(ih:∀d',d=d'+1->DAt d' R)(h:Dr G r):Wp (uB R [.ref r,.int (d:Int)]) G λx G'=>Fd r G G'/\∃b,x=lsD (enC d) b/\LOk d b:=by
 refine J4 (show Wp (TF R [some (.ref r),some (.int (d:Int)),none,none,none]) G _ from ?_)
 unfold TF
 refine d8.mpr<| K6<| j9 rfl rfl<| W5 h λk G1 f1=>d8.mpr ?_
 have pick:∀ {σ:DSt} {P:Fl->DH->Prop},σ[2]? =some (some (.int (k:Int)))->(∀x G',(Fd r G G'/\∃b,x=lsD (enC d) b/\LOk d b)->P (.rt x) G')->Wp (t6 (c7 ixD (T7 (d0 (cE .non) (d0 (J9 (d0 (J9 g0) (d0 (cE (.str ("any" :Str))) g0))) g0))) (c7 K1 (c7 M4 (b8 2) (cE (.int 8))) (cE (.int 2)))) σ) G1 P:=λ{σ P} WK hP=>by
  refine o9<| m8<| W3.mpr<| d7 rfl ⟨sz,m8<| o4 (R8 (u4.mpr ⟨_,WK,rfl,rfl⟩)) rfl<| (M3 ⟨by decide,by decide⟩).mpr<| d7 rfl<| (u5 (by decide)).mpr<| (E5 j8).mpr ?_⟩
  obtain⟨b,hb,ob⟩:=KY
  exact⟨_,hb,hP _ _ ⟨f1.trans (Fd.app f1.2.2),b,rfl,ob⟩⟩
 refine Q0<| B7<| v9<| o4 rfl rfl<| O2.mpr ⟨_,rfl,λ_=>⟨λ_=>pick rfl λ_ _ q=>q,λz=>nomatch z⟩,λhd=>?_⟩
 have hd:¬((d:Int)=0):=of_decide_eq_false hd
 refine v9<| m8<| o4 rfl rfl<| (u5 (by decide)).mpr<| d7 rfl<| O2.mpr ⟨_,rfl,λ_=>pick rfl λ_ _ q=>q,λ_=>j0.mpr ?_⟩
 rcases d with _|d
 ·exact absurd rfl hd
 have ih:=ih d rfl
 refine d8.mpr<| K6<| j9 (by show some (Except.ok [D.ref r,.int (k:Int),.int (((d+1:Nat):Int)-1)],G1)=_;rw[sG]) rfl<| (VO ih f1.2.2).mono ?_
 rintro _ G2 ⟨f2,m,rfl,hm⟩
 refine d8.mpr<| K6<| wp_comp.mpr<| rng1.mpr<| m7<| j9 rfl rfl<| MG f2.2.2 λq hq G3 f3=>m5.mpr<| (rng1_int ⟨by lia,by lia⟩).mpr ?_
 have hlen:(K3 0 (q:Int).toNat).length=q:=by unfold K3;rw[zc,jV,jX]
 refine⟨by have:=big;dsimp only;rw[hlen];lia,?_⟩
 refine(l5 (λG'=>Fd r G3 G') (λσ=>∃u,σ= [u,some (.int ((d+1:Nat):Int)),some (.ref r)]) (λ_ y=>∃c,y=enC (d+1) c/\DC (d+1) c) (λ_ _=>rfl) _ _ _ ⟨none,rfl⟩ (Fd.refl f3.2.2) ?_).mono ?_
 · intro x hx σ G4 WK f4
   obtain⟨u,rfl⟩:=WK
   refine d7 rfl ⟨rfl,⟨_,rfl⟩,?_⟩
   refine j9 (by show some (Except.ok [D.ref r,.int (((d+1:Nat):Int)-1)],G4)=_;rw[sG]) rfl<| (ih G4 r f4.2.2).mono ?_
   rintro y G5 ⟨f5,c,e,hc⟩
   exact⟨f4.trans f5,c,e,hc⟩
 · rintro ys G4 ⟨f4,zs,e1,rfl,hz⟩
   obtain⟨fs,e2,e3,e4⟩:=nB (P:=λ_ c=>DC (d+1) c) zs hz
   rw[e2]
   have hl:fs.length=q:=by rw[e3,<-zc,e1,hlen]
   have hf:∀a∈fs,DC (d+1) a:=λa ha=>by
    obtain⟨i,hi,rfl⟩:=ZS.mp ha
    have hi':i<(zs.map (·.1)).length:=by rw[zc,<-e3];exact hi
    exact e4 i fs[i] _ (ze hi) (ze hi')
   have f5:Fd r G4 (G4++[.lst (fs.map (enC (d+1)))]):=Fd.app f4.2.2
   generalize hG:G4++[DO.lst (fs.map (enC (d+1)))]=G5 at *
   have e5:G5[G4.length]? =some (.lst (fs.map (enC (d+1)))):=by rw[<-hG];exact j8
   have hc:M9 (y0 0) (m6 (c7 neD (b8 0) (x0 (fnX 0 J5) g0))) (b8 0) (ckO G4.length (.lst (fs.map (enC (d+1))))) (fs.map (enC (d+1))) (T1 [none] [some (.ref r),some (.int ((d+1:Nat):Int)),some (.int (k:Int)),some (enC (d+1) m),some (.ref G4.length)]) G5=some (.ok ((fs.map (enC (d+1))).filter λx=> !(eqN 40 G5 x A2).getD false),G5):=by
    refine GG (P8 e5) (λσ=>∃u,σ= [u]) _ _ ⟨_,rfl⟩ λx hx σ WK=>?_
    obtain⟨a,ha,rfl⟩:=zG.mp hx
    obtain⟨u,rfl⟩:=WK
    obtain⟨b,e,_⟩:=lE (by lia) G5 a (tF d)
    refine⟨[some (enC (d+1) a)],rfl,⟨_,rfl⟩,R8 (v9<| o4 rfl rfl<| t4.mpr ⟨b,e,_,rfl,?_,rfl⟩),rfl⟩
    rw[show eqN 40 G5 (enC (d+1) a) A2=some b from e]
    rfl
   refine o9<| N5.mpr<| m7<| M8<| m7<| wp_comp.mpr<| wp_itW.mpr<| d7 rfl<| (iB e5).mpr ⟨by have:=big;rw[zc,hl];lia,d7 hc<| m5.mpr<| (S5 j8).mpr<| d7 rfl ⟨sz,?_⟩⟩
   have ef:((fs.map (enC (d+1))).filter λx=> !(eqN 40 G5 x A2).getD false)= (fs.filter λa=> !(eqN 40 G5 (enC (d+1) a) A2).getD false).map (enC (d+1)):=by rw[List.filter_map];rfl
   rw[ef]
   refine t8 ⟨(f1.trans (f2.trans (f3.trans (f4.trans f5)))).trans (Fd.app f5.2.2),some (_,m),rfl,?_,?_⟩
   · rintro _ _ ⟨⟩
     refine⟨hm.1,λa ha=>?_⟩
     obtain⟨h1,h2⟩:=jN.mp ha
     refine⟨(hf a h1).1,je λz=>?_⟩
     obtain⟨b,e,hb⟩:=OB (by lia) G5 a (hf a h1).1
     rw[e]at h2
     have:b=true:=hb.mpr λv k=>z ⟨v,k⟩
     rw[this]at h2
     cases h2
   · rintro _ _ ⟨⟩
     exact⟨by have:=xI (λa=> !(eqN 40 G5 (enC (d+1) a) A2).getD false) fs;lia,hm.2,λa ha=>(hf a (jN.mp ha).1).2⟩
end
theorem vS(h:Ris s):s.Nodup:=by
 rw[XA]
 refine XE ?_ h
 intro a b k e
 rw[e,dB]at k
 cases k
def nmB:D->Bool
 | .str z=>decide ((0:Int)<(z.length:Int))&&decide ((z.length:Int)<9)
 |_=>false
section
theorem FO(h:Dr G r):Wp (dC [.ref r]) G λx G'=>Fd r G G'/\∃(p:Nat) (ws:List Str),x= .ref p/\G.length<=p/\G'[p]? =some (.lst (ws.map D.str))/\ws.Pairwise nlt/\(∀z∈ws,Tx z/\0<z.length)/\ws.length<=6:=by
 have bg:=big
 refine J4 (show Wp (HF [some (.ref r)]) G _ from ?_)
 unfold HF
 refine o9<| M8<| m7<| wp_comp.mpr<| wp_itW.mpr<| j9 rfl rfl<| (wL h).mono ?_
 rintro _ G1 ⟨ss,rfl,rw_,ls,f1⟩
 refine srcW_tup.mpr ⟨by rw[zc];lia,?_⟩
 have hc:M9 (y0 0) (m6 (d6 ltD ltD (cE (.int 0)) (x0 V9 (d0 (b8 0) g0)) (cE (.int 9)))) (b8 0) (λ_=>true) (ss.map D.str) (T1 [none] [some (.ref r)]) G1=some (.ok ((ss.map D.str).filter nmB),G1):=by
  refine GG rfl (λσ=>∃u,σ= [u]) _ _ ⟨_,rfl⟩ λx hx σ WK=>?_
  obtain⟨z,hz,rfl⟩:=zG.mp hx
  obtain⟨u,rfl⟩:=WK
  refine⟨[some (.str z)],rfl,⟨_,rfl⟩,R8 (v9<| Mv.mpr<| d7 rfl<| d7 (R8<| y3 rfl<| (bA (zI (rw_.tx z hz).2 (by lia))).mpr ⟨rfl,rfl⟩)<| B9.mpr ⟨_,rfl,?_⟩),rfl⟩
  show if decide ((0:Int)<(z.length:Int))=true then _ else _
  by_cases hz:(0:Int)<(z.length:Int)
  · rw[decide_eq_true hz,if_pos rfl]
    refine d7 rfl<| B9.mpr ⟨_,rfl,?_,rfl⟩
    show _= (decide ((0:Int)<(z.length:Int))&&decide ((z.length:Int)<9))
    rw[decide_eq_true hz];rfl
  · rw[decide_eq_false hz,if_neg (by decide)]
    refine⟨_,rfl,?_,rfl⟩
    show _= (decide ((0:Int)<(z.length:Int))&&decide ((z.length:Int)<9))
    rw[decide_eq_false hz];rfl
 have ef:(ss.map D.str).filter nmB= (ss.filter (nmB∘D.str)).map D.str:=by rw[List.filter_map]
 rw[ef]at hc
 have hl:=xI (nmB∘D.str) ss
 refine d7 hc<| m5.mpr<| (UZ j8 (KJ _) (by lia)).mpr<| t8 ⟨(f1.trans (Fd.app f1.2.2)).trans (Fd.app (Fd.app f1.2.2).2.2),_,_,rfl,?_,j8,QM ((vS rw_.ris).sublist xW),λz hz=>?_,?_⟩
 · have:=f1.1
   rw[zA];lia
 · have hz:=(jC _ leS).mem_iff.mp hz
   obtain⟨h1,h2⟩:=jN.mp hz
   refine⟨rw_.tx z h1,?_⟩
   have h2:(decide ((0:Int)<(z.length:Int))&&decide ((z.length:Int)<9))=true:=h2
   rw[jt,decide_eq_true_iff]at h2
   lia
 ·exact zI (xG (jC _ leS).length_eq) (by lia)
structure RE(n:Nat)(m:CS n)(es:List (Str×Bool×CS n)):Prop where
 nms:Nms es
 at_:∀e∈es,Gd n e.2.2/\(e.2.1=true->∃v,inC n e.2.2 v)/\(e.2.1=false->e.2.2≠m)
 sz:∀e∈es,SzC n 6 e.2.2/\Tx e.1/\0<e.1.length
theorem RE.snoc(h:RE n m es)(hn:∀x∈es,nlt x.1 e.1)(h1:Gd n e.2.2/\(e.2.1=true->∃v,inC n e.2.2 v)/\(e.2.1=false->e.2.2≠m))(h2:SzC n 6 e.2.2/\Tx e.1/\0<e.1.length):RE n m (es++[e]):=
 ⟨yB.mpr ⟨h.nms,Zq ..,λa ha b hb=>by rw[zk.mp hb];exact hn a ha⟩,λx hx=>(zJ.mp hx).elim (h.at_ x) λk=>by rw[zk.mp k];exact h1,λx hx=>(zJ.mp hx).elim (h.sz x) λk=>by rw[zk.mp k];exact h2⟩
theorem Mq(h6:d<=6)(ih:DAt d R)(hp:p≠r)(h:Dr G r)(e:G[p]? =some (.lst (es.map (fdE (enC (d+1))))))(hm:DC (d+1) m)(he:RE (d+1) m es)(hn:∀x∈es,nlt x.1 z)(hz:Tx z/\0<z.length)(hl:es.length<=100):
 Wp (RB R [some (.ref r),some (.int ((d+1:Nat):Int)),some (.int (k:Int)),some (enC (d+1) m),some (.ref p),some (.str z),u,v]) G λfl G'=>Fd2 r p G G'/\∃u' v' es',fl= .nx [some (.ref r),some (.int ((d+1:Nat):Int)),some (.int (k:Int)),some (enC (d+1) m),some (.ref p),some (.str z),u',v']/\G'[p]? =some (.lst (es'.map (fdE (enC (d+1)))))/\RE (d+1) m es'/\es'.length<=es.length+1/\∀x∈es',x∈es\/x.1=z:=by
 have bg:=big
 refine d8.mpr<| K6<| j9 (by show some (Except.ok [D.ref r,.int (((d+1:Nat):Int)-1)],G)=_;rw[sG]) rfl<| (ih G r h).mono ?_
 rintro _ G1 ⟨f1,c,rfl,hc⟩
 have must:∀ {S:DPP},(∀b G2,Fd r G1 G2->(b=true->∃v,inC (d+1) c v)->S (.bl b) G2)->Wp ((B2 (c7 eqD (c7 K1 (x0 (fnX 1 u6) (d0 (b8 0) g0)) (cE (.int 2))) (cE (.int 0))) (c7 neD (b8 6) (x0 (fnX 0 J5) g0))) [some (.ref r),some (.int ((d+1:Nat):Int)),some (.int (k:Int)),some (enC (d+1) m),some (.ref p),some (.str z),some (enC (d+1) c),v]) G1 S:=λ{S} hS=>by
  refine nE.mpr<| m8<| m8<| j9 rfl rfl<| W5 f1.2.2 λj G2 f2=>d7 rfl<| (u5 (by decide)).mpr<| d7 rfl<| O2.mpr<| R6.mpr ?_
  by_cases hj:(j:Int) % 2=0
  · rw[decide_eq_true hj,if_pos rfl]
    obtain⟨b,eb,hb⟩:=OB (by lia) G2 c hc.1
    refine o4 rfl rfl<| t4.mpr ⟨b,eb,hS _ G2 f2 λe=>je λz=>?_⟩
    have:b=true:=hb.mpr λv k=>z ⟨v,k⟩
    rw[this]at e
    cases e
  · rw[decide_eq_false hj,if_neg (by decide)]
    exact hS false G2 f2 λe=>nomatch e
 refine d8.mpr<| K6<| must λb G2 f2 hb=>?_
 have f12:=f1.trans f2
 have e2:=f12.at hp e
 have add:(b=false->c≠m)->Wp ((C7 (mtE Z3 l8 (b8 4) (d0 (J9 (d0 (b8 5) (d0 (b8 7) (d0 (b8 6) g0)))) g0))) [some (.ref r),some (.int ((d+1:Nat):Int)),some (.int (k:Int)),some (enC (d+1) m),some (.ref p),some (.str z),some (enC (d+1) c),some (.bl b)]) G2 λfl G'=>Fd2 r p G G'/\∃u' v' es',fl= .nx [some (.ref r),some (.int ((d+1:Nat):Int)),some (.int (k:Int)),some (enC (d+1) m),some (.ref p),some (.str z),u',v']/\G'[p]? =some (.lst (es'.map (fdE (enC (d+1)))))/\RE (d+1) m es'/\es'.length<=es.length+1/\∀x∈es',x∈es\/x.1=z:=λhne=>by
  refine NC.mpr<| E6.mpr<| d7 rfl<| (L9 e2).mpr<| d7 rfl<| (ED e2 (by rw[zc];lia)).mpr ?_
  refine⟨f12.two.trans (Fd2.set hp f12.2.2),_,_,es++[(z,b,c)],rfl,by rw[zX (lt_of_get e2),jG];rfl,he.snoc hn ⟨hc.1,hb,hne⟩ ⟨hc.2,hz⟩,by simp,λx hx=>(zJ.mp hx).imp id λk=>by rw[zk.mp k]⟩
 refine Q0<| B7<| X4.mpr<| d7 rfl<| R6.mpr ⟨λhb=>⟨λ_=>add λz=>(by rw[z]at hb;cases hb),λz=>nomatch z⟩,λhb=>?_⟩
 obtain⟨q,eq,hq⟩:=lE (by lia) G2 c m
 refine v9<| o4 rfl rfl<| t4.mpr ⟨q,eq,_,rfl,λhn'=>add λ_ hcm=>?_,λ_=>j0.mpr ⟨f12.two,_,_,es,rfl,e2,he,by lia,λx hx=>.inl hx⟩⟩
 rw[hq.mpr hcm]at hn'
 cases hn'
end
section
variable{r d:Nat}{G:DH}{R:List D->M D}
theorem NL{p q k:Nat}(h6:d<=6)(ih:DAt d R)(hp:p≠r)(hq:q≠r)(hpq:q≠p)(hm:DC (d+1) m):∀(ws:List Str) (o u v:Option D) es (G:DH),Dr G r->G[p]? =some (.lst (es.map (fdE (enC (d+1)))))->G[q]? =some (.lst L)->RE (d+1) m es->(∀x∈es,∀z∈ws,nlt x.1 z)->ws.Pairwise nlt->(∀z∈ws,Tx z/\0<z.length)->es.length+ws.length<=7->
 Wp (H0 (y0 5) (RB R) (ckO q (.lst L)) (ws.map D.str) [some (.ref r),some (.int ((d+1:Nat):Int)),some (.int (k:Int)),some (enC (d+1) m),some (.ref p),o,u,v]) G λfl G'=>Fd2 r p G G'/\∃o' u' v' es',fl= .nx [some (.ref r),some (.int ((d+1:Nat):Int)),some (.int (k:Int)),some (enC (d+1) m),some (.ref p),o',u',v']/\G'[p]? =some (.lst (es'.map (fdE (enC (d+1)))))/\RE (d+1) m es'/\es'.length<=es.length+ws.length
 |[],o,u,v,es,G,h,e,eq,he,_,_,_,_=>E7.mpr ⟨P8 eq,(Fd.refl h).two,o,u,v,es,rfl,e,he,by simp⟩
 |z::t,o,u,v,es,G,h,e,eq,he,hn,hs,hz,hl=>by
   simp only[zM]at hl
   obtain⟨s1,s2⟩:=jf.mp hs
   refine P7.mpr ⟨P8 eq,O1.mpr<| (Mq h6 ih hp h e hm he (λx hx=>hn x hx z (zt ..)) (hz z (zt ..)) (by lia)).mono ?_⟩
   rintro _ G1 ⟨f1,u1,v1,es1,rfl,q2,q3,q4,q5⟩
   have eq1:G1[q]? =some (.lst L):=(f1.2.1 q hq hpq (lt_of_get eq)).trans eq
   refine(NL h6 ih hp hq hpq hm t _ u1 v1 es1 G1 f1.2.2 q2 eq1 q3 (λx hx y hy=>(q5 x hx).elim (λk=>hn x k y (zn _ hy)) λk=>by rw[k];exact s1 y hy) s2 (λy hy=>hz y (zn _ hy)) (by lia)).mono ?_
   rintro _ G2 ⟨f2,b1,b2,b3,b4,p1,p2,p3,p4⟩
   exact⟨f1.trans f2,b1,b2,b3,b4,p1,p2,p3,by simp only[zM];lia⟩
theorem qO(h6:d<=6)(ih:∀d',d=d'+1->DAt d' R)(h:Dr G r):Wp (U7 R [.ref r,.int (d:Int)]) G λx G'=>Fd r G G'/\∃b,x=rcD (enC d) b/\ROk d b:=by
 refine J4 (show Wp (RG R [some (.ref r),some (.int (d:Int)),none,none,none,none,none,none]) G _ from ?_)
 have is_:RG R=j6 (v8 (x0 (fnX 1 u6) (d0 (b8 0) g0)) (y0 2)) (j6 (ifS (orT (m6 (c7 eqD (b8 1) (cE (.int 0)))) (m6 (c7 eqD (c7 K1 (b8 2) (cE (.int 8))) (cE (.int 0))))) (t6 (c7 ixD (T7 (d0 (cE .non) (d0 (J9 (d0 (J9 g0) (d0 (cE (.str ("any" :Str))) g0))) g0))) (c7 K1 (c7 M4 (b8 2) (cE (.int 8))) (cE (.int 2))))) m9) (j6 (v8 (x0 (fnX 3 (V7 R)) (d0 (b8 0) (d0 (b8 2) (d0 (c7 Q1 (b8 1) (cE (.int 1))) g0)))) (y0 3)) (j6 (v8 (T7 g0) (y0 4)) (j6 (S1 (itW (x0 (fnX 1 dC) (d0 (b8 0) g0))) (y0 5) (RB R)) (t6 (J9 (d0 (x0 T8 (d0 (b8 4) g0)) (d0 (b8 3) g0)))))))):=rfl
 rw[is_]
 refine d8.mpr<| K6<| j9 rfl rfl<| W5 h λk G1 f1=>d8.mpr ?_
 have pick:∀ {σ:DSt} {P:Fl->DH->Prop},σ[2]? =some (some (.int (k:Int)))->(∀x G',(Fd r G G'/\∃b,x=rcD (enC d) b/\ROk d b)->P (.rt x) G')->Wp (t6 (c7 ixD (T7 (d0 (cE .non) (d0 (J9 (d0 (J9 g0) (d0 (cE (.str ("any" :Str))) g0))) g0))) (c7 K1 (c7 M4 (b8 2) (cE (.int 8))) (cE (.int 2)))) σ) G1 P:=λ{σ P} WK hP=>by
  refine o9<| m8<| W3.mpr<| d7 rfl ⟨sz,m8<| o4 (R8 (u4.mpr ⟨_,WK,rfl,rfl⟩)) rfl<| (M3 ⟨by decide,by decide⟩).mpr<| d7 rfl<| (u5 (by decide)).mpr<| (E5 j8).mpr ?_⟩
  obtain⟨b,hb,ob⟩:=Bx
  exact⟨_,hb,hP _ _ ⟨f1.trans (Fd.app f1.2.2),b,rfl,ob⟩⟩
 refine Q0<| B7<| v9<| o4 rfl rfl<| O2.mpr ⟨_,rfl,λ_=>⟨λ_=>pick rfl λ_ _ q=>q,λz=>nomatch z⟩,λhd=>?_⟩
 have hd:¬((d:Int)=0):=of_decide_eq_false hd
 refine v9<| m8<| o4 rfl rfl<| (u5 (by decide)).mpr<| d7 rfl<| O2.mpr ⟨_,rfl,λ_=>pick rfl λ_ _ q=>q,λ_=>j0.mpr ?_⟩
 rcases d with _|d
 ·exact absurd rfl hd
 have ih:=ih d rfl
 refine d8.mpr<| K6<| j9 (by show some (Except.ok [D.ref r,.int (k:Int),.int (((d+1:Nat):Int)-1)],G1)=_;rw[sG]) rfl<| (VO ih f1.2.2).mono ?_
 rintro _ G2 ⟨f2,m,rfl,hm⟩
 have f3:Fd r G2 (G2++[DO.lst []]):=Fd.app f2.2.2
 refine J6 (X2:= [some (.ref r),some (.int ((d+1:Nat):Int)),some (.int (k:Int)),some (enC (d+1) m),some (.ref G2.length),none,none,none]) rfl ?_
 refine d8.mpr<| A7.mpr<| wp_itW.mpr<| j9 rfl rfl<| (FO f3.2.2).mono ?_
 rintro _ G4 ⟨f4,q,ws,rfl,hq,eq,hs,hz,hl⟩
 have hp:G2.length≠r:=by have:=f2.2.2.lt;lia
 have hqr:q≠r:=by have:=f2.2.2.lt;rw[zA]at hq;lia
 have hqp:q≠G2.length:=by rw[zA,jc]at hq;lia
 refine(iB eq).mpr<| (NL (by lia) ih hp hqr hqp hm ws none none none [] G4 f4.2.2 (f4.at hp j8) eq ⟨.nil,λ_ h=>(nomatch h),λ_ h=>(nomatch h)⟩ (λ_ h=>nomatch h) hs hz (by simp;lia)).mono ?_
 rintro _ G5 ⟨f5,o',u',v',es,rfl,e5,he,hle⟩
 have fin:=(f1.trans (f2.trans (f3.trans f4))).thru f5 (show G.length<=G2.length from(f1.trans f2).1)
 refine o9<| N5.mpr<| m7<| y3 rfl<| (S5 e5).mpr<| d7 rfl ⟨sz,t8 ⟨fin,some (es,m),rfl,?_,?_⟩⟩
 · rintro _ _ ⟨⟩
   exact⟨hm.1,he.nms,he.at_⟩
 · rintro _ _ ⟨⟩
   exact⟨by simp at hle;lia,hm.2,he.sz⟩
end
def OkP(n:Nat)(w:Pt (CS n)):Prop:=GdP (inC n) (Gd n) w/\SzP (SzC n 6) 6 w
theorem sX(n:Nat):OkP n (E2 _):=⟨(uG n).1.1,(uG n).2 _ rfl⟩
theorem Db(n:Nat):OkP n (evP n):=⟨⟨pJ,.nil,(show [false,true]∈B4 by decide),NJ.1,uH.1⟩,⟨(by decide: [((none:Option Int),(none:Option Int))].length<=6),zY _,λ_ h=>(nomatch h),NJ.2,uH.2⟩⟩
def cnd(i:Int)(f:Fe):DSt->M Bool:=(orT (m6 (c7 eqD (b8 4) (cE (.int i)))) (S0 (J8 (b8 6)) (m6 (c7 eqD f (cE (.int 0))))))
def SS(d r p:Nat)(u:Option D)(a:Int)(s:Nat)(o:Bool):DSt:= [some (.ref r),some (.int (d:Int)),u,some (.ref p),some (.int a),some (.int (s:Int)),some (.bl o)]
section
theorem cD(hf:∀ {Q},(∀j:Int,Q (.int j) G)->Wp (f (SS d r p u a s o)) G Q)(h:∀k,B k G):Wp (cnd i f (SS d r p u a s o)) G B:=
 B7<| v9<| m8<| d7 rfl<| d7 rfl<| O2.mpr ⟨_,rfl,λ_=>h true,λ_=>D7<| X4.mpr<| d7 rfl<| R6.mpr ⟨λ_=>v9<| m8<| hf λj=>d7 rfl<| O2.mpr ⟨_,rfl,h _⟩,λ_=>h false⟩⟩
theorem VU(hc:0<c)(q:∀j:Int,Q (.int j) G):Wp ((c7 K1 (b8 5) (cE (.int c))) (SS d r p u a s o)) G Q:=o4 rfl rfl<| (u5 hc).mpr (q _)
theorem mds(hb:0<b/\b<2 ^ 100)(hc:0<c)(q:Q (.int ((s:Int) / b % c)) G):Wp ((c7 K1 (c7 M4 (b8 5) (cE (.int b))) (cE (.int c))) (SS d r p u a s o)) G Q:=m8<| o4 rfl rfl<| (M3 hb).mpr<| d7 rfl<| (u5 hc).mpr q
def PI(d r p:Nat)(u:Option D)(a:Int)(s:Nat)(o:Bool)(G:DH)(fl:Fl)(G':DH):Prop:=Fd2 r p G G'/\fl= .nx (SS d r p u a s o)/\∃w,G'[p]? =some (.lst (fiv (enC d) w))/\OkP d w
theorem stay(h:Dr G r)(e:G[p]? =some (.lst (fiv (enC d) w)))(ok:OkP d w):PI d r p u a s o G (.nx (SS d r p u a s o)) G:=⟨(Fd.refl h).two,rfl,w,e,ok⟩
theorem pD(hp:p≠r)(f1:Fd r G G1)(e:G[p]? =some (.lst (fiv (enC d) w)))(hj:ixN 5 i=some j)(hd:(fiv (enC d) w).set j x=fiv (enC d) w')(ok:OkP d w'):Wp (F1 (b8 3) (cE (.int i)) x (SS d r p u a s o)) G1 λσ G2=>PI d r p u a s o G (.nx σ) G2:=by
 have e1:=f1.at hp e
 refine tK rfl rfl e1 hj ?_
 rw[hd]
 exact⟨f1.two.trans (Fd2.set hp f1.2.2),rfl,w',zX (lt_of_get e1),ok⟩
def I0:Fs:=(ifS (cnd 0 (c7 K1 (b8 5) (cE (.int 2)))) (v8 (x0 (fnX 1 U6) (d0 (b8 0) g0)) (F1 (b8 3) (cE (.int 0)))) m9)
def I1:Fs:=(ifS (cnd 1 (c7 K1 (c7 M4 (b8 5) (cE (.int 2))) (cE (.int 3)))) (v8 (J9 (d0 (c7 ixD (T7 (d0 (cE (.str ("of" :Str))) (d0 (cE (.str ("but" :Str))) g0))) (c7 K1 (c7 M4 (b8 5) (cE (.int 6))) (cE (.int 2)))) (d0 (x0 (fnX 1 wB) (d0 (b8 0) g0)) g0))) (F1 (b8 3) (cE (.int 1)))) m9)
def I2:Fs:=(ifS (cnd 2 (c7 K1 (c7 M4 (b8 5) (cE (.int 12))) (cE (.int 3)))) (v8 (c7 ixD (T7 (d0 (J9 g0) (d0 (J9 (d0 (cE (.bl false)) g0)) (d0 (J9 (d0 (cE (.bl true)) g0)) (d0 (J9 (d0 (cE (.bl false)) (d0 (cE (.bl true)) g0))) g0))))) (c7 K1 (c7 M4 (b8 5) (cE (.int 36))) (cE (.int 4)))) (F1 (b8 3) (cE (.int 2)))) m9)
def I3(R:List D->M D):Fs:=(ifS (cnd 3 (c7 K1 (c7 M4 (b8 5) (cE (.int 144))) (cE (.int 2)))) (v8 (x0 (fnX 2 (uB R)) (d0 (b8 0) (d0 (b8 1) g0))) (F1 (b8 3) (cE (.int 3)))) m9)
def I4(R:List D->M D):Fs:=(ifS (cnd 4 (c7 K1 (c7 M4 (b8 5) (cE (.int 288))) (cE (.int 2)))) (v8 (x0 (fnX 2 (U7 R)) (d0 (b8 0) (d0 (b8 1) g0))) (F1 (b8 3) (cE (.int 4)))) m9)
theorem PX(hp:p≠r)(h:Dr G r)(e:G[p]? =some (.lst (fiv (enC d) w)))(ok:OkP d w):Wp (I0 (SS d r p u a s o)) G (PI d r p u a s o G):=by
 refine Q0<| cD (λq=>VU (by decide) q) λk=>⟨λ_=>Z7.mpr<| j9 rfl rfl<| (Kf h).mono ?_,λ_=>j0.mpr (stay h e ok)⟩
 rintro _ G1 ⟨ns,rfl,cn,ln,f1⟩
 exact pD (w':={w with ns:=ns}) hp f1 e rfl rfl ⟨⟨cn,ok.1.ss,ok.1.bs,ok.1.ls,ok.1.rs⟩,⟨by dsimp only;lia,ok.2.ss,ok.2.tx,ok.2.ls,ok.2.rs⟩⟩
theorem oV(hp:p≠r)(h:Dr G r)(e:G[p]? =some (.lst (fiv (enC d) w)))(ok:OkP d w):Wp (I1 (SS d r p u a s o)) G (PI d r p u a s o G):=by
 refine Q0<| cD (λq=>mds ⟨by decide,by decide⟩ (by decide) (q _)) λk=>⟨λ_=>?_,λ_=>j0.mpr (stay h e ok)⟩
 have f0:Fd r G (G++[.lst [.str wOf,.str BI]]):=Fd.app h
 refine Z7.mpr<| N5.mpr<| m7<| m8<| W3.mpr<| d7 rfl ⟨sz,mds ⟨by decide,by decide⟩ (by decide)<| (E5 j8).mpr ?_⟩
 have hd:∃b:Bool,atI [D.str wOf,.str BI] ((s:Int) / 6 % 2)=some (.str (wrd b)):=by
  have a1:0<=(s:Int) / 6 % 2:=jp _ (by decide)
  have a2:(s:Int) / 6 % 2<2:=jn _ (by decide)
  rcases (show (s:Int) / 6 % 2=0\/(s:Int) / 6 % 2=1 by lia)with z|z
  ·exact⟨true,by rw[z];rfl⟩
  ·exact⟨false,by rw[z];rfl⟩
 obtain⟨b,hb⟩:=hd
 refine⟨_,hb,m7<| j9 rfl rfl<| (wL f0.2.2).mono ?_⟩
 rintro _ G1 ⟨ss,rfl,rs,ls,f1⟩
 exact m5.mpr ⟨sz,pD (w':={w with b:=b,ss:=ss}) hp (f0.trans f1) e rfl rfl ⟨⟨ok.1.ns,rs.ris,ok.1.bs,ok.1.ls,ok.1.rs⟩,⟨ok.2.ns,by dsimp only;lia,rs.tx,ok.2.ls,ok.2.rs⟩⟩⟩
theorem Lh(hp:p≠r)(h:Dr G r)(e:G[p]? =some (.lst (fiv (enC d) w)))(ok:OkP d w):Wp (I2 (SS d r p u a s o)) G (PI d r p u a s o G):=by
 refine Q0<| cD (λq=>mds ⟨by decide,by decide⟩ (by decide) (q _)) λk=>⟨λ_=>?_,λ_=>j0.mpr (stay h e ok)⟩
 have f0:Fd r G (G++[.lst (B4.map λl=>.tup (l.map D.bl))]):=Fd.app h
 refine Z7.mpr<| m8<| W3.mpr<| d7 rfl ⟨sz,mds ⟨by decide,by decide⟩ (by decide)<| (E5 j8).mpr ?_⟩
 obtain⟨d,hd,ed⟩:=vE (l:=B4.map λl=>.tup (l.map D.bl)) (jp _ (by decide)) (jn _ (by decide))
 obtain⟨l,hl,rfl⟩:=zG.mp hd
 exact⟨_,ed,pD (w':={w with bs:=l}) hp f0 e rfl rfl ⟨⟨ok.1.ns,ok.1.ss,hl,ok.1.ls,ok.1.rs⟩,⟨ok.2.ns,ok.2.ss,ok.2.tx,ok.2.ls,ok.2.rs⟩⟩⟩
theorem fD1(h6:d<=6)(ih:∀d',d=d'+1->DAt d' R)(hp:p≠r)(h:Dr G r)(e:G[p]? =some (.lst (fiv (enC d) w)))(ok:OkP d w):Wp (I3 R (SS d r p u a s o)) G (PI d r p u a s o G):=by
 refine Q0<| cD (λq=>mds ⟨by decide,by decide⟩ (by decide) (q _)) λk=>⟨λ_=>Z7.mpr<| j9 rfl rfl<| (qL h6 ih h).mono ?_,λ_=>j0.mpr (stay h e ok)⟩
 rintro _ G1 ⟨f1,b,rfl,ob⟩
 exact pD (w':={w with ls:=b}) hp f1 e rfl rfl ⟨⟨ok.1.ns,ok.1.ss,ok.1.bs,ob.1,ok.1.rs⟩,⟨ok.2.ns,ok.2.ss,ok.2.tx,ob.2,ok.2.rs⟩⟩
theorem vX(h6:d<=6)(ih:∀d',d=d'+1->DAt d' R)(hp:p≠r)(h:Dr G r)(e:G[p]? =some (.lst (fiv (enC d) w)))(ok:OkP d w):Wp (I4 R (SS d r p u a s o)) G (PI d r p u a s o G):=by
 refine Q0<| cD (λq=>mds ⟨by decide,by decide⟩ (by decide) (q _)) λk=>⟨λ_=>Z7.mpr<| j9 rfl rfl<| (qO h6 ih h).mono ?_,λ_=>j0.mpr (stay h e ok)⟩
 rintro _ G1 ⟨f1,b,rfl,ob⟩
 exact pD (w':={w with rs:=b}) hp f1 e rfl rfl ⟨⟨ok.1.ns,ok.1.ss,ok.1.bs,ok.1.ls,ob.1⟩,⟨ok.2.ns,ok.2.ss,ok.2.tx,ok.2.ls,ob.2⟩⟩
theorem iV(h6:d<=6)(e:G[p]? =some (.lst (fiv (enC d) w)))(ok:OkP d w):Wp (I5 (SS d r p u a s o)) G λfl G'=>∃c,fl= .rt (enC (d+1) c)/\DC (d+1) c/\G'=G:=by
 refine d8.mpr<| Q0<| v9<| m8<| y3 rfl<| (S5 e).mpr<| j9 rfl rfl<| d7 tO<| FY (iY (by lia) G ok.1) (λ_=>⟨_,rfl,λ_=>?_,λz=>nomatch z⟩) (λhn=>⟨_,rfl,λz=>(nomatch z),λ_=>j0.mpr ?_⟩)
 ·exact o9<| d7 rfl ⟨none,rfl,kO (d+1),rfl⟩
 ·exact o9<| y3 rfl<| (S5 e).mpr ⟨some w,rfl,⟨⟨ok.1,hn⟩,by rintro _ ⟨⟩;exact ok.2⟩,rfl⟩
end
theorem SU:qD R=j6 (v8 (x0 (fnX 1 u6) (d0 (b8 0) g0)) (y0 2)) (j6 (ifS (m6 (c7 ltD (c7 K1 (b8 2) (cE (.int 8))) (cE (.int 2)))) (t6 (c7 ixD (T7 (d0 (cE (.str ("any" :Str))) (d0 (x0 (fnX 0 J5) g0) g0))) (c7 K1 (b8 2) (cE (.int 8))))) m9) (j6 (v8 (x0 qA (d0 (c7 ixD (T7 (d0 (x0 (fnX 0 J5) g0) (d0 (x0 (fnX 0 GB) g0) g0))) (x0 l9 (d0 (c7 eqD (c7 K1 (b8 2) (cE (.int 8))) (cE (.int 2))) g0))) g0)) (y0 3)) (j6 (v8 (c7 K1 (c7 M4 (b8 2) (cE (.int 8))) (cE (.int 5))) (y0 4)) (j6 (v8 (c7 M4 (b8 2) (cE (.int 40))) (y0 5)) (j6 (v8 (c7 gtD (c7 K1 (b8 2) (cE (.int 8))) (cE (.int 2))) (y0 6)) (j6 I0 (j6 I1 (j6 I2 (j6 (I3 R) (j6 (I4 R) I5)))))))))):=rfl
theorem LO(h6:d<=6)(ih:∀d',d=d'+1->DAt d' (fA n)):DAt d (fA (n+1)):=λG r h=>by
 refine J4 (show Wp (qD (fA n) [some (.ref r),some (.int (d:Int)),none,none,none,none,none]) G _ from ?_)
 rw[SU]
 refine d8.mpr<| K6<| j9 rfl rfl<| W5 h λk G1 f1=>?_
 have a1:0<=(k:Int) % 8:=jp _ (by decide)
 refine d8.mpr<| Q0<| v9<| m8<| o4 rfl rfl<| (u5 (by decide)).mpr<| d7 rfl<| B9.mpr ⟨_,rfl,λhk=>?_,λ_=>j0.mpr ?_⟩
 · have hk:(k:Int) % 8<2:=of_decide_eq_true hk
   refine o9<| m8<| W3.mpr<| K5 rfl<| m7<| j9 rfl rfl<| d7 LH<| m5.mpr ⟨sz,o4 rfl rfl<| (u5 (by decide)).mpr<| (E5 j8).mpr ?_⟩
   rcases (show (k:Int) % 8=0\/(k:Int) % 8=1 by lia)with z|z
   ·rw[z];exact⟨.str B3,rfl,t8 ⟨f1.trans (Fd.app f1.2.2),none,rfl,kO (d+1)⟩⟩
   ·rw[z];exact⟨A2,rfl,t8 ⟨f1.trans (Fd.app f1.2.2),tF d,rfl,uG d⟩⟩
 · refine d8.mpr<| K6<| M8<| m7<| m8<| W3.mpr<| m7<| j9 rfl rfl<| d7 LH<| m7<| j9 rfl rfl<| d7 tO<| m5.mpr ⟨sz,M8<| m7<| m8<| o4 rfl rfl<| (u5 (by decide)).mpr<| d7 rfl<| O2.mpr<| m5.mpr ?_⟩
   have f2:Fd r G1 (G1++[.lst [A2,evD]]):=Fd.app f1.2.2
   have hd:∃(i:Int) (w:Pt (CS d)),OkP d w/\l9 [.bl (decide ((k:Int) % 8=2))]=pure (.int i)/\atI [A2,evD] i=some (.tup (fiv (enC d) w)):=by
    by_cases z:(k:Int) % 8=2
    ·rw[decide_eq_true z];exact⟨1,evP d,Db d,rfl,by rw[show D.tup (fiv (enC d) (evP d))=evD from pL];rfl⟩
    ·rw[decide_eq_false z];exact⟨0,E2 _,sX d,rfl,rfl⟩
   obtain⟨i,w,ok,ei,ew⟩:=hd
   rw[ei]
   refine j7.mpr<| (E5 j8).mpr ⟨_,ew,m5.mpr<| dU.mpr ?_⟩
   have f3:Fd r (G1++[.lst [A2,evD]]) (G1++[.lst [A2,evD]]++[.lst (fiv (enC d) w)]):=Fd.app f2.2.2
   have hp:(G1++[DO.lst [A2,evD]]).length≠r:=by have:=f2.2.2.lt;lia
   have fq:Fd r G _:=f1.trans (f2.trans f3)
   have hq:G.length<=(G1++[DO.lst [A2,evD]]).length:=(f1.trans f2).1
   generalize hpp:(G1++[DO.lst [A2,evD]]).length=p at *
   have e3:(G1++[.lst [A2,evD]]++[.lst (fiv (enC d) w)])[p]? =some (.lst (fiv (enC d) w)):=by rw[<-hpp];exact j8
   generalize G1++[.lst [A2,evD]]++[.lst (fiv (enC d) w)]=G3 at *
   refine d8.mpr<| K6<| m8<| o4 rfl rfl<| (M3 ⟨by decide,by decide⟩).mpr<| d7 rfl<| (u5 (by decide)).mpr ?_
   refine d8.mpr<| K6<| o4 rfl rfl<| (M3 ⟨by decide,by decide⟩).mpr ?_
   refine d8.mpr<| K6<| m8<| o4 rfl rfl<| (u5 (by decide)).mpr<| d7 rfl<| cH.mpr ?_
   rw[show (k:Int) / 40= ((k / 40:Nat):Int) by lia]
   refine d8.mpr<| (PX hp fq.2.2 e3 ok).mono ?_
   rintro _ G4 ⟨g4,rfl,w4,e4,ok4⟩
   refine d8.mpr<| (oV hp g4.2.2 e4 ok4).mono ?_
   rintro _ G5 ⟨g5,rfl,w5,e5,ok5⟩
   refine d8.mpr<| (Lh hp g5.2.2 e5 ok5).mono ?_
   rintro _ G6 ⟨g6,rfl,w6,e6,ok6⟩
   refine d8.mpr<| (fD1 h6 ih hp g6.2.2 e6 ok6).mono ?_
   rintro _ G7 ⟨g7,rfl,w7,e7,ok7⟩
   refine d8.mpr<| (vX h6 ih hp g7.2.2 e7 ok7).mono ?_
   rintro _ G8 ⟨g8,rfl,w8,e8,ok8⟩
   refine(iV h6 e8 ok8).mono ?_
   rintro _ G9 ⟨c,rfl,hc,rfl⟩
   exact t8 ⟨fq.thru ((((g4.trans g5).trans g6).trans g7).trans g8) hq,c,rfl,hc⟩
theorem CF:∀d N,d<=6->d<N->DAt d (fA N)
 |0,N+1,h6,_=>LO h6 λ_ e=>nomatch e
 |d+1,N+1,h6,h=>LO h6 λd' e=>by cases e;exact CF d N (by lia) (by lia)
def A0(n:Int):Int:=if n<0 then -n else n
def ahI(x y:Int):Prop:=A0 x<A0 y\/(A0 x=A0 y/\y<x)
def K2:Option Int->Option Int->Int
 |some a,some b=>if a>0 then a else if b<0 then b else 0
 |some a,none=>if a>0 then a else 0
 |none,some b=>if b<0 then b else 0
 |none,none=>0
theorem IH(ok:okR p):inR p (K2 p.1 p.2)/\∀x,inR p x->¬ahI x (K2 p.1 p.2):=by
 obtain⟨a,b⟩:=p
 rcases a with _|a<;>rcases b with _|b
 · refine⟨⟨λ_ h=>J7 h,λ_ h=>J7 h⟩,λx _ h=>?_⟩
   simp only[K2,ahI,A0]at h
   split at h<;>rcases h with h|h<;>simp at h<;>lia
 · simp only[K2]
   by_cases hb:b<0
   · rw[if_pos hb]
     refine⟨⟨λ_ h=>J7 h,λ_ h=>by cases h;lia⟩,λx hx h=>?_⟩
     have:=hx.2 b rfl
     simp only[ahI,A0]at h
     rw[if_pos hb,if_pos (by lia)]at h
     lia
   · rw[if_neg hb]
     refine⟨⟨λ_ h=>J7 h,λ_ h=>by cases h;lia⟩,λx hx h=>?_⟩
     simp only[ahI,A0]at h
     split at h<;>rcases h with h|h<;>simp at h<;>lia
 · simp only[K2]
   by_cases ha:a>0
   · rw[if_pos ha]
     refine⟨⟨λ_ h=>by cases h;lia,λ_ h=>J7 h⟩,λx hx h=>?_⟩
     have:=hx.1 a rfl
     simp only[ahI,A0]at h
     rw[if_neg (by lia),if_neg (by lia)]at h
     lia
   · rw[if_neg ha]
     refine⟨⟨λ_ h=>by cases h;lia,λ_ h=>J7 h⟩,λx hx h=>?_⟩
     simp only[ahI,A0]at h
     split at h<;>rcases h with h|h<;>simp at h<;>lia
 · have:=ok a b rfl rfl
   simp only[K2]
   by_cases ha:a>0
   · rw[if_pos ha]
     refine⟨⟨λ_ h=>by cases h;lia,λ_ h=>by cases h;lia⟩,λx hx h=>?_⟩
     have:=hx.1 a rfl
     simp only[ahI,A0]at h
     rw[if_neg (by lia),if_neg (by lia)]at h
     lia
   · rw[if_neg ha]
     by_cases hb:b<0
     · rw[if_pos hb]
       refine⟨⟨λ_ h=>by cases h;lia,λ_ h=>by cases h;lia⟩,λx hx h=>?_⟩
       have:=hx.2 b rfl
       simp only[ahI,A0]at h
       rw[if_pos hb,if_pos (by lia)]at h
       lia
     · rw[if_neg hb]
       refine⟨⟨λ_ h=>by cases h;lia,λ_ h=>by cases h;lia⟩,λx hx h=>?_⟩
       simp only[ahI,A0]at h
       split at h<;>rcases h with h|h<;>simp at h<;>lia
theorem Vb:iE [l4 a,l4 b] G=some (.ok (.int (K2 a b)),G):=by
 refine R8 (J4 (show Wp (AF [some (l4 a),some (l4 b)]) G _ from ?_))
 unfold AF
 have last:∀ {d:Int},d= (match b with|some b=>if b<0 then b else 0|none=>0)->Wp (t6 (ifE (S0 (m6 (c7 F7 (b8 1) (cE .non))) (m6 (c7 ltD (b8 1) (cE (.int 0))))) (b8 1) (cE (.int 0))) [some (l4 a),some (l4 b)]) G (DL.PB λx G'=>x= .int d/\G'=G):=λ{d} hd=>by
  subst hd
  rcases b with _|b
  ·exact o9<| cT rfl<| A3.mpr<| t8 ⟨rfl,rfl⟩
  · refine o9<| cP.mpr<| D7<| d7 (a:=true) rfl ⟨λ_=>v9<| o4 rfl rfl<| B9.mpr ⟨_,rfl,?_⟩,λz=>absurd z (by decide)⟩
    by_cases h:b<0
    ·rw[decide_eq_true h,if_pos rfl];exact d7 rfl<| t8 ⟨by show D.int b= .int (if b<0 then b else 0);rw[if_pos h],rfl⟩
    ·rw[decide_eq_false h,if_neg (by decide)];exact A3.mpr<| t8 ⟨by show D.int 0= .int (if b<0 then b else 0);rw[if_neg h],rfl⟩
 rcases a with _|a
 · refine d8.mpr<| F0 rfl<| j0.mpr<| last ?_
   rcases b with _|b<;>rfl
 · refine d8.mpr<| Q0<| D7<| d7 (a:=true) rfl ⟨λ_=>v9<| o4 rfl rfl<| cH.mpr ⟨_,rfl,λh=>?_,λh=>j0.mpr<| last ?_⟩,λz=>absurd z (by decide)⟩
   · have h:=of_decide_eq_true h
     refine o9<| d7 (a:=.int a) rfl<| t8 ⟨?_,rfl⟩
     rcases b with _|b<;>simp only[K2]<;>rw[if_pos h]
   · have h:=of_decide_eq_false h
     rcases b with _|b<;>simp only[K2]<;>rw[if_neg h]
def KB(n:Int):D:=.tup [.int (A0 n),.bl (decide (n<0))]
theorem DM:K7 [.int n] G=some (.ok (KB n),G):=rfl
theorem rZ:ltN 40 G (.tup [.int a,.bl b]) (.tup [.int c,.bl d])=some (if a=c then (!b&&d)else decide (a<c)):=by
 rw[OE]
 show ltL (eqN 39 G) (ltN 39 G) [.int a,.bl b] [.int c,.bl d]=_
 have e:eqN 39 G (.int a) (.int c)=some (decide (a=c)):=rfl
 unfold ltL
 rw[e]
 by_cases h:a=c
 ·rw[decide_eq_true h,if_pos h];cases b<;>cases d<;>rfl
 ·rw[decide_eq_false h,if_neg h];rfl
theorem VZ(t:ahI x y->Q (.bl true) G)(f:¬ahI x y->Q (.bl false) G):Wp (ltD (KB x) (KB y)) G Q:=by
 refine RC.mpr ⟨_,rZ,?_⟩
 by_cases h:ahI x y
 · have:(if A0 x=A0 y then (!decide (x<0)&&decide (y<0))else decide (A0 x<A0 y))=true:=by
    by_cases e:A0 x=A0 y
    · rw[if_pos e]
      rcases h with h|h
      ·lia
      · have:¬x<0/\y<0:=by unfold A0 at e;split at e<;>split at e<;>lia
        rw[decide_eq_false this.1,decide_eq_true this.2];rfl
    · rw[if_neg e]
      exact decide_eq_true (h.elim id λz=>absurd z.1 e)
   rw[this];exact t h
 · have:(if A0 x=A0 y then (!decide (x<0)&&decide (y<0))else decide (A0 x<A0 y))=false:=by
    by_cases e:A0 x=A0 y
    · rw[if_pos e]
      by_cases h1:x<0
      ·rw[decide_eq_true h1];rfl
      · rw[decide_eq_false h1,Bool.not_false,Bool.true_and]
        refine decide_eq_false λh2=>h (.inr ⟨e,?_⟩)
        lia
    · rw[if_neg e]
      exact decide_eq_false λz=>h (.inl z)
   rw[this];exact f h
theorem wJ(h:¬ahI y x)(k:ahI z y->False):¬ahI z x:=by
 unfold ahI at *
 intro q
 apply k
 lia
theorem CK:∀(ns:List Int) b,Wp (U2 K7 (ns.map D.int) (some (.int b,KB b))) G λx G'=>∃m,x= .int m/\(m=b\/m∈ns)/\(∀y,y=b\/y∈ns->¬ahI y m)/\G'=G
 |[],b=>by
   refine j7.mpr ⟨b,rfl,.inl rfl,λy h=>?_,rfl⟩
   rcases h with rfl|h
   ·unfold ahI;lia
   ·cases h
 |n::r,b=>by
   show Wp (noX (K7 [.int n]) >>= λk=>noX (ltD k (KB b)) >>= λc=>match c with| .bl true=>U2 K7 (r.map D.int) (some (.int n,k))| .bl false=>U2 K7 (r.map D.int) (some (.int b,KB b))|_=>M.stuck) G _
   refine j5.mpr<| wE<| d7 DM<| j5.mpr<| wE<| VZ (λh=>?_) λh=>?_
   · refine(CK r n).mono ?_
     rintro _ _ ⟨m,rfl,hm,hy,rfl⟩
     refine⟨m,rfl,hm.elim (λz=>.inr (by rw[z];exact zt ..)) (λz=>.inr (zn _ z)),λy hh=>?_,rfl⟩
     rcases hh with rfl|hh
     · refine wJ (hy n (.inl rfl)) λq=>?_
       unfold ahI at q h;lia
     · rcases zp.mp hh with rfl|hh
       ·exact hy _ (.inl rfl)
       ·exact hy y (.inr hh)
   · refine(CK r b).mono ?_
     rintro _ _ ⟨m,rfl,hm,hy,rfl⟩
     refine⟨m,rfl,hm.imp id (zn _),λy hh=>?_,rfl⟩
     rcases hh with rfl|hh
     ·exact hy _ (.inl rfl)
     · rcases zp.mp hh with rfl|hh
       ·exact wJ (hy b (.inl rfl)) h
       ·exact hy y (.inr hh)
theorem QQ:∀ns u v,M9 (A5 2 (W9 (y0 0) (W9 (y0 1) (S4)))) O7 (x0 (fnX 2 iE) (d0 (b8 0) (d0 (b8 1) g0))) (λ_=>true) (rsD ns) [u,v] G=some (.ok ((ns.map λp=>K2 p.1 p.2).map D.int),G)
 |[],u,v=>R8 (W8.mpr ⟨rfl,rfl,rfl⟩)
 | p :: r, u, v => R8 (X3.mpr ⟨rfl, d7 rfl <| d7 rfl <| by
    rw[if_pos rfl];exact j9 rfl rfl<| d7 Vb<| d7 (QQ r _ _) ⟨rfl,rfl⟩⟩)
theorem mO(hc:∀q∈p::r,okR q)(hl:(p::r).length<=1000):Wp (oF [.tup (rsD (p::r))]) G λx G'=>∃m,x= .int m/\inS (p::r) m/\(∀x,inS (p::r) x->¬ahI x m)/\Ap G G':=by
 refine J4 (show Wp (aF [some (.tup (rsD (p::r)))]) G _ from ?_)
 unfold aF
 refine o9 ?_
 show Wp (_ >>= λx=>iG K7 x) G _
 refine j5.mpr<| Q6 rfl (by rw[KH];lia)<| d7 (QQ (p::r) none none) ?_
 show Wp (O4 G.length >>= λo=>match o with| .lst l=>(d4 G.length (.rol l) >>= λ_=>noX (U2 K7 l none))|_=>M.stuck) _ _
 refine j5.mpr<| O5.mpr ⟨_,j8,j5.mpr<| tB.mpr<| wE ?_⟩
 have es:∀ {o o':DO},(G++[o]).set G.length o'=G++[o']:=λ{o o'}=>by rw[Jw _ _ (zo _),Jt];rfl
 rw[es]
 show Wp (noX (K7 [.int (K2 p.1 p.2)]) >>= λk=>U2 K7 ((r.map λp=>K2 p.1 p.2).map D.int) (some (.int (K2 p.1 p.2),k))) _ _
 refine j5.mpr<| wE<| d7 DM<| (CK _ _).mono ?_
 rintro _ _ ⟨m,rfl,hm,hy,rfl⟩
 have mem:∀ {q:Rg},q∈p::r->K2 q.1 q.2=K2 p.1 p.2\/K2 q.1 q.2∈r.map λp=>K2 p.1 p.2:=λ{q} hq=>by
  rcases zp.mp hq with rfl|hq
  ·exact .inl rfl
  ·exact .inr (zG.mpr ⟨q,hq,rfl⟩)
 refine t8 ⟨m,rfl,?_,λx hx=>?_,Ap.one⟩
 · rcases hm with rfl|hm
   ·exact⟨p,zt ..,(IH (hc p (zt ..))).1⟩
   · obtain⟨q,hq,rfl⟩:=zG.mp hm
     exact⟨q,zn _ hq,(IH (hc q (zn _ hq))).1⟩
 · obtain⟨q,hq,hx⟩:=hx
   exact wJ (hy _ (mem hq)) ((IH (hc q hq)).2 x hx)
def T0(l:List Nat):Prop:=∀c∈l,97<=c/\c<=122
def slt(a b:List Nat):Prop:=a.length<b.length\/(a.length=b.length/\a<b)
def eK(z z':List Nat):Prop:=(∃n,z=zm n 122/\z'=zm (n+1) 97)\/∃a c k,c≠122/\z=a++c::zm k 122/\z'=a++(c+1)::zm k 97
theorem II:∀xs,T0 xs->xs=zm xs.length 122\/xs<zm xs.length 122
 |[],_=>.inl rfl
 |x::r,h=>by
   have hx:=h x (zt ..)
   rw[zM,jB]
   by_cases e:x=122
   · subst e
     rcases II r λc hc=>h c (zn _ hc)with q|q
     ·exact .inl (by rw[<-q])
     ·exact .inr (jm.mpr (.inr ⟨rfl,q⟩))
   ·exact .inr (jm.mpr (.inl (by lia)))
theorem bK:∀xs,T0 xs->¬xs<zm xs.length 97
 |[],_=>λh=>by simp at h
 |x::r,h=>λq=>by
   have hx:=h x (zt ..)
   rw[zM,jB]at q
   rcases jm.mp q with q|q
   ·lia
   ·exact bK r (λc hc=>h c (zn _ hc)) q.2
theorem gN:∀a x,T0 x->x.length= (a++(c+1)::zm k 97).length->x<a++(c+1)::zm k 97->x=a++c::zm k 122\/x<a++c::zm k 122
 |[], [],_,hl,_=>by simp at hl
 |[],x::r,h,hl,q=>by
   have hr:r.length=k:=by simpa using hl
   have hL:T0 r:=λc hc=>h c (zn _ hc)
   rcases jm.mp q with q|⟨e,q⟩
   · by_cases e:x=c
     · subst e
       rcases II r hL with z|z
       ·left;rw[xR,<-hr,<-z]
       ·right;rw[hr]at z;exact jm.mpr (.inr ⟨rfl,z⟩)
     ·right;exact jm.mpr (.inl (by lia))
   · have:=bK r hL
     rw[hr]at this
     exact absurd q this
 |a0::a, [],_,hl,_=>by simp at hl
 |a0::a,x::r,h,hl,q=>by
   rcases jm.mp q with q2|⟨e,q2⟩
   ·right;exact jm.mpr (.inl q2)
   · subst e
     rcases gN a r (λc hc=>h c (zn _ hc)) (by simpa using hl) q2 with z|z
     ·left;rw[z];rfl
     ·right;exact jm.mpr (.inr ⟨rfl,z⟩)
theorem GT(s:eK z z')(h:T0 x)(q:slt x z'):x=z\/slt x z:=by
 rcases s with⟨n,rfl,rfl⟩|⟨a,c,k,hc,rfl,rfl⟩
 · rcases q with q|⟨e,q⟩
   · rw[jy]at q
     by_cases e:x.length=n
     · rcases II x h with z|z
       ·left;rw[z,e]
       ·right;rw[e]at z;exact .inr ⟨by rw[jy];exact e,z⟩
     ·right;exact .inl (by rw[jy];lia)
   · rw[jy]at e
     have:=bK x h
     rw[e]at this
     exact absurd q this
 · have el:(a++(c+1)::zm k 97).length= (a++c::zm k 122).length:=by simp
   rcases q with q|⟨e,q⟩
   ·right;exact .inl (by rw[<-el];exact q)
   · rcases gN a x h e q with z|z
     ·exact .inl z
     ·exact .inr (.inr ⟨e.trans el,z⟩)
theorem Bj{a b c:List Nat}(h:b<c):a++b<a++c:=by
 induction a with
 |nil=>exact h
 |cons x r ih=>exact jm.mpr (.inr ⟨rfl,ih⟩)
theorem aQ{z z':List Nat}(s:eK z z'):slt z z':=by
 rcases s with⟨n,rfl,rfl⟩|⟨a,c,k,hc,rfl,rfl⟩
 ·exact .inl (by simp)
 ·exact .inr ⟨by simp,Bj (jm.mpr (.inl (by lia)))⟩
theorem PP(h:slt a b)(k:slt b c):slt a c:=by
 rcases h with h|⟨h,h'⟩<;>rcases k with k|⟨k,k'⟩
 ·exact .inl (by lia)
 ·exact .inl (by lia)
 ·exact .inl (by lia)
 ·exact .inr ⟨by lia,Yt h' k'⟩
theorem TD(h:slt a a):False:=by
 rcases h with h|h
 ·lia
 ·exact ZT _ h.2
theorem FQ:∀l:List Nat,(∃n,l=zm n 122)\/∃a c k,c≠122/\l=a++c::zm k 122
 |[]=>.inl ⟨0,rfl⟩
 |x::r=>by
   rcases FQ r with⟨n,rfl⟩|⟨a,c,k,hc,rfl⟩
   · by_cases e:x=122
     ·exact .inl ⟨n+1,by rw[e,jB]⟩
     ·exact .inr ⟨[],x,n,e,rfl⟩
   ·exact .inr ⟨x::a,c,k,hc,rfl⟩
theorem tQ{a b:Str}(h:a.cps.toList=b.cps.toList):a=b:=by
 cases a;cases b
 congr 1
 exact xJ.mp h
theorem D4{z:Str}:z.cps.toList.length=z.length:=by rw[jW];rfl
theorem sZ:("z" :Str)= ⟨#[122]⟩:=by rfl
theorem sA:("a" :Str)= ⟨#[97]⟩:=by rfl
theorem qV(c:Nat):(⟨#[122]⟩:Str).cps.contains c= (c==122):=by
 show (#[122]:Array Nat).contains c=_
 by_cases h:c=122
 ·subst h;simp
 · rw[show (c==122)=false from beq_false_of_ne h]
   simp[h]
theorem CH{z:Str}:(y4 z ⟨#[122]⟩).cps.toList=z.cps.toList.take (z.length-(z.cps.toList.reverse.takeWhile (· == 122)).length):=by
 have hg:(⟨#[122]⟩:Str).cps.contains=λc=>c==122:=funext qV
 unfold y4 stripSame stripped stripLo stripHi
 rw[hg]
 simp only[if_true,XD,jw,if_false]
 split
 · rename_i h
   rw[jt,beq_iff_eq,beq_iff_eq]at h
   rw[h.2,<-D4,List.take_length]
 · unfold Builtin.Str.strSub
   simp
theorem sJ:∀k r,(∀c,r.head? =some c->c≠122)->((zm k 122++r).takeWhile (· == 122)).length=k
 |0,r,h=>by
   rw[List.replicate_zero,xR]
   rcases r with _|⟨c,r⟩
   ·rfl
   ·rw[List.takeWhile_cons_of_neg (by simpa using h c rfl)];rfl
 |k+1,r,h=>by
   rw[jB,List.cons_append,List.takeWhile_cons_of_pos (by rfl),zM,sJ k r h]
theorem TV{z:Str}(h:z.cps.toList=zm n 122):y4 z ⟨#[122]⟩= "":=by
 refine tQ ?_
 have hl:z.length=n:=by rw[<-D4,h,jy]
 have:=sJ n [] (λ_ e=>by cases e)
 rw[yz]at this
 rw[CH,h,List.reverse_replicate,this,hl,Jt]
 rfl
theorem QX{a:List Nat}(hc:c≠122)(h:z.cps.toList=a++c::zm k 122):(y4 z ⟨#[122]⟩).cps.toList=a++[c]:=by
 have hl:z.length=a.length+1+k:=by rw[<-D4,h];simp;lia
 have ht:=sJ k (c::a.reverse) (λx e=>by cases e;exact hc)
 rw[CH,h]
 have er:(a++c::zm k 122).reverse=zm k 122++c::a.reverse:=by simp
 rw[er,ht,hl,Nat.add_sub_cancel]
 have:a++c::zm k 122= (a++[c])++zm k 122:=by simp
 rw[this,List.take_left' (by simp)]
theorem NK(h0:0<=n)(h1:n<=2000)(q:Q (.str (Yh ⟨#[97]⟩ n)) G):Wp (N1 (.str "a") (.int n)) G Q:=by
 rw[sA]
 have ok:Zf ⟨#[97]⟩ n:=by
  refine⟨?_,λh _=>?_,λh _=>?_⟩
  ·simp;lia
  · show ¬((1:Int)>(2 ^ 63-1) / n)
    have:(2 ^ 63-1:Int) / n>=1:=(Int.le_ediv_iff_mul_le (by lia)).mpr (by lia)
    lia
  · unfold Builtin.Str.tooLong
    have:(⟨#[97]⟩:Str).length*n.toNat<=2000:=by show 1*n.toNat<=2000;lia
    have bg:2000<=zg:=by decide
    exact decide_eq_false (by lia)
 show Wp (if Zf ⟨#[97]⟩ n then pure (D.str (Yh ⟨#[97]⟩ n))else M.stuck:M D) G Q
 rw[if_pos ok]
 exact j7.mpr q
theorem ixs(hz:z.length<=zg)(h:atI z.cps.toList i=some c)(q:Q (.str ⟨#[c]⟩) G):Wp (ixD (.str z) (.int i)) G Q:=by
 have e:ixD (.str z) (.int i)=if z.length<=zg then (do
  let c <-K0 (atI z.cps.toList i)
  pure (.str ⟨#[c]⟩):M D)else M.stuck:=rfl
 rw[e,if_pos hz]
 exact j5.mpr<| L4.mpr ⟨c,h,j7.mpr q⟩
abbrev abc:Str:= "abcdefghijklmnopqrstuvwxyz"
theorem IV:∀k,k<26->jM abc ⟨#[97+k]⟩ 0 abc.length 1= [k]:=by decide +kernel
theorem tY:∀k,k<26->abc.cps.toList[k]? =some (97+k):=by decide +kernel
theorem rR(len:Nat)(h:0<len):xH none (some (-1)) 1 len=xH none (some ((len:Int)-1)) 1 len:=by
 unfold xH sliceRange
 simp only[show (1:Int)>0 by decide,if_true,show (-1:Int)<0 by decide,show ¬(len:Int)-1<0 by lia,if_false]
 congr 1
 all_goals first|rfl|(congr 1<;>lia)|lia
theorem nJ{a:List Nat}(h:z.cps.toList=a++[c]):(yA z none (some (-1))).cps.toList=a:=by
 have hl:z.length=a.length+1:=by rw[<-D4,h];simp
 have e:yA z none (some (-1))=yA z none (some ((z.length:Int)-1)):=by
  unfold yA
  rw[rR _ (by lia)]
 have k:=eq_of_beq (slice_closes_toL (x:=z) (j:=(z.length:Int)-1) (by lia) (by lia))
 rw[e,k]
 simp[h,hl]
def tl(z:Str):List Nat:=z.cps.toList
theorem cM(h:Tx z):T0 (tl z):=λc hc=>by
 have:=jS.mp h.1 c hc
 unfold IA at this
 simpa using this
theorem Nq(h:T0 (tl z))(hl:z.length<=1000):Tx z:=⟨jS.mpr λc hc=>by
 have:=h c hc
 unfold IA
 simpa using this,hl⟩
theorem qP(r:R () G):Wp (QA (.str z)) G R:=j7.mpr r
theorem cF(a b:Str):tl (a++b)=tl a++tl b:=by
 show (a.cps++b.cps).toList=_
 rw[Yd];rfl
theorem r8(a:Str):a.length= (tl a).length:=D4.symm
theorem nU{z:Str}(h:T0 (tl z))(hl:z.length<=500):Wp (FE [.str z]) G λx G'=>∃z',x= .str z'/\T0 (tl z')/\eK (tl z) (tl z')/\z'.length<=z.length+1/\G'=G:=by
 have bg:2000<=zg:=by decide
 have la:abc.length=26:=rfl
 refine J4 (show Wp (vG [some (.str z),none,none]) G _ from ?_)
 unfold vG
 have lr:(y4 z ⟨#[122]⟩).length<=z.length:=by
  rw[<-D4,CH,jD,D4];lia
 have hr:Wp (FG (.str z) [.str "z"]) G λx G'=>x= .str (y4 z ⟨#[122]⟩)/\G'=G:=by
  rw[sZ]
  show Wp (if (y4 z ⟨#[122]⟩).length<=zg then pure (D.str (y4 z ⟨#[122]⟩))else M.stuck:M D) G _
  rw[if_pos (by lia)]
  exact j7.mpr ⟨rfl,rfl⟩
 refine d8.mpr<| K6<| E6.mpr<| d7 rfl<| qP<| d7 rfl<| hr.mono ?_
 rintro _ G1 ⟨rfl,e2⟩
 have e3:=e2.symm
 subst e3
 rcases FQ (tl z) with⟨n,hz⟩|⟨a,c,k,hc,hz⟩
 · have hn:z.length=n:=by rw[<-D4];show (tl z).length=n;rw[hz,jy]
   rw[TV hz]
   refine d8.mpr<| N0 rfl<| o9<| m8<| d7 rfl<| m8<| y3 rfl<| (bA (by lia)).mpr<| d7 rfl<| Z2.mpr<| NK (by lia) (by lia)<| t8 ⟨_,rfl,?_,.inl ⟨n,hz,?_⟩,?_,rfl⟩
   · intro c hc
     unfold tl at hc
     rw[Ya]at hc
     rw[(List.mem_replicate.mp hc).2];exact⟨by decide,by decide⟩
   · unfold tl
     rw[Ya,hn]
     congr 1
   ·rw[<-D4,Ya,jy];lia
 · have hs:=QX hc hz
   generalize y4 z ⟨#[122]⟩=stem at *
   have hne:¬stem= "":=λe=>by
    rw[e]at hs
    have:=congrArg xl hs
    simp at this
    exact absurd this (by show ¬0=_;lia)
   have lc:=h c (by rw[hz];simp)
   have lst:stem.length=a.length+1:=by rw[<-D4,hs];simp
   have lz:z.length=a.length+1+k:=by rw[<-D4];show (tl z).length=_;rw[hz];simp;lia
   have hx:Wp (ixD (.str stem) (.int (-1))) G λx G'=>x= .str ⟨#[c]⟩/\G'=G:=ixs (by lia) (by rw[hs];exact atI_last _ _) ⟨rfl,rfl⟩
   have hi:Wp (QE (.str abc) [.str ⟨#[c]⟩]) G λx G'=>x= .int ((c-97:Nat):Int)/\G'=G:=by
    have e:=IV (c-97) (by lia)
    rw[show 97+(c-97)=c by lia]at e
    show Wp (match jM abc ⟨#[c]⟩ 0 abc.length 1 with|i::_=>pure (D.int (i:Int))|[]=>M.stuck:M D) G _
    rw[e]
    exact j7.mpr ⟨rfl,rfl⟩
   refine d8.mpr<| Q0<| v9<| o4 rfl rfl<| vp.mpr ⟨_,rfl,λq=>absurd (eq_of_beq q) hne,λ_=>j0.mpr ?_⟩
   refine d8.mpr<| K6<| m8<| d7 rfl<| m8<| E6.mpr<| d7 rfl<| qP<| m7<| m8<| d7 rfl<| d7 rfl<| hx.mono ?_
   rintro _ G1 ⟨rfl,e2⟩
   have e3:=e2.symm
   subst e3
   refine m5.mpr<| hi.mono ?_
   rintro _ G1 ⟨rfl,e2⟩
   have e3:=e2.symm
   subst e3
   refine d7 rfl<| Z2.mpr<| ixs (c:=c+1) (by rw[la];lia) ?_ ?_
   · rw[show ((c-97:Nat):Int)+1= ((c-96:Nat):Int) by lia]
     have:=tY (c-96) (by lia)
     rw[show 97+(c-96)=c+1 by lia]at this
     unfold atI
     rw[show ixN abc.cps.toList.length ((c-96:Nat):Int)=some (c-96) by
      unfold ixN
      rw[D4,la,if_pos (by lia),if_pos (by lia)]
      rfl]
     exact this
   · refine o9<| m8<| m8<| TK.mpr<| d7 rfl<| IY.mpr<| d7 rfl<| (sW (by lia)).mpr<| d7 rfl<| (vI ?_).mpr<| m8<| d7 rfl<| m8<| y3 rfl<| (bA (by lia)).mpr<| y3 rfl<| (bA (by lia)).mpr<| kA.mpr<| NK (by lia) (by lia)<| (vI ?_).mpr<| t8 ⟨_,rfl,?_,?_,?_,rfl⟩
     · rw[r8,r8,show tl (yA stem none (some (-1)))=a from nJ hs]
       show a.length+1<=_;lia
     · rw[r8,cF,show tl (yA stem none (some (-1)))=a from nJ hs,r8 (Yh _ _),show tl (Yh ⟨#[97]⟩ ((z.length:Int)-stem.length))=_ from Ya _ _,zA,jy]
       show a.length+1+_<=_;lia
     all_goals
      have E:tl (yA stem none (some (-1))++⟨#[c+1]⟩++Yh ⟨#[97]⟩ ((z.length:Int)-stem.length))=a++(c+1)::zm k 97:=by
       rw[cF,cF,show tl (yA stem none (some (-1)))=a from nJ hs,show tl (Yh ⟨#[97]⟩ ((z.length:Int)-stem.length))=_ from Ya _ _,show ((z.length:Int)-stem.length).toNat=k by lia]
       show a++[c+1]++_=_
       simp
     · rw[E]
       intro x hx
       rcases zJ.mp hx with q|q
       ·exact h x (by rw[hz];exact jQ _ q)
       · rcases zp.mp q with rfl|q
         ·exact⟨by lia,by lia⟩
         ·rw[(List.mem_replicate.mp q).2];exact⟨by decide,by decide⟩
     ·exact .inr ⟨a,c,k,hc,hz,E⟩
     ·rw[r8,E,lz];simp;lia
theorem kJ:txB a b=true↔slt (tl a) (tl b):=by
 unfold txB slt
 rw[r8 a,r8 b]
 by_cases e:(tl a).length= (tl b).length
 · rw[if_pos e,decide_eq_true_iff]
   exact⟨λh=>.inr ⟨e,h⟩,λh=>h.elim (λz=>absurd z (by lia)) λz=>z.2⟩
 · rw[if_neg e,decide_eq_true_iff]
   exact⟨.inl,λh=>h.elim id λz=>absurd z.1 e⟩
theorem MV(h:tl a=tl b):a=b:=tQ h
theorem vj:bF=j6 (ifS (m6 (c7 eqD (c7 ixD (b8 0) (cE (.int 0))) (cE (.str ("of" :Str))))) (t6 (c7 ixD (c7 ixD (b8 0) (cE (.int 1))) (cE (.int 0)))) m9) (j6 (v8 (cE (.str ("" :Str))) (y0 1)) (j6 (S1 (itW (c7 ixD (b8 0) (cE (.int 1)))) (y0 2) FT) (t6 (b8 1)))):=rfl
structure UM(ss:List Str)(t:Str):Prop where
 lt:T0 (tl t)
 len:t.length<=500
 out:t∉ss
 all:∀x,T0 x->slt x (tl t)->∃w∈ss,tl w=x
theorem DP(hr:Ris ss)(tx:∀z∈ss,Tx z)(hl:ss.length<=400):∀T6 dn first u,ss=dn++T6->T0 (tl first)->first.length<=dn.length->
 (∀x,T0 x->slt x (tl first)->∃w∈dn,tl w=x)->(∀w∈dn,slt (tl w) (tl first))->
 Wp (H0 (y0 2) FT (λ_=>true) (T6.map D.str) [row,some (.str first),u]) G λfl G'=>∃t,(fl= .rt (.str t)\/∃u,fl= .nx [row,some (.str t),u])/\UM ss t/\G'=G
 |[],dn,first,u,e,hf,hn,ha,hd=>by
   rw[yz]at e
   subst e
   exact E7.mpr ⟨rfl,first,.inr ⟨u,rfl⟩,⟨hf,by lia,λh=>TD (hd _ h),ha⟩,rfl⟩
 |text::r,dn,first,u,e,hf,hn,ha,hd=>by
   have hle:dn.length<=ss.length:=by rw[e,zA];lia
   refine P7.mpr ⟨rfl,O1.mpr ?_⟩
   have hne:Wp (neD (.str text) (.str first)) G λx G'=>x= .bl (!(text==first))/\G'=G:=t4.mpr ⟨_,rfl,rfl,rfl⟩
   by_cases et:text=first
   · subst et
     refine d8.mpr<| Q0<| v9<| o4 rfl rfl<| t4.mpr ⟨true,by show some (text==text)=some true;rw[beq_self_eq_true],false,rfl,λz=>kE z,λ_=>j0.mpr ?_⟩
     refine K6<| j9 rfl rfl<| (nU hf (by lia)).mono ?_
     rintro _ G1 ⟨z',rfl,hL,hS,hlen,e2⟩
     have e3:=e2.symm
     subst e3
     refine DP hr tx hl r (dn++[text]) z' _ (by rw[e];simp) hL (by rw[zA];simp;lia) (λx hx q=>?_) λw hw=>?_
     · rcases GT hS hx q with z|z
       ·exact⟨text,by simp,z.symm⟩
       · obtain⟨w,hw,e4⟩:=ha x hx z
         exact⟨w,jQ _ hw,e4⟩
     · rcases zJ.mp hw with hw|hw
       ·exact PP (hd w hw) (aQ hS)
       ·rw[zk.mp hw];exact aQ hS
   · refine d8.mpr<| Q0<| v9<| o4 rfl rfl<| t4.mpr ⟨false,by show some (text==first)=some false;rw[beq_false_of_ne et],true,rfl,λ_=>o9<| d7 rfl ⟨first,.inl rfl,⟨hf,by lia,λh=>?_,λx hx q=>?_⟩,rfl⟩,λz=>absurd z (by decide)⟩
     · rw[e]at h hr
       have hp:=yB.mp hr
       rcases zJ.mp h with h|h
       ·exact TD (hd _ h)
       · rcases zp.mp h with h|h
         ·exact et h.symm
         · have q:=kJ.mp ((jf.mp hp.2.1).1 first h)
           have lt:T0 (tl text):=cM (tx text (by rw[e];simp))
           obtain⟨w,hw,e4⟩:=ha _ lt q
           have:=kJ.mp (hp.2.2 w hw text (zt ..))
           rw[e4]at this
           exact TD this
     · obtain⟨w,hw,e4⟩:=ha x hx q
       exact⟨w,by rw[e];exact jQ _ hw,e4⟩
theorem aN:atI (x::l) 0=some x:=atI_nat rfl
theorem Ld(hr:Ris ss)(tx:∀z∈ss,Tx z)(hl:ss.length<=400)(hne:¬(b=true/\ss= [])):Wp (cG [J2 b ss]) G λx G'=>∃t,x= .str t/\Tx t/\inT b ss t/\(∀z,T0 (tl z)->inT b ss z->¬slt (tl z) (tl t))/\G'=G:=by
 refine J4 (show Wp (bF [some (J2 b ss),none,none]) G _ from ?_)
 rw[vj]
 rcases b with _|_
 · refine d8.mpr<| F0 rfl<| j0.mpr<| J6 (X2:= [some (J2 false ss),some (.str ""),none]) rfl<| d8.mpr<| A7.mpr<| wp_itW.mpr<| d7 rfl<| srcW_tup.mpr<| (DP hr tx hl ss [] "" none rfl (λc hc=>(nomatch hc)) (zo _) (λx _ q=>?_) (λw hw=>(nomatch hw))).mono ?_
   · exfalso
     rcases q with q|q
     ·exact Nat.not_lt_zero _ q
     ·exact absurd q.2 (by show ¬x < [];simp)
   · have fin:∀ {t:Str},UM ss t->Tx t/\inT false ss t/\∀z,T0 (tl z)->inT false ss z->¬slt (tl z) (tl t):=λ{t} f=>⟨Nq f.lt (by have:=f.len;lia),f.out,λz hz hi q=>by
      obtain⟨w,hw,e⟩:=f.all _ hz q
      exact hi (MV e▸hw)⟩
     rintro _ G1 ⟨t,h|⟨u,h⟩,f,e2⟩
     ·subst h;exact⟨t,rfl,(fin f).1,(fin f).2.1,(fin f).2.2,e2⟩
     ·subst h;exact o9<| d7 rfl<| t8 ⟨t,rfl,(fin f).1,(fin f).2.1,(fin f).2.2,e2⟩
 · rcases ss with _|⟨t,r⟩
   ·exact absurd ⟨rfl,rfl⟩ hne
   · refine d8.mpr<| N0 rfl<| o9<| o4 rfl rfl<| ix_tup.mpr ⟨.str t,aN,t8 ⟨t,rfl,tx t (zt ..),zt ..,λz hz hi q=>?_,rfl⟩⟩
     rcases zp.mp (show z∈t::r from hi)with rfl|h
     ·exact TD q
     ·exact TD (PP q (kJ.mp ((jf.mp hr).1 z h)))
def pvD(p:Str×D):D:=.tup [.str p.1,p.2]
def Lx(z:Str):Prop:=T0 (tl z)/\z.length<=2000
def Nm(z:Str):Prop:=Tx z/\0<z.length
inductive VD(w:Nat):Nat->D->NV->Prop
 |num {k:Nat} {i:Int}:VD w k (.int i) (.num i)
 |txt {k:Nat} {z:Str} (h:Lx z):VD w k (.str z) (.txt z)
 |tru {k:Nat} {b:Bool}:VD w k (.bl b) (.tru b)
 |lst {k:Nat} {ds:List D} {f:Nat->NV} (hl:ds.length<=w) (h:∀(i:Nat) (d:D),ds[i]? =some d->VD w k d (f i)):VD w (k+1) (.tup [.str r6,.tup ds]) (.lst ds.length f)
 |rcd {k:Nat} {ps:List (Str×D)} {q:Str->Bool} {f:Str->NV} (hl:ps.length<=w) (hn:(ps.map (·.1)).Pairwise nlt) (hx:∀p∈ps,Nm p.1) (h:∀p∈ps,VD w k p.2 (f p.1)) (hq:∀z,q z=true↔z∈ps.map (·.1)):VD w (k+1) (.tup [.str P4,.tup (ps.map pvD)]) (.rcd q f)
def QJ(w k:Nat)(R:List D->M D):Prop:=∀(n:Nat) (c:CS n) (d:D) (v:NV) (G:DH),SzC n 47 c->Gd n c->VD w k d v->Wp (R [d,enC n c]) G λx G'=>Ap G G'/\∃b:Bool,x= .bl b/\(b=true↔inC n c v)
theorem bC{l:List α}{f:α->Bool}(h:G[r]? =some (.lst (l.map λx=>.bl (f x)))):Wp (u7 [.ref r]) G Q↔Q (.bl (l.all f)) G:=by
 have h0:u7 [.ref r]= (do
  let l <-O4 r >>= DL.listOf
  let bs <-K0 (i7 l)
  pure (.bl (bs.all id))):=rfl
 rw[h0]
 simp only[j5,O5,h,R5,DL.listOf,j7,L4,lK,ZB]
 rfl
theorem bV{P:ι->Prop}{Q:ι->α->DH->Prop}(i0:ι)(h0:P i0)(h:∀i,P i->Wp m G (Q i)):Wp m G λx G'=>∀i,P i->Q i x G':=by
 obtain⟨a,G',e,_⟩:=h i0 h0
 refine⟨a,G',e,λi hi=>?_⟩
 obtain⟨a',G'',e',q⟩:=h i hi
 rw[e]at e';cases e';exact q
section
variable{w n k:Nat}{R:List D->M D}{G:DH}
theorem Mx(hw:w<=500)(ih:QJ w k R){r:Option (List (CS n)×CS n)}{f:Nat->NV}(hz:lsZ n 47 r)(hg:qI (Gd n) r)(hl:ds.length<=w)(h:∀i d,ds[i]? =some d->VD w k d (f i)):Wp (W7 R [.tup ds,lsD (enC n) r]) G λx G'=>Ap G G'/\∃b:Bool,x= .bl b/\(b=true↔F2 (inC n) r ds.length f):=by
 have bg:=big
 rcases r with _|⟨fs,m⟩
 ·exact c5 rfl ⟨Ap.refl,false,rfl,λz=>(nomatch z),λz=>absurd z OD⟩
 have z:=hz fs m rfl
 refine J4 (show Wp (rE R [some (.tup ds),some (.tup [.tup (fs.map (enC n)),enC n m]),none]) G _ from ?_)
 unfold rE
 refine d8.mpr<| Q0<| B7<| d7 rfl ⟨λz=>(nomatch z),λ_=>v9<| o4 rfl rfl<| B9.mpr ⟨_,rfl,λg=>?_,λg=>j0.mpr ?_⟩⟩
 · have g:=of_decide_eq_true g
   rw[zc]at g
   exact o9<| d7 rfl<| t8 ⟨Ap.refl,false,rfl,λz=>(nomatch z),λz=>by have:=(b9.mp z).1;lia⟩
 have g:=of_decide_eq_false g
 rw[zc]at g
 have e0:((ds.length:Int)-((fs.map (enC n)).length:Int))= ((ds.length-fs.length:Nat):Int):=by rw[zc];lia
 refine d8.mpr<| K6<| m8<| d7 rfl<| m8<| d7 rfl<| o4 rfl rfl<| kA.mpr ?_
 rw[e0]
 refine(AW ⟨by lia,by lia,by simp⟩).mpr ?_
 rw[jX,show (zm (ds.length-fs.length) [enC n m]).flatten=zm (ds.length-fs.length) (enC n m) by simp]
 refine(C5 (by rw[zc,jy];lia)).mpr ?_
 have hs:∀i,i<ds.length->(fs.map (enC n)++zm (ds.length-fs.length) (enC n m))[i]? =some (enC n (frt fs m i)):=λi hi=>by
  by_cases h1:i<fs.length
  ·rw[zK (by rw[zc];exact h1),zB,ze h1,P5 h1];rfl
  ·rw[yZ (by rw[zc];lia),Zr,if_pos (by rw[zc];lia),EA (by lia)]
 have hlen:(fs.map (enC n)++zm (ds.length-fs.length) (enC n m)).length=ds.length:=by rw[zA,zc,jy];lia
 generalize fs.map (enC n)++zm (ds.length-fs.length) (enC n m)=ss at hs hlen
 refine o9<| M8<| m7<| wp_comp.mpr<| d7 rfl ⟨by show (List.map _ (ds.zip ss)).length<=_;rw[zc,ZG];lia,?_⟩
 have gf:∀i,Gd n (frt fs m i):=λi=>vY hg i
 have zf:∀i,SzC n 47 (frt fs m i):=λi=>AZ hz i
 refine(l5 (λG'=>Ap G G') (λσ=>∃u v,σ= [u,v]) (λd y=>∃b:Bool,y= .bl b/\∀i:Nat,((ds.zip ss).map λp=>D.tup [p.1,p.2])[i]? =some d->(b=true↔inC n (frt fs m i) (f i))) (λ_ _=>rfl) _ _ G ⟨_,_,rfl⟩ Ap.refl ?_).mono ?_
 · rintro d hd _ G1 ⟨u,v,rfl⟩ a1
   obtain⟨i0,hi0⟩:=zN.mp hd
   have at_:∀i:Nat,((ds.zip ss).map λp=>D.tup [p.1,p.2])[i]? =some d->∃x,d= .tup [x,enC n (frt fs m i)]/\VD w k x (f i):=λi hi=>by
    rw[zB]at hi
    rcases e:(ds.zip ss)[i]? with _|⟨x,s⟩
    ·rw[e]at hi;cases hi
    · rw[e]at hi;cases hi
      obtain⟨e1,e2⟩:=jJ.mp e
      have:=hs i (zy.mp e1).1
      rw[e2]at this;cases this
      exact⟨x,rfl,h i x e1⟩
   obtain⟨x,rfl,_⟩:=at_ i0 hi0
   refine d7 rfl ⟨rfl,⟨_,_,rfl⟩,?_⟩
   refine j9 rfl rfl<| (bV (P:=λi:Nat=>((ds.zip ss).map λp=>D.tup [p.1,p.2])[i]? =some (.tup [x,enC n (frt fs m i0)])) (Q:=λi y G3=>Ap G1 G3/\∃b:Bool,y= .bl b/\(b=true↔inC n (frt fs m i) (f i))) i0 hi0 λi hi=>?_).mono λy G3 q=>?_
   · obtain⟨x',e,hv⟩:=at_ i hi
     obtain⟨rfl,e2⟩:x=x'/\enC n (frt fs m i0)=enC n (frt fs m i):=by
      have:=D.tup.inj e
      exact⟨(jI this).1,(jI (jI this).2).1⟩
     rw[e2]
     exact ih n _ x _ G1 (zf i) (gf i) hv
   · obtain⟨a3,b,rfl,_⟩:=q i0 hi0
     refine⟨a1.trans a3,b,rfl,λi hi=>?_⟩
     obtain⟨_,b',e,hb⟩:=q i hi
     cases e;exact hb
 · rintro _ G1 ⟨a1,zs,e1,rfl,hz⟩
   obtain⟨hs',e2,e3,e4⟩:=nB (β:=Bool) (P:=λd b=>∀i:Nat,((ds.zip ss).map λp=>D.tup [p.1,p.2])[i]? =some d->(b=true↔inC n (frt fs m i) (f i))) zs hz
   rw[e2,show hs'.map D.bl=hs'.map λb=>D.bl (id b)from rfl]
   refine m5.mpr<| (bC j8).mpr<| t8 ⟨a1.trans Ap.one,_,rfl,?_⟩
   have hln:hs'.length=ds.length:=by
    rw[e3,<-zc,e1,zc,ZG,hlen,Nat.min_self]
   rw[b9,jS]
   have at2:∀(i:Nat) b,hs'[i]? =some b->(b=true↔inC n (frt fs m i) (f i)):=λi b hb=>by
    have hi:i<((ds.zip ss).map λp=>D.tup [p.1,p.2]).length:=by
     rw[zc,ZG,hlen,Nat.min_self,<-hln];exact(zy.mp hb).1
    have hd:=ze hi
    exact e4 i b _ hb (by rw[e1];exact hd) i hd
   refine⟨λhh=>⟨by lia,λi hi=>?_⟩,λhh b hb=>?_⟩
   · have hb:=ze (l:=hs') (i:=i) (by lia)
     exact(at2 i _ hb).mp (hh _ (jd _))
   · obtain⟨i,hi⟩:=zN.mp hb
     exact(at2 i b hi).mpr (hh.2 i (by have:=(zy.mp hi).1;lia))
end
section
variable{a b:Fe}{σ:DSt}{G:DH}{k j:Bool}
theorem bM(ea:a σ G=some (.ok (.bl k),G))(eb:b σ G=some (.ok (.bl j),G)):B2 a b σ G=some (.ok (.bl (k&&j)),G):=R8<| nE.mpr<| d7 ea<| R6.mpr<| by
 cases k
 ·rw[if_neg (by decide)];exact⟨rfl,rfl⟩
 ·rw[if_pos rfl];exact d7 eb ⟨rfl,rfl⟩
theorem pH(ea:a σ G=some (.ok (.bl false),G))(eb:b σ G=some (.ok (.bl j),G)):N9 a b σ G=some (.ok (.bl j),G):=R8<| vN.mpr<| d7 ea<| R6.mpr<| by
 rw[if_neg (by decide)];exact d7 eb ⟨rfl,rfl⟩
theorem qJ(ea:a σ G=some (.ok (.bl true),G)):N9 a b σ G=some (.ok (.bl true),G):=R8<| vN.mpr<| d7 ea<| R6.mpr<| by
 rw[if_pos rfl];exact⟨rfl,rfl⟩
end
def loB:Option Int->Int->Bool
 |none,_=>true
 |some a,x=>decide (a<=x)
def hiB:Option Int->Int->Bool
 |none,_=>true
 |some a,x=>decide (x<=a)
theorem gO:(loB p.1 x&&hiB p.2 x)=true↔inR p x:=by
 obtain⟨a,b⟩:=p
 unfold inR
 rcases a with _|a<;>rcases b with _|b<;>simp[loB,hiB]
theorem FW{p:Rg}:NE [some (l4 p.1),some (l4 p.2),some (.int x)] G=some (.ok (.bl (loB p.1 x&&hiB p.2 x)),G):=by
 obtain⟨a,b⟩:=p
 refine bM ?_ ?_
 · rcases a with _|a
   ·exact qJ rfl
   ·exact pH rfl rfl
 · rcases b with _|b
   ·exact qJ rfl
   ·exact pH rfl rfl
theorem rM:∀ns u v,M9 (A5 2 (W9 (y0 0) (W9 (y0 1) S4))) O7 NE (λ_=>true) (rsD ns) [u,v,some (.int x)] G=some (.ok (ns.map λp=>.bl (loB p.1 x&&hiB p.2 x)),G)
 |[],u,v=>R8 (W8.mpr ⟨rfl,rfl,rfl⟩)
 | p :: r, u, v => R8 (X3.mpr ⟨rfl, d7 rfl <| d7 rfl <| by
    rw[if_pos rfl];exact d7 FW<| d7 (rM r _ _) ⟨rfl,rfl⟩⟩)
theorem Ph{l:List α}{f:α->Bool}(h:G[r]? =some (.lst (l.map λx=>.bl (f x)))):Wp (QC [.ref r]) G Q↔Q (.bl (l.any f)) G:=by
 have h0:QC [.ref r]= (do
  let l <-O4 r >>= DL.listOf
  let bs <-K0 (i7 l)
  pure (.bl (bs.any id))):=rfl
 rw[h0]
 simp only[j5,O5,h,R5,DL.listOf,j7,L4,lK,YJ]
 rfl
theorem bN(h:pvD p=pvD q):p=q:=by
 have:=D.tup.inj h
 exact Xy (D.str.inj (jI this).1) (jI (jI this).2).1
theorem Bv{n:Nat}{fs:List (Str×Bool×CS n)}{m:CS n}(h:qH (Gd n) (some (fs,m)))(z:Str):Gd n (fld fs m z).2:=by
 by_cases hz:z∈fs.map (·.1)
 ·exact(h fs m rfl).2.2 _ (WA hz)
 ·rw[y7 hz];exact(h fs m rfl).1
theorem KD:∀(ps:List (Str×D)) (u:Option D) (G:DH),M9 (y0 0) O7 (c7 ixD (b8 0) (cE (.int 0))) (λ_=>true) (ps.map pvD) [u] G=some (.ok ((ps.map (·.1)).map D.str),G)
 |[],u,G=>R8 (W8.mpr ⟨rfl,rfl,rfl⟩)
 |p::r,u,G=>R8 (X3.mpr ⟨rfl,d7 rfl<| d7 rfl<| by rw[if_pos rfl];exact d7 rfl<| d7 (KD r _ G) ⟨rfl,rfl⟩⟩)
theorem HE:∀(ps:List (Str×D)) (u:Option D) (G:DH),M9 (y0 0) O7 (c7 ixD (b8 0) (cE (.int 1))) (λ_=>true) (ps.map pvD) [u] G=some (.ok (ps.map (·.2)),G)
 |[],u,G=>R8 (W8.mpr ⟨rfl,rfl,rfl⟩)
 |p::r,u,G=>R8 (X3.mpr ⟨rfl,d7 rfl<| d7 rfl<| by rw[if_pos rfl];exact d7 rfl<| d7 (HE r _ G) ⟨rfl,rfl⟩⟩)
section
variable{n:Nat}{G:DH}
theorem oH{ws:List Str}{p:Nat}(e:G[p]? =some (.lst (ws.map D.str))):∀(fs:List (Str×Bool×CS n)) (u:Option D),M9 (y0 0) (J8 (c7 ixD (b8 0) (cE (.int 1)))) (c7 inD (c7 ixD (b8 0) (cE (.int 0))) (b8 1)) (λ_=>true) (fs.map (fdE (enC n))) [u,some (.ref p)] G=some (.ok ((fs.filter (·.2.1)).map λx=>.bl (decide (x.1∈ws))),G)
 |[],u=>R8 (W8.mpr ⟨rfl,rfl,rfl⟩)
 | (z, b, c) :: r, u => R8 (X3.mpr ⟨rfl, d7 rfl <| d7 (a := b) (G' := G) rfl <| by
     cases b
     ·rw[if_neg (by decide)];exact d7 (oH e r _) ⟨rfl,rfl⟩
     ·rw[if_pos rfl];exact o4 rfl rfl<| SE.mpr ⟨_,lI e,d7 (oH e r _) ⟨rfl,rfl⟩⟩⟩)
theorem CL{P:D}{m:CS n}{z:Str}:∀(fs:List (Str×Bool×CS n)) (u:Option D),Wp (H0 (y0 2) IB (λ_=>true) (fs.map (fdE (enC n))) [some P,some (.str z),u]) G λfl G'=>G'=G/\(fl= .rt (enC n (fld fs m z).2)\/(fld fs m z= (false,m)/\∃u,fl= .nx [some P,some (.str z),u]))
 |[],u=>E7.mpr ⟨rfl,rfl,.inr ⟨rfl,u,rfl⟩⟩
 |(y,b,c)::r,u=>by
  refine P7.mpr ⟨rfl,O1.mpr ?_⟩
  unfold IB
  refine Q0<| v9<| o4 (x:=.str y) (y:=.str z) rfl rfl<| dA.mpr ⟨y==z,rfl,y==z,rfl,λh=>?_,λh=>j0.mpr ?_⟩
  · refine o9<| d7 (a:=enC n c) (G':=G) rfl ⟨rfl,.inl ?_⟩
    unfold fld;rw[if_pos (show y=z from beq_iff_eq.mp h)]
  · have e:fld ((y,b,c)::r) m z=fld r m z:=by
     show (if y=z then (b,c)else fld r m z)=_
     rw[if_neg λe=>by rw[e,beq_self_eq_true]at h;cases h]
    rw[e]
    exact CL r _
theorem Hx{fs:List (Str×Bool×CS n)}{m:CS n}{z:Str}:rF [.tup [.tup (fs.map (fdE (enC n))),enC n m],.str z] G=some (.ok (enC n (fld fs m z).2),G):=by
 refine R8 (J4 (show Wp (wK [some (.tup [.tup (fs.map (fdE (enC n))),enC n m]),some (.str z),none]) G _ from ?_))
 refine d8.mpr<| A7.mpr<| wp_itW.mpr<| d7 rfl<| srcW_tup.mpr<| (CL (m:=m) fs none).mono ?_
 rintro _ _ ⟨rfl,rfl|⟨e,u,rfl⟩⟩
 ·exact t8 ⟨rfl,rfl⟩
 ·rw[e];exact o9<| d7 rfl (t8 ⟨rfl,rfl⟩)
end
section
variable{w n k:Nat}{R:List D->M D}{G:DH}
theorem nT(hw:w<=500)(ih:QJ w k R){ps:List (Str×D)}{r:Option (List (Str×Bool×CS n)×CS n)}(hz:rsZ n 47 r)(hg:qH (Gd n) r)(hl:ps.length<=w)(h:∀p∈ps,VD w k p.2 (f p.1))(hq:∀z,q z=true↔z∈ps.map (·.1)):Wp (T3 R [.tup (ps.map pvD),rcD (enC n) r]) G λx G'=>Ap G G'/\∃b:Bool,x= .bl b/\(b=true↔T2 (inC n) r q f):=by
 have bg:=big
 rcases r with _|⟨fs,m⟩
 ·exact c5 rfl ⟨Ap.refl,false,rfl,λz=>(nomatch z),λz=>absurd z QG⟩
 have hz':=hz fs m rfl
 have hg':=hg fs m rfl
 have hl2:(ps.map pvD).length<=10000:=by rw[zc];lia
 refine J4 (show Wp (Z5 R [some (.tup (ps.map pvD)),some (.tup [.tup (fs.map (fdE (enC n))),enC n m]),none]) G _ from ?_)
 unfold Z5
 refine J6 (X2:= [some (.tup (ps.map pvD)),some (.tup [.tup (fs.map (fdE (enC n))),enC n m]),none]) rfl<| d8.mpr<| K6<| Q6 rfl hl2<| d7 (KD ps none G) ?_
 have must:((fs.filter (·.2.1)).all λx=>decide (x.1∈ps.map (·.1)))=true↔∀z,q z=false->(fld fs m z).1=false:=by
  rw[jS]
  constructor
  · intro hh z qz
    rcases e:(fld fs m z).1 with _|_
    ·rfl
    by_cases hm:z∈fs.map (·.1)
    · have:=of_decide_eq_true (hh (z,fld fs m z) (jN.mpr ⟨WA hm,e⟩))
      rw[(hq z).mpr this]at qz;cases qz
    ·rw[y7 hm]at e;cases e
  · intro hh x hx
    obtain⟨h1,h2⟩:=jN.mp hx
    refine decide_eq_true ((hq _).mp ?_)
    rcases e:q x.1 with _|_
    · have:=hh _ e
      rw[MB hg'.2.1 h1,h2]at this;cases this
    ·rfl
 refine d8.mpr<| Q0<| fH.mpr<| X4.mpr<| M8<| m7<| Q6 (l:=fs.map (fdE (enC n))) rfl (by rw[zc];lia)<| d7 (oH j8 fs none)<| m5.mpr<| (bC j8).mpr<| R6.mpr ⟨λhb=>?_,λhb=>j0.mpr ?_⟩
 · refine o9<| d7 rfl<| t8 ⟨Ap.one.trans Ap.one,false,rfl,λz=>(nomatch z),λz=>?_⟩
   rw[must.mpr λy hy=>(X8.mp z y).2 hy]at hb;cases hb
 have hb:((fs.filter (·.2.1)).all λx=>decide (x.1∈ps.map (·.1)))=true:=by
  rcases e:((fs.filter (·.2.1)).all λx=>decide (x.1∈ps.map (·.1)))with _|_
  ·rw[e]at hb;cases hb
  ·exact e
 have hb:=must.mp hb
 have a0:Ap G (G++[.lst ((ps.map (·.1)).map D.str)]++[.lst ((fs.filter (·.2.1)).map λx=>.bl (decide (x.1∈ps.map (·.1))))]):=Ap.one.trans Ap.one
 generalize G++[DO.lst ((ps.map (·.1)).map D.str)]++[DO.lst ((fs.filter (·.2.1)).map λx=>.bl (decide (x.1∈ps.map (·.1))))]=G1 at a0
 refine o9<| M8<| m7<| Q6 rfl hl2<| (l5 (λG'=>Ap G1 G') (λσ=>∃u v,σ= [u,v,some (.tup [.tup (fs.map (fdE (enC n))),enC n m])]) (λd y=>∃b:Bool,y= .bl b/\∀p∈ps,pvD p=d->(b=true↔inC n (fld fs m p.1).2 (f p.1))) (λ_ _=>rfl) _ _ G1 ⟨_,_,rfl⟩ Ap.refl ?_).mono ?_
 · rintro d hd _ G2 ⟨u,v,rfl⟩ a2
   obtain⟨p,hp,rfl⟩:=zG.mp hd
   refine d7 rfl ⟨rfl,⟨_,_,rfl⟩,?_⟩
   refine M8<| K5 rfl<| m7<| j9 rfl rfl<| d7 Hx<| m5.mpr<| U8.mpr ⟨rfl,(ih n _ p.2 _ G2 (pW hz p.1) (Bv hg p.1) (h p hp)).mono ?_⟩
   rintro _ G3 ⟨a3,b,rfl,hb⟩
   exact⟨a2.trans a3,b,rfl,λp' _ e=>by rw[bN e];exact hb⟩
 · rintro _ G2 ⟨a2,zs,e1,rfl,hz⟩
   obtain⟨bs,e2,e3,e4⟩:=nB (β:=Bool) (P:=λd b=>∀p∈ps,pvD p=d->(b=true↔inC n (fld fs m p.1).2 (f p.1))) zs hz
   rw[e2,show bs.map D.bl=bs.map λb=>D.bl (id b)from rfl]
   refine m5.mpr<| (bC j8).mpr<| t8 ⟨a0.trans (a2.trans Ap.one),_,rfl,?_⟩
   have hln:bs.length=ps.length:=by rw[e3,<-zc,e1,zc]
   have at2:∀(i:Nat) b p,bs[i]? =some b->ps[i]? =some p->(b=true↔inC n (fld fs m p.1).2 (f p.1)):=λi b p hb hp=>
    e4 i b (pvD p) hb (by rw[e1,zB,hp];rfl) p (js hp) rfl
   rw[X8,jS]
   refine⟨λhh z=>⟨λhqz=>?_,hb z⟩,λhh b hb=>?_⟩
   · obtain⟨p,hp,rfl⟩:=zG.mp ((hq z).mp hqz)
     obtain⟨i,hi⟩:=zN.mp hp
     have hl3:=(zy.mp hi).1
     have hb:=ze (l:=bs) (i:=i) (by lia)
     exact(at2 i _ p hb hi).mp (hh _ (jd _))
   · obtain⟨i,hi⟩:=zN.mp hb
     have hl3:=(zy.mp hi).1
     have hp:=ze (l:=ps) (i:=i) (by lia)
     exact(at2 i b _ hi hp).mpr ((hh _).1 ((hq _).mpr (zG.mpr ⟨_,jd _,rfl⟩)))
end
theorem in_at(hw:w<=500):∀k N,k<N->QJ w k (gD N)
 |k,N+1,hk=>λn c d v G hz hg hv=>by
   rcases n with _|n
   ·exact d7 rfl ⟨Ap.refl,true,rfl,λ_=>trivial,λ_=>rfl⟩
   rcases c with _|s
   ·exact d7 rfl ⟨Ap.refl,true,rfl,λ_=>trivial,λ_=>rfl⟩
   have z:=hz s rfl
   have g:=hg.1
   refine J4 (show Wp (OC (gD N) [some d,some (.tup (fiv (enC n) s))]) G _ from ?_)
   unfold OC
   refine J6 (X2:= [some d,some (.tup (fiv (enC n) s))]) rfl ?_
   rcases hv with _|_|_|⟨hl,h⟩|⟨hl,hn,hx,h,hq⟩
   · refine J6 (X2:= [_,_]) rfl<| d8.mpr<| N0 rfl<| o9<| M8<| m7<| Q6 rfl (by rw[KH];have:=z.ns;lia)<| d7 (rM s.ns none none)<| m5.mpr<| (Ph j8).mpr<| t8 ⟨Ap.one,_,rfl,?_⟩
     rw[YX]
     exact⟨fun⟨p,hp,h⟩=>⟨p,hp,gO.mp h⟩,fun⟨p,hp,h⟩=>⟨p,hp,gO.mpr h⟩⟩
   · rename_i z' _
     refine J6 (X2:= [_,_]) rfl<| J6 (X2:= [_,_]) rfl<| d8.mpr<| N0 rfl<| o9<| m8<| o4 rfl rfl<| SE.mpr ⟨_,OH,?_⟩
     have e:(c7 eqD (c7 ixD (c7 ixD (b8 1) (cE (.int 1))) (cE (.int 0))) (cE (.str ("of" :Str)))) [some (.str z'),some (.tup (fiv (enC n) s))] G=some (.ok (.bl s.b),G):=by
      rcases s with⟨ns,b,ss,bs,ls,rs⟩
      cases b<;>rfl
     refine d7 e<| dA.mpr ⟨_,rfl,t8 ⟨Ap.refl,_,rfl,?_⟩⟩
     show _↔inT s.b s.ss z'
     unfold inT
     by_cases hm:z'∈s.ss<;>cases s.b<;>simp[hm]
   · rename_i b
     exact d8.mpr<| N0 rfl<| o9<| o4 rfl rfl<| SE.mpr ⟨_,kb g.bs,t8 ⟨Ap.refl,_,rfl,by rw[decide_eq_true_eq];exact Iff.rfl⟩⟩
   · rename_i k ds f
     refine J6 (X2:= [_,_]) rfl<| J6 (X2:= [_,_]) rfl<| J6 (X2:= [_,_]) rfl<| d8.mpr<| N0 rfl<| o9<| j9 rfl rfl<| (Mx hw (in_at hw k N (by lia)) z.ls (L7.raw g.ls) hl h).mono λx G' q=>t8 q
   · rename_i k ps q f
     refine J6 (X2:= [_,_]) rfl<| J6 (X2:= [_,_]) rfl<| J6 (X2:= [_,_]) rfl<| d8.mpr<| F0 rfl<| j0.mpr<| o9<| j9 rfl rfl<| (nT hw (in_at hw k N (by lia)) z.rs (S2.raw g.rs) hl h hq).mono λx G' q=>t8 q
theorem wH{l:List Str}(h:l.Pairwise nlt):l.Nodup:=XE (λ{a b} (h:nlt a b) (e:a=b)=>by subst e;exact AA _ h) h
theorem Tx.lx{z:Str}(h:Tx z):Lx z:=⟨cM h,zI h.2 (by decide)⟩
theorem LG(hl:ds.length<=w)(h:∀d∈ds,∃v,VD w k d v):∃v,VD w (k+1) (.tup [.str r6,.tup ds]) v:=
 ⟨_,.lst (f:=λi=>if hi:i<ds.length then (h ds[i] (jd hi)).choose else .num 0) hl λi d e=>by
  obtain⟨hi,rfl⟩:=zy.mp e
  simp only[dif_pos hi]
  exact(h ds[i] (jd hi)).choose_spec⟩
theorem TB{ps:List (Str×D)}(hl:ps.length<=w)(hn:(ps.map (·.1)).Pairwise nlt)(hx:∀p∈ps,Nm p.1)(h:∀p∈ps,∃v,VD w k p.2 v):∃v,VD w (k+1) (.tup [.str P4,.tup (ps.map pvD)]) v:=by
 have nd:(ps.map (·.1)).Nodup:=wH hn
 have hf:∀z,∃v,∀p∈ps,p.1=z->VD w k p.2 v:=λz=>by
  by_cases hz:∃p∈ps,p.1=z
  · obtain⟨p,hp,rfl⟩:=hz
    obtain⟨v,hv⟩:=h p hp
    refine⟨v,λp' hp' e=>?_⟩
    obtain⟨i,hi⟩:=zN.mp hp
    obtain⟨j,hj⟩:=zN.mp hp'
    have e1:(ps.map (·.1))[i]? =some p.1:=by rw[zB,hi];rfl
    have e2:(ps.map (·.1))[j]? =some p.1:=by rw[zB,hj];exact congrArg some e
    have:=(xy (zy.mp e1).1 nd).mp (e1.trans e2.symm)
    rw[this,hj]at hi
    cases hi
    exact hv
  ·exact⟨.num 0,λp hp e=>absurd ⟨p,hp,e⟩ hz⟩
 exact⟨_,.rcd (q:=λz=>decide (z∈ps.map (·.1))) (f:=λz=>(hf z).choose) hl hn hx (λp hp=>(hf p.1).choose_spec p hp rfl) λz=>by rw[decide_eq_true_eq]⟩
theorem p12:Wp (F6 (.int 10) (.int 12)) G Q↔Q (.int 1000000000000) G:=by
 rw[BH (by decide)];rfl
theorem r9{r:Nat}:∀n k G,k<n->Dr G r->Wp (AC n [.ref r,.int (k:Int)]) G λx G'=>(∃v,VD 400 k x v)/\Fd r G G'
 |0,k,G,hk,_=>by lia
 |n+1,k,G,hk,h=>by
   have bg:1000<=zg:=by decide
   refine J4 (show Wp (UC (AC n) [some (.ref r),some (.int (k:Int)),none,none]) G _ from ?_)
   unfold UC
   refine d8.mpr<| K6<| j9 rfl rfl<| W5 h λj G1 f1=>?_
   refine d8.mpr<| K6<| o4 rfl rfl<| (u5 (by decide)).mpr ?_
   generalize (j:Int) % 6=w
   refine d8.mpr<| Q0<| v9<| o4 rfl rfl<| O2.mpr ⟨_,rfl,λ_=>?_,λ_=>j0.mpr ?_⟩
   ·exact o9<| m8<| m8<| m8<| m8<| o4 rfl rfl<| (M3 ⟨by decide,by decide⟩).mpr<| d7 rfl<| (L5 (Or.inr ⟨by decide,by decide⟩)).mpr<| j9 rfl rfl<| W5 f1.2.2 λi G2 f2=>Z2.mpr<| m8<| m8<| d7 rfl<| o4 rfl rfl<| p12.mpr<| (L5 (Or.inl ⟨by decide,by decide⟩)).mpr<| d7 rfl<| Z2.mpr<| (u5 (by decide)).mpr<| o4 rfl rfl<| p12.mpr<| kA.mpr<| t8 ⟨⟨_,.num⟩,f1.trans f2⟩
   refine d8.mpr<| Q0<| v9<| o4 rfl rfl<| O2.mpr ⟨_,rfl,λ_=>?_,λ_=>j0.mpr ?_⟩
   · refine o9<| j9 rfl rfl<| (BM f1.2.2).mono ?_
     rintro _ G2 ⟨⟨z,rfl,hz⟩,f2⟩
     exact t8 ⟨⟨_,.txt hz.lx⟩,f1.trans f2⟩
   refine d8.mpr<| Q0<| v9<| o4 rfl rfl<| O2.mpr ⟨_,rfl,λ_=>?_,λ_=>j0.mpr ?_⟩
   ·exact o9<| m8<| m8<| o4 rfl rfl<| (M3 ⟨by decide,by decide⟩).mpr<| d7 rfl<| (u5 (by decide)).mpr<| d7 rfl<| O2.mpr<| t8 ⟨⟨_,.tru⟩,f1⟩
   have hint {P:Fl->DH->Prop} (q:∀i:Int,P (.rt (.int i)) G1):Wp (t6 (c7 Q1 (c7 K1 (c7 M4 (b8 2) (cE (.int 6))) (cE (.int 13))) (cE (.int 6))) [some (.ref r),some (.int (k:Int)),some (.int j),some (.int w)]) G1 P:=
    o9<| m8<| m8<| o4 rfl rfl<| (M3 ⟨by decide,by decide⟩).mpr<| d7 rfl<| (u5 (by decide)).mpr<| d7 rfl<| kA.mpr<| q _
   refine d8.mpr<| Q0<| B7<| v9<| o4 rfl rfl<| O2.mpr ⟨_,rfl,λ_=>⟨λ_=>hint λi=>t8 ⟨⟨_,.num⟩,f1⟩,λz=>absurd z (by decide)⟩,λ_=>v9<| o4 rfl rfl<| O2.mpr ⟨_,rfl,λ_=>hint λi=>t8 ⟨⟨_,.num⟩,f1⟩,λhz=>j0.mpr ?_⟩⟩
   have k0:¬(k:Int)=0:=of_decide_eq_false hz
   have ek:(k:Int)-1= ((k-1:Nat):Int):=by lia
   obtain⟨k',rfl⟩:∃k',k=k'+1:=⟨k-1,by lia⟩
   have rc (G2:DH) (h2:Dr G2 r) {Q:DPP} (q:∀x G3,(∃v,VD 400 k' x v)->Fd r G2 G3->Q x G3) (u:Option D):Wp (x0 (fnX 2 (AC n)) (d0 (b8 2) (d0 (c7 Q1 (b8 1) (cE (.int 1))) g0)) [u,some (.int ((k'+1:Nat):Int)),some (.ref r)]) G2 Q:=by
    refine M8<| K5 rfl<| m7<| o4 rfl rfl<| kA.mpr<| m5.mpr<| U8.mpr ⟨rfl,?_⟩
    rw[ek]
    exact(r9 n k' G2 (by lia) h2).mono λx G3 ⟨hv,f⟩=>q x G3 hv f
   refine d8.mpr<| Q0<| v9<| o4 rfl rfl<| O2.mpr ⟨_,rfl,λ_=>?_,λ_=>j0.mpr ?_⟩
   · refine o9<| N5.mpr<| K5 rfl<| m7<| M8<| m7<| wp_comp.mpr<| rng1.mpr<| m7<| j9 rfl rfl<| MG f1.2.2 λm hm G2 f2=>m5.mpr<| (rng1_int ⟨by lia,by lia⟩).mpr ?_
     have ln:(K3 0 (m:Int).toNat).length=m:=by unfold K3;rw[zc,jV];rfl
     refine⟨by show (K3 0 (m:Int).toNat).length<=_;rw[ln];lia,(l5 (Fd r G2) (λσ=>∃u,σ= [u,some (.int ((k'+1:Nat):Int)),some (.ref r)]) (λ_ y=>∃v,VD 400 k' y v) (λ_ _=>rfl) _ _ G2 ⟨_,rfl⟩ (Fd.refl f2.2.2) ?_).mono ?_⟩
     · rintro d hd _ G3 ⟨v,rfl⟩ jj
       exact O1.mpr ⟨rfl,⟨_,rfl⟩,rc G3 jj.2.2 (λx G4 hv f4=>⟨jj.trans f4,hv⟩) _⟩
     · rintro _ G3 ⟨f3,zs,e1,rfl,hz⟩
       have lz:(zs.map (·.2)).length=m:=by
        have:=congrArg xl e1
        rw[zc]at this
        rw[zc,this]
        exact ln
       exact m5.mpr<| (S5 j8).mpr<| m5.mpr ⟨sz,t8 ⟨LG (by lia) (λd hd=>by
        obtain⟨z,hzm,rfl⟩:=zG.mp hd
        exact hz z hzm),f1.trans (f2.trans (f3.trans (Fd.app f3.2.2)))⟩⟩
   · refine o9<| N5.mpr<| K5 rfl<| m7<| M8<| m7<| wp_comp.mpr<| wp_itW.mpr<| j9 rfl rfl<| (FO f1.2.2).mono ?_
     rintro _ G2 ⟨f2,p,ss,rfl,hp0,e2,sn,nx,hl⟩
     have hp:p≠r:=by have:=f1.2.2.lt;lia
     refine(iB e2).mpr ⟨by rw[zc];lia,(l5 (λG'=>Fd r G2 G') (λσ=>∃u,σ= [u,some (.int ((k'+1:Nat):Int)),some (.ref r)]) (λx y=>∃q:Str×D,y=pvD q/\x= .str q.1/\∃v,VD 400 k' q.2 v) (λG' jj=>P8 (jj.at hp e2)) _ _ G2 ⟨_,rfl⟩ (Fd.refl f2.2.2) ?_).mono ?_⟩
     · rintro d hd _ G3 ⟨v,rfl⟩ jj
       obtain⟨nm,_,rfl⟩:=zG.mp hd
       exact O1.mpr ⟨rfl,⟨_,rfl⟩,N5.mpr<| K5 rfl<| m7<| rc G3 jj.2.2 (λx G4 hv f4=>m5.mpr ⟨sz,jj.trans f4,(nm,x),rfl,rfl,hv⟩) _⟩
     · rintro _ G3 ⟨f3,zs,e1,rfl,hz⟩
       obtain⟨hs,e3,e4,e5⟩:=nB (β:=Str×D) (P:=λx q=>x= .str q.1/\∃v,VD 400 k' q.2 v) zs hz
       have lz:hs.length=ss.length:=by rw[e4,<-zc,e1,zc]
       have at_:∀(i:Nat) q,hs[i]? =some q->ss[i]? =some q.1/\∃v,VD 400 k' q.2 v:=λi q hq=>by
        have hi:i<ss.length:=by have:=(zy.mp hq).1;lia
        have hd:(zs.map (·.1))[i]? =some (.str ss[i]):=by rw[e1,zB,ze hi];rfl
        obtain⟨x1,x2⟩:=e5 i q _ hq hd
        exact⟨by rw[ze hi,D.str.inj x1],x2⟩
       have en:hs.map (·.1)=ss:=Zm λi=>by
        rw[zB]
        rcases hq:hs[i]? with _|q
        ·rw[zO (by have:=XX.mp hq;lia)];rfl
        ·rw[(at_ i q hq).1];rfl
       rw[e3]
       refine m5.mpr<| (S5 j8).mpr<| m5.mpr ⟨sz,t8 ⟨TB (by lia) (by rw[en];exact sn) (λq hq=>nx q.1 (en▸yj hq)) (λq hq=>?_),f1.trans (f2.trans (f3.trans (Fd.app f3.2.2)))⟩⟩
       obtain⟨i,hi⟩:=zN.mp hq
       exact(at_ i q hi).2
theorem sH(h0:0<=i)(h1:i<l.length)(q:∀d∈l,Q d G):Wp (ixD (.tup l) (.int i)) G Q:=by
 obtain⟨d,hd,e⟩:=vE h0 h1
 exact ix_tup.mpr ⟨d,e,q d hd⟩
theorem oD(e:G[p]? =some (.lst l))(h0:0<=i)(h1:i<l.length)(q:∀d∈l,Q d G):Wp (ixD (.ref p) (.int i)) G Q:=by
 obtain⟨d,hd,e2⟩:=vE h0 h1
 exact(E5 e).mpr ⟨d,e2,q d hd⟩
theorem D9(hl:l≠ []):0<=j % (l.length:Int)/\j % (l.length:Int)<l.length:=by
 have:(0:Int)<l.length:=by rcases l with _|_;exact absurd rfl hl;simp
 exact⟨jp _ (by lia),jn _ this⟩
theorem QF(hl:l≠ []):(0:Int)<l.length:=by rcases l with _|_;exact absurd rfl hl;simp
theorem sT(hc:Can ns)(hn:ns≠ []):Wp (OG [.tup (rsD ns),.int (j:Int)]) G λx G'=>Ap G G'/\∃i,x= .int i:=by
 have hn':rsD ns≠ []:=λh=>hn (Yl.mp h)
 refine J4 (show Wp (fG [some (.tup (rsD ns)),some (.int (j:Int)),none,none,none]) G _ from ?_)
 unfold fG
 refine d8.mpr<| Z7.mpr<| m8<| d7 rfl<| o4 rfl rfl<| (u5 (QF hn')).mpr<| sH (D9 hn').1 (D9 hn').2 λd hd=>?_
 obtain⟨⟨a,b⟩,hp,rfl⟩:=zG.mp hd
 refine d7 rfl ?_
 refine d8.mpr<| K6<| m8<| o4 rfl rfl<| (M3 ⟨by decide,by decide⟩).mpr<| d7 rfl<| (u5 (by decide)).mpr ?_
 generalize (j:Int) / 7 % 5=st
 rcases a with _|a<;>rcases b with _|b
 ·exact fK rfl (t8 ⟨Ap.refl,_,rfl⟩)
 ·exact J6 (X2:= [_,_,_,_,_]) rfl<| fK rfl (t8 ⟨Ap.refl,_,rfl⟩)
 ·exact J6 (X2:= [_,_,_,_,_]) rfl<| J6 (X2:= [_,_,_,_,_]) rfl<| fK rfl (t8 ⟨Ap.refl,_,rfl⟩)
 · have hab:=hc.1 _ hp a b rfl rfl
   refine J6 (X2:= [_,_,_,_,_]) rfl<| J6 (X2:= [_,_,_,_,_]) rfl<| J6 (X2:= [_,_,_,_,_]) rfl ?_
   refine o9<| m8<| W3.mpr<| K5 rfl<| K5 rfl<| m7<| m8<| d7 rfl<| m8<| o4 rfl rfl<| (M3 ⟨by decide,by decide⟩).mpr<| m8<| o4 rfl rfl<| kA.mpr<| d7 rfl<| Z2.mpr<| (u5 (by lia)).mpr<| Z2.mpr<| m5.mpr ⟨sz,?_⟩
   refine m8<| o4 rfl rfl<| (M3 ⟨by decide,by decide⟩).mpr<| d7 rfl<| (u5 (by decide)).mpr<| oD j8 (jp _ (by decide)) (jn _ (by decide)) λd hd=>t8 ⟨Ap.one,?_⟩
   simp only[zp,zS,or_false]at hd
   rcases hd with rfl|rfl|rfl<;>exact⟨_,rfl⟩
theorem Cf:T0 (tl ("q" :Str)):=by unfold T0;decide
theorem kL(hs:∀z∈ss,Tx z):∀fuel z,1002<=z.length+fuel->z.length<=1001->T0 (tl z)->Wp (W0 fuel (m6 (c7 inD (b8 2) (c7 ixD (b8 0) (cE (.int 1))))) (v8 (c7 O6 (b8 2) (cE (.str ("q" :Str)))) (y0 2)) [some (J2 b ss),a1,some (.str z)]) G λfl G'=>G'=G/\∃z',fl= .nx [some (J2 b ss),a1,some (.str z')]/\Lx z'
 |0,z,h1,h2,_=>by lia
 |fuel+1,z,h1,h2,h3=>by
   have bg:=big
   refine oN.mpr<| v9<| o4 rfl rfl<| SE.mpr ⟨_,OH,_,rfl,?_⟩
   by_cases hz:z∈ss
   · rw[decide_eq_true hz,if_pos rfl]
     have:=(hs z hz).2
     have hq:("q" :Str).length=1:=rfl
     have hl:(z++("q" :Str)).length=z.length+1:=by
      show (z.cps++("q" :Str).cps).size=_
      rw[Array.size_append];rfl
     refine K6<| o4 rfl rfl<| (vI (by rw[hq];lia)).mpr ?_
     exact kL hs fuel _ (by rw[hl];lia) (by rw[hl];lia) (λc hc=>by
      rw[cF]at hc
      rcases zJ.mp hc with hc|hc
      ·exact h3 c hc
      ·exact Cf c hc)
   · rw[decide_eq_false hz,if_neg (by decide)]
     exact⟨rfl,z,rfl,h3,by lia⟩
theorem kU(hs:∀z∈ss,Tx z)(hb:¬(b=true/\ss= [])):Wp (aH [J2 b ss,.int (j:Int)]) G λx G'=>Ap G G'/\∃z,x= .str z/\Lx z:=by
 refine J4 (show Wp (tG [some (J2 b ss),some (.int (j:Int)),none]) G _ from ?_)
 unfold tG
 rcases b with _|_
 · refine J6 (X2:= [some (J2 false ss),some (.int (j:Int)),none]) rfl<| d8.mpr<| K6<| m8<| W3.mpr<| d7 rfl ⟨sz,o4 rfl rfl<| (u5 (by decide)).mpr<| oD j8 (jp _ (by decide)) (jn _ (by decide)) λd hd=>?_⟩
   obtain⟨z,rfl,hz,hL⟩:∃z:Str,d= .str z/\z.length<=2/\T0 (tl z):=by
    simp only[zp,zS,or_false]at hd
    rcases hd with rfl|rfl|rfl|rfl|rfl|rfl<;>exact⟨_,rfl,by decide,by unfold T0;decide⟩
   refine d8.mpr<| wM<| (kL hs 1002 z (by lia) (by lia) hL).mono ?_
   rintro _ _ ⟨rfl,z',rfl,hx⟩
   exact o9<| d7 rfl (t8 ⟨Ap.one,_,rfl,hx⟩)
 · have hn:ss.map D.str≠ []:=λh=>hb ⟨rfl,Yl.mp h⟩
   refine d8.mpr<| N0 rfl<| o9<| m8<| d7 rfl<| o4 rfl rfl<| (u5 (QF hn)).mpr<| sH (D9 hn).1 (D9 hn).2 λd hd=>?_
   obtain⟨z,hz,rfl⟩:=zG.mp hd
   exact t8 ⟨Ap.refl,_,rfl,(hs z hz).lx⟩
theorem VD.mono(h:VD w k d v):∀ {k'},k<=k'->VD w k' d v:=by
 induction h with
 |num=>exact λ_=>.num
 |txt h=>exact λ_=>.txt h
 |tru=>exact λ_=>.tru
 |lst hl _ ih=>
   intro k' hk
   obtain⟨k'',rfl⟩:∃k'',k'=k''+1:=⟨k'-1,by lia⟩
   exact .lst hl λi d e=>ih i d e (by lia)
 |rcd hl hn hx _ hq ih=>
   intro k' hk
   obtain⟨k'',rfl⟩:∃k'',k'=k''+1:=⟨k'-1,by lia⟩
   exact .rcd hl hn hx (λp hp=>ih p hp (by lia)) hq
theorem VD.wide(h:VD w k d v)(hw:w<=w'):VD w' k d v:=by
 induction h with
 |num=>exact .num
 |txt h=>exact .txt h
 |tru=>exact .tru
 |lst hl _ ih=>exact .lst (zI hl hw) ih
 |rcd hl hn hx _ hq ih=>exact .rcd (zI hl hw) hn hx ih hq
def VI(n:Nat)(R:List D->M D):Prop:=∀(c:CS n) (G:DH) (r:Nat),Dr G r->Gd n c->SzC n 47 c->Wp (R [.ref r,enC n c]) G λx G'=>Fd r G G'/\((x= .non/\∀v,¬inC n c v)\/∃v,VD 400 (n+1) x v)
section
variable{n r:Nat}{R:List D->M D}{G:DH}
theorem VI.some(ih:VI n R)(h:Dr G r)(g:Gd n c)(z:SzC n 47 c)(hv:∃v,inC n c v)(q:∀x G',Fd r G G'->(∃v,VD 400 (n+1) x v)->Q x G'):Wp (R [.ref r,enC n c]) G Q:=
 (ih c G r h g z).mono λx G' ⟨f,hx⟩=>by
   rcases hx with⟨_,no⟩|hx
   ·exact absurd hv.choose_spec (no _)
   ·exact q x G' f hx
theorem wX(hn:n<=6)(ih:VI n R)(h:Dr G r)(g:L7 (inC n) (Gd n) (some (fs,m)))(z:lsZ n 47 (some (fs,m))):Wp (Z9 R [.ref r,lsD (enC n) (some (fs,m))]) G λx G'=>Fd r G G'/\∃v,VD 400 (n+2) x v:=by
 have bg:=big
 have g:=g fs m rfl
 have z:=z fs m rfl
 refine J4 (show Wp (gF R [some (.ref r),some (.tup [.tup (fs.map (enC n)),enC n m]),none]) G _ from ?_)
 unfold gF
 refine d8.mpr<| K6<| Q6 rfl (by rw[zc];lia)<| (l5 (Fd r G) (λσ=>∃u,σ= [u,some (.ref r)]) (λ_ y=>∃v,VD 400 (n+1) y v) (λ_ _=>rfl) _ _ G ⟨_,rfl⟩ (Fd.refl h) ?_).mono ?_
 · rintro d hd _ G1 ⟨u,rfl⟩ f1
   obtain⟨a,ha,rfl⟩:=zG.mp hd
   exact O1.mpr ⟨rfl,⟨_,rfl⟩,j9 rfl rfl<| ih.some f1.2.2 (g.2 a ha).1 (z.2.2 a ha) (g.2 a ha).2 λx G2 f2 hx=>⟨f1.trans f2,hx⟩⟩
 rintro _ G1 ⟨f1,zs,e1,rfl,hz⟩
 have l1:(zs.map (·.2)).length<=47:=by
  rw[zc,<-zc,e1,zc];exact z.1
 have h1:∀d∈zs.map (·.2),∃v,VD 400 (n+1) d v:=λd hd=>by
  obtain⟨x,hx,rfl⟩:=zG.mp hd
  exact hz x hx
 generalize zs.map (·.2)=ys at l1 h1
 have f2:Fd r G (G1++[.lst ys]):=f1.trans (Fd.app f1.2.2)
 have hp:G1.length≠r:=by have:=f1.2.2.lt;lia
 have e2:(G1++[.lst ys])[G1.length]? =some (.lst ys):=j8
 generalize G1.length=p at hp e2
 generalize G1++[DO.lst ys]=G2 at f2 e2
 have last:∀(p':Nat) (ws:List D) (G3:DH),Fd r G G3->G3[p']? =some (.lst ws)->ws.length<=400->(∀d∈ws,∃v,VD 400 (n+1) d v)->Wp (t6 (J9 (d0 (cE (.str ("list" :Str))) (d0 (x0 T8 (d0 (b8 2) g0)) g0))) [some (.ref r),some (.tup [.tup (fs.map (enC n)),enC n m]),some (.ref p')]) G3 (DL.PB λx G'=>Fd r G G'/\∃v,VD 400 (n+2) x v):=λp' ws G3 f e hl hw=>
  o9<| N5.mpr<| K5 rfl<| m7<| y3 rfl<| (S5 e).mpr<| m5.mpr ⟨sz,t8 ⟨f,LG hl hw⟩⟩
 obtain⟨b,eb,hb⟩:=OB (by lia) G2 m g.1
 refine d8.mpr<| Q0<| v9<| o4 rfl rfl<| t4.mpr ⟨b,eb,_,rfl,λhm=>?_,λ_=>j0.mpr (last p ys G2 f2 e2 (by lia) h1)⟩
 have hm:∃v,inC n m v:=je λno=>by
  rw[hb.mpr λv hv=>no ⟨v,hv⟩]at hm;cases hm
 refine K6<| m8<| d7 rfl<| wp_comp.mpr<| rng1.mpr<| m7<| m8<| j9 rfl rfl<| W5 f2.2.2 λk G3 f3=>d7 rfl<| (u5 (by decide)).mpr<| m5.mpr<| (rng1_int ⟨by lia,by lia⟩).mpr ?_
 have hk0:0<=(k:Int) % 3:=jp _ (by decide)
 have hk3:(k:Int) % 3<3:=jn _ (by decide)
 have ln:(K3 0 ((k:Int) % 3).toNat).length<=3:=by unfold K3;rw[zc,jV];lia
 refine⟨by dsimp only;lia,(l5 (Fd r G3) (λσ=>∃u,σ= [u,some (.tup [.tup (fs.map (enC n)),enC n m]),some (.ref r)]) (λ_ y=>∃v,VD 400 (n+1) y v) (λ_ _=>rfl) _ _ G3 ⟨_,rfl⟩ (Fd.refl f3.2.2) ?_).mono ?_⟩
 · rintro d hd _ G4 ⟨u,rfl⟩ f4
   exact O1.mpr ⟨rfl,⟨_,rfl⟩,j9 rfl rfl<| ih.some f4.2.2 g.1 z.2.1 hm λx G5 f5 hx=>⟨f4.trans f5,hx⟩⟩
 rintro _ G4 ⟨f4,zs,e3,rfl,hz⟩
 have l2:(zs.map (·.2)).length<=3:=by
  rw[zc,<-zc,e3];exact ln
 have f5:Fd r G2 (G4++[.lst (zs.map (·.2))]):=f3.trans (f4.trans (Fd.app f4.2.2))
 refine(HC (f5.at hp e2) j8 (by lia)).mpr ?_
 refine last _ (ys++zs.map (·.2)) _ (f2.trans (f5.trans (Fd.app f5.2.2))) j8 (by rw[zA];lia) λd hd=>?_
 rcases zJ.mp hd with hd|hd
 ·exact h1 d hd
 · obtain⟨x,hx,rfl⟩:=zG.mp hd
   exact hz x hx
end
def B0(ps:List (Str×D)):List (Key×D):=ps.map λp=>(.inr p.1,p.2)
def eC(ps:List (Str×D)):List D:=ps.map λp=>.tup [.str p.1,p.2]
theorem pP:∀ps,E9 (B0 ps)=some ps
 |[]=>rfl
 |(x,d)::r=>by
  show (E9 (B0 r)).map ((x,d) :: ·)=_
  rw[pP r];rfl
theorem SO:∀ps,nA (eC ps)=some (B0 ps)
 |[]=>rfl
 |(x,d)::r=>by
  show (match pC (.tup [.str x,d]),nA (eC r) with|some a,some b=>some (a::b)|_,_=>none)=_
  rw[SO r];rfl
theorem tN:∀(ps qs:List (Str×D)),((qs++ps).map (·.1)).Nodup->putAll (B0 qs) (B0 ps)=B0 (qs++ps)
 |[],qs,_=>by simp[DL.putAll,B0]
 |(x,d)::r,qs,nd=>by
  have e:F5 (B0 qs) (.inr x) d=B0 (qs++[(x,d)]):=by
   unfold F5
   rw[if_neg]
   ·simp[B0]
   · intro h
     obtain⟨kv,h1,h2⟩:=YX.mp h
     obtain⟨q,hq,rfl⟩:=zG.mp h1
     have h2:q.1=x:=by simpa using h2
     rw[jG,YH]at nd
     exact nd.2.2 q.1 (yj hq) x (by simp) h2
  show putAll (F5 (B0 qs) (.inr x) d) (B0 r)=_
  rw[e,tN r (qs++[(x,d)]) (by simpa using nd)]
  simp
theorem lW{ps:List (Str×D)}(h:(ps.map (·.1)).Pairwise (λa b=>ltX a b=true)):vB ps=eC ps:=by
 have e:ps.mergeSort leP=ps:=List.mergeSort_of_pairwise (by
  rw[yf]at h
  refine h.imp λ{a b} h=>?_
  unfold leP
  rw[F9]
  simp only[ltX,decide_eq_true_eq]at h
  exact List.le_of_lt h)
 unfold vB
 rw[e]
 rfl
theorem kW(e:G[p]? =some (.dct (B0 ps)))(h64:ps.length<64)(h:(ps.map (·.1)).Pairwise (λa b=>ltX a b=true))(q:Q (.ref G.length) (G++[.lst (eC ps)])):Wp (vA (.ref p)) G Q:=by
 unfold vA
 refine j5.mpr<| O5.mpr ⟨_,e,?_⟩
 dsimp only
 refine j5.mpr<| L4.mpr ⟨ps,pP ps,?_⟩
 rw[if_pos h64,lW h]
 exact R3.mpr q
theorem HY(e:G[p]? =some (.dct (B0 ps)))(h64:ps.length<64)(h:(ps.map (·.1)).Pairwise (λa b=>ltX a b=true)):Wp (MF [.ref p]) G λx G'=>x= .tup [.str "record",.tup (eC ps)]/\Ap G G':=by
 refine J4 (show Wp (KF [some (.ref p)]) G _ from ?_)
 unfold KF
 refine o9<| N5.mpr<| K5 (x:=.str "record") (G1:=G) rfl<| m7<| M8<| m7 ?_
 show Wp (b8 0 [some (.ref p)] >>= vA) G _
 exact j5.mpr<| d7 (a:=D.ref p) (G':=G) rfl<| kW e h64 h<| m5.mpr<| (S5 j8).mpr<| m5.mpr ⟨show 2<=zg by decide,t8 ⟨rfl,Ap.one⟩⟩
theorem vQ:∀ps:List (Str×D),U5 (B0 ps)=some (ps.map (·.1))
 |[]=>rfl
 |(x,d)::r=>by
  show (U5 (B0 r)).map (x :: ·)=_
  rw[vQ r];rfl
theorem oQ:∀ {ps} {z},z∈ps.map (·.1)->∃d,u3 (B0 ps) (.inr z)=some d/\(z,d)∈ps
 |[],z,h=>nomatch h
 |(y,d)::r,z,h=>by
  by_cases e:y=z
  ·subst e;exact⟨d,by simp[u3,B0],zt ..⟩
  · obtain⟨d',h1,h2⟩:=oQ (by
     rcases zp.mp h with h|h
     ·exact absurd h.symm e
     ·exact h)
    refine⟨d',?_,zn _ h2⟩
    show (List.find? _ ((Sum.inr y,d)::B0 r)).map _=_
    rw[List.find?_cons_of_neg (by simpa using e)];exact h1
theorem mX(h:z∉ps.map (·.1)):F5 (B0 ps) (.inr z) d=B0 (ps++[(z,d)]):=by
 unfold F5
 rw[if_neg]
 ·simp[B0]
 · intro k
   obtain⟨kv,h1,h2⟩:=YX.mp k
   obtain⟨q,hq,rfl⟩:=zG.mp h1
   exact h (zG.mpr ⟨q,hq,by simpa using h2⟩)
structure PsI(n p:Nat)(ps:List (Str×D))(G:DH):Prop where
 e:G[p]? =some (.dct (B0 ps))
 nd:(ps.map (·.1)).Nodup
 v:∀q∈ps,Nm q.1/\∃v,VD 400 (n+1) q.2 v
section
variable{n r p:Nat}{R:List D->M D}{G:DH}
theorem NR(f:Fd r G0 G)(I:PsI n p ps G)(hl:ps.length<=60):Wp (RL [some (.ref r),some A,some (.ref p),WR,σ4]) G (DL.PB λx G'=>Fd r G0 G'/\∃v,VD 400 (n+2) x v):=by
 have bg:=big
 refine o9<| N5.mpr<| K5 rfl<| m7<| M8<| m7<| wp_comp.mpr<| wp_itW.mpr<| y3 rfl<| (Bh I.e (vQ ps) (by rw[zc];lia)).mpr ?_
 have pm:(V6 (ps.map (·.1))).Perm (ps.map (·.1)):=jC _ leS
 have ls:(V6 (ps.map (·.1))).length=ps.length:=by rw[pm.length_eq,zc]
 have e1:(G++[.lst ((V6 (ps.map (·.1))).map D.str)])[p]? =some (.dct (B0 ps)):=V0 I.e
 have e2:(G++[DO.lst ((V6 (ps.map (·.1))).map D.str)])[G.length]? =some (.lst ((V6 (ps.map (·.1))).map D.str)):=j8
 have f1:Fd r G0 (G++[.lst ((V6 (ps.map (·.1))).map D.str)]):=f.trans (Fd.app f.2.2)
 generalize G++[DO.lst ((V6 (ps.map (·.1))).map D.str)]=G1 at e1 e2 f1
 refine(iB e2).mpr ⟨by rw[zc];lia,(l5 (λG'=>G'=G1) (λσ=>∃u,σ= [u,some (.ref p)]) (λx y=>∃q:Str×D,y=pvD q/\x= .str q.1/\q∈ps) (λG' jj=>by rw[jj];exact P8 e2) _ _ G1 ⟨_,rfl⟩ rfl ?_).mono ?_⟩
 · rintro d hd _ _ ⟨u,rfl⟩ rfl
   obtain⟨z,hz,rfl⟩:=zG.mp hd
   obtain⟨d',h1,h2⟩:=oQ (pm.mem_iff.mp hz)
   exact O1.mpr ⟨rfl,⟨_,rfl⟩,N5.mpr<| K5 rfl<| m7<| o4 rfl rfl<| (Md e1 h1).mpr<| m5.mpr ⟨sz,rfl,(z,d'),rfl,rfl,h2⟩⟩
 · rintro _ _ ⟨rfl,zs,e3,rfl,hz⟩
   obtain⟨hs,e4,e5,e6⟩:=nB (β:=Str×D) (P:=λx q=>x= .str q.1/\q∈ps) zs hz
   have lz:hs.length=ps.length:=by rw[e5,<-zc,e3,zc,ls]
   have at_:∀(i:Nat) q,hs[i]? =some q->(V6 (ps.map (·.1)))[i]? =some q.1/\q∈ps:=λi q hq=>by
    have hi:i<(V6 (ps.map (·.1))).length:=by have:=(zy.mp hq).1;lia
    have hd:(zs.map (·.1))[i]? =some (.str (V6 (ps.map (·.1)))[i]):=by rw[e3,zB,ze hi];rfl
    obtain⟨x1,x2⟩:=e6 i q _ hq hd
    exact⟨by rw[ze hi,D.str.inj x1],x2⟩
   have en:hs.map (·.1)=V6 (ps.map (·.1)):=Zm λi=>by
    rw[zB]
    rcases hq:hs[i]? with _|q
    ·rw[zO (by have:=XX.mp hq;lia)];rfl
    ·rw[(at_ i q hq).1];rfl
   have hin:∀q∈hs,q∈ps:=λq hq=>by
    obtain⟨i,hi⟩:=zN.mp hq
    exact(at_ i q hi).2
   rw[e4]
   exact m5.mpr<| (S5 j8).mpr<| m5.mpr ⟨sz,t8 ⟨f1.trans (Fd.app f1.2.2),TB (by lia) (by rw[en];exact QM I.nd) (λq hq=>(I.v q (hin q hq)).1) (λq hq=>(I.v q (hin q hq)).2)⟩⟩
theorem PsI.put(I:PsI n p ps G)(hz:z∉ps.map (·.1))(nm:Nm z)(hv:∃v,VD 400 (n+1) d v)(e:G[p]? =some (.dct (B0 ps))):PsI n p (ps++[(z,d)]) (G.set p (.dct (F5 (B0 ps) (.inr z) d))):=
 ⟨by rw[zX (lt_of_get e),mX hz],by
  rw[jG,YH]
  refine⟨I.nd,by simp,λa ha b hb e=>hz ?_⟩
  have e2:b=z:=zk.mp hb
  rw[<-e2,<-e];exact ha,λq hq=>by
  rcases zJ.mp hq with hq|hq
  ·exact I.v q hq
  ·rw[zk.mp hq];exact⟨nm,hv⟩⟩
theorem PsI.fd(I:PsI n p ps G)(f:Fd r G G')(hp:p≠r):PsI n p ps G':=⟨f.at hp I.e,I.nd,I.v⟩
theorem PU(hn:n<=6)(ih:VI n R)(hp:p≠r)(h:Dr G r)(I:PsI n p ps G)(hl:ps.length<=100)(g:Gd n e.2.2)(z:SzC n 47 e.2.2)(nm:Nm e.1)(must:e.2.1=true->∃v,inC n e.2.2 v)(new:e.1∉ps.map (·.1)):Wp (RF R [some (.ref r),some A,some (.ref p),WR,some (fdE (enC n) e)]) G λfl G'=>fl= .nx [some (.ref r),some A,some (.ref p),WR,some (fdE (enC n) e)]/\Fd2 r p G G'/\∃ps',PsI n p ps' G'/\ps'.length<=ps.length+1/\∀q∈ps',q.1∈ps.map (·.1)\/q.1=e.1:=by
 have bg:=big
 obtain⟨y,b,c⟩:=e
 have go:∀G1,Fd r G G1->(∃v,inC n c v)->Wp (v8 (x0 (fnX 2 R) (d0 (b8 0) (d0 (c7 ixD (b8 4) (cE (.int 2))) g0))) (F1 (b8 2) (c7 ixD (b8 4) (cE (.int 0)))) [some (.ref r),some A,some (.ref p),WR,some (fdE (enC n) (y,b,c))]) G1 λfl G'=>fl= .nx [some (.ref r),some A,some (.ref p),WR,some (fdE (enC n) (y,b,c))]/\Fd2 r p G G'/\∃ps',PsI n p ps' G'/\ps'.length<=ps.length+1/\∀q∈ps',q.1∈ps.map (·.1)\/q.1=y:=λG1 f1 hv=>by
  refine Z7.mpr<| j9 rfl rfl<| ih.some f1.2.2 g z hv λx G2 f2 hx=>?_
  have I2:=I.fd (f1.trans f2) hp
  refine NG.mpr<| d7 rfl<| d7 rfl<| (sL I2.e (by unfold B0;rw[zc];lia)).mpr ⟨rfl,?_,_,I2.put new nm hx I2.e,by simp,λq hq=>?_⟩
  ·exact(f1.trans f2).two.trans (Fd2.set hp f2.2.2)
  · rcases zJ.mp hq with hq|hq
    ·exact .inl (yj hq)
    ·rw[zk.mp hq];exact .inr rfl
 have no:∀G1,Fd r G G1->Wp (m9 [some (.ref r),some A,some (.ref p),WR,some (fdE (enC n) (y,b,c))]) G1 λfl G'=>fl= .nx [some (.ref r),some A,some (.ref p),WR,some (fdE (enC n) (y,b,c))]/\Fd2 r p G G'/\∃ps',PsI n p ps' G'/\ps'.length<=ps.length+1/\∀q∈ps',q.1∈ps.map (·.1)\/q.1=y:=λG1 f1=>j0.mpr ⟨rfl,f1.two,ps,I.fd f1 hp,by lia,λq hq=>.inl (yj hq)⟩
 unfold RF
 refine Q0<| B7<| d7 rfl ?_
 rcases b with _|_
 · refine⟨λz=>(nomatch z),λ_=>?_⟩
   obtain⟨t,et,ht⟩:=OB (by lia) G c g
   refine D7<| v9<| o4 rfl rfl<| t4.mpr ⟨t,et,_,rfl,λhm=>?_,λ_=>⟨λz=>(nomatch z),λ_=>no G (Fd.refl h)⟩⟩
   have hm:∃v,inC n c v:=je λno=>by
    rw[ht.mpr λv hv=>no ⟨v,hv⟩]at hm;cases hm
   exact v9<| m8<| m8<| j9 rfl rfl<| W5 h λj G1 f1=>d7 rfl<| (u5 (by decide)).mpr<| d7 rfl<| O2.mpr ⟨_,rfl,λ_=>go G1 f1 hm,λ_=>no G1 f1⟩
 ·exact⟨λ_=>⟨λ_=>go G (Fd.refl h) (must rfl),λz=>(nomatch z)⟩,λz=>(nomatch z)⟩
theorem SQ(hn:n<=6)(ih:VI n R)(hp:p≠r):∀(fs:List (Str×Bool×CS n)) ps u G,Dr G r->PsI n p ps G->ps.length+fs.length<=100->(fs.map (·.1)).Nodup->(∀e∈fs,Gd n e.2.2/\SzC n 47 e.2.2/\Nm e.1/\(e.2.1=true->∃v,inC n e.2.2 v)/\e.1∉ps.map (·.1))->
 Wp (H0 (y0 4) (RF R) (λ_=>true) (fs.map (fdE (enC n))) [some (.ref r),some A,some (.ref p),WR,u]) G λfl G'=>(∃u,fl= .nx [some (.ref r),some A,some (.ref p),WR,u])/\Fd2 r p G G'/\∃ps',PsI n p ps' G'/\ps'.length<=ps.length+fs.length/\∀q∈ps',q.1∈ps.map (·.1)\/q.1∈fs.map (·.1)
 |[],ps,u,G,h,I,hl,_,_=>E7.mpr ⟨rfl,⟨u,rfl⟩,(Fd.refl h).two,ps,I,by simp,λq hq=>.inl (yj hq)⟩
 |e::fs,ps,u,G,h,I,hl,nd,hf=>by
   rw[zM]at hl
   obtain⟨g,z,nm,must,new⟩:=hf e (zt ..)
   rw[zL,xj]at nd
   refine P7.mpr ⟨rfl,O1.mpr<| (PU hn ih hp h I (by lia) g z nm must new).mono ?_⟩
   rintro _ G1 ⟨rfl,f1,ps1,I1,l1,s1⟩
   refine(SQ hn ih hp fs ps1 _ G1 f1.2.2 I1 (by lia) nd.2 λx hx=>?_).mono ?_
   · obtain⟨a1,a2,a3,a4,a5⟩:=hf x (zn _ hx)
     refine⟨a1,a2,a3,a4,λhm=>?_⟩
     obtain⟨q,hq,e1⟩:=zG.mp hm
     rcases s1 q hq with k|k
     ·rw[e1]at k;exact a5 k
     ·exact nd.1 (by rw[<-k,e1];exact yj hx)
   · rintro _ G2 ⟨hu,f2,ps2,I2,l2,s2⟩
     refine⟨hu,f1.trans f2,ps2,I2,by rw[zM];lia,λq hq=>?_⟩
     rcases s2 q hq with k|k
     · obtain⟨q',hq',e1⟩:=zG.mp k
       rcases s1 q' hq' with k|k
       ·exact .inl (e1▸k)
       ·exact .inr (by rw[<-e1,k];exact zt ..)
     ·exact .inr (zn _ k)
end
theorem SN:∀(fs:List (Str×Bool×CS n)) u G,M9 (y0 0) O7 (c7 ixD (b8 0) (cE (.int 0))) (λ_=>true) (fs.map (fdE (enC n))) [u] G=some (.ok ((fs.map (·.1)).map D.str),G)
 |[],u,G=>R8 (W8.mpr ⟨rfl,rfl,rfl⟩)
 |p::r,u,G=>R8 (X3.mpr ⟨rfl,d7 rfl<| d7 rfl<| by rw[if_pos rfl];exact d7 rfl<| d7 (SN r _ G) ⟨rfl,rfl⟩⟩)
theorem Tk:∀z∈(["q", "a", "ba", "z"]:List Str),Nm z:=by
 intro z hz
 simp only[zp,zS,or_false]at hz
 rcases hz with rfl|rfl|rfl|rfl<;>exact⟨⟨by decide,by decide⟩,by decide⟩
theorem TM{fs:List (Str×Bool×α)}(h:Nms fs):(fs.map (·.1)).Nodup:=wH (yf.mpr h)
section
variable{n r:Nat}{R:List D->M D}{G:DH}
theorem Mj(hn:n<=6)(ih:VI n R)(h:Dr G r){fs:List (Str×Bool×CS n)}(g:S2 (inC n) (Gd n) (some (fs,m)))(z:rsZ n 47 (some (fs,m))):Wp (U9 R [.ref r,.tup [.tup (fs.map (fdE (enC n))),enC n m]]) G λx G'=>Fd r G G'/\∃v,VD 400 (n+2) x v:=by
 have bg:=big
 have g:=g fs m rfl
 have z:=z fs m rfl
 generalize hA:D.tup [.tup (fs.map (fdE (enC n))),enC n m]=A
 refine J4 (show Wp (SG R [some (.ref r),some A,none,none,none]) G _ from ?_)
 unfold SG
 refine J6 (X2:= [some (.ref r),some A,some (.ref G.length),none,none]) rfl ?_
 have f0:Fd r G (G++[.dct []]):=Fd.app h
 have f1:Fd r G (G++[.dct []]++[.lst ((["q", "a", "ba", "z"]:List Str).map D.str)]):=f0.trans (Fd.app f0.2.2)
 have hp:G.length≠r:=by have:=h.lt;lia
 have e1:(G++[DO.dct []]++[DO.lst ((["q", "a", "ba", "z"]:List Str).map D.str)])[G.length]? =some (.dct (B0 [])):=V0 j8
 have eL:(G++[DO.dct []]++[DO.lst ((["q", "a", "ba", "z"]:List Str).map D.str)])[(G++[DO.dct []]).length]? =some (.lst ((["q", "a", "ba", "z"]:List Str).map D.str)):=j8
 have hL:(G++[DO.dct []]).length≠r:=by have:=f0.2.2.lt;lia
 refine d8.mpr<| K6<| m8<| W3.mpr<| d7 rfl ⟨sz,?_⟩
 refine m8<| j9 rfl rfl<| W5 f1.2.2 λk G2 f2=>d7 rfl<| (u5 (by decide)).mpr<| oD (f2.at hL eL) (jp _ (by decide)) (jn _ (by decide)) λd hd=>?_
 obtain⟨w,hw,rfl⟩:=zG.mp hd
 have nw:=Tk w hw
 have I2:PsI n G.length [] G2:=⟨f2.at hp e1,.nil,λ_ h=>nomatch h⟩
 have f2:=f1.trans f2
 have nd:=TM g.2.1
 refine d8.mpr<| A7.mpr<| wp_itW.mpr<| d7 (by rw[<-hA];rfl)<| srcW_tup.mpr<| (SQ hn ih hp fs [] none G2 f2.2.2 I2 (by have:=z.1;simp;lia) nd λe he=>⟨(g.2.2 e he).1,(z.2.2 e he).1,(z.2.2 e he).2,(g.2.2 e he).2.1,λh=>nomatch h⟩).mono ?_
 rintro _ G3 ⟨⟨u,rfl⟩,f3,ps,I3,l3,s3⟩
 have f3:=f2.thru f3 (zo _)
 have l3:ps.length<=47:=by have:=z.1;simp at l3;lia
 have s3:∀q∈ps,q.1∈fs.map (·.1):=λq hq=>(s3 q hq).elim (λh=>nomatch h) id
 have done:∀G4 ps',Fd r G G4->PsI n G.length ps' G4->ps'.length<=60->Wp (RL [some (.ref r),some A,some (.ref G.length),some (.str w),u]) G4 (DL.PB λx G'=>Fd r G G'/\∃v,VD 400 (n+2) x v):=λG4 ps' f I l=>NR f I l
 obtain⟨b,eb,hb⟩:=OB (by lia) G3 m g.1
 refine d8.mpr<| Q0<| D7<| v9<| o4 (by rw[<-hA];rfl) rfl<| t4.mpr ⟨b,eb,_,rfl,λhm=>?_,λ_=>⟨λz=>(nomatch z),λ_=>j0.mpr (done G3 ps f3 I3 (by lia))⟩⟩
 have hm:∃v,inC n m v:=je λno=>by
  rw[hb.mpr λv hv=>no ⟨v,hv⟩]at hm;cases hm
 refine D7<| v9<| m8<| m8<| j9 rfl rfl<| W5 f3.2.2 λj G4 f4=>d7 rfl<| (u5 (by decide)).mpr<| d7 rfl<| O2.mpr ⟨_,rfl,λ_=>?_,λ_=>⟨λz=>(nomatch z),λ_=>j0.mpr (done G4 ps (f3.trans f4) (I3.fd f4 hp) (by lia))⟩⟩
 have I4:=I3.fd f4 hp
 have f4:=f3.trans f4
 refine v9<| m8<| d7 rfl<| Q6 (by rw[<-hA];rfl) (by have:=z.1;rw[zc];lia)<| d7 (SN fs none G4)<| KL.mpr ⟨_,lI j8,_,rfl,λhw=>?_,λ_=>j0.mpr (done _ ps (f4.trans (Fd.app f4.2.2)) (I4.fd (Fd.app f4.2.2) hp) (by lia))⟩
 have hw:w∉fs.map (·.1):=λk=>by rw[decide_eq_true k]at hw;cases hw
 have f5:Fd r G (G4++[.lst ((fs.map (·.1)).map D.str)]):=f4.trans (Fd.app f4.2.2)
 have I5:PsI n G.length ps (G4++[.lst ((fs.map (·.1)).map D.str)]):=I4.fd (Fd.app f4.2.2) hp
 refine Z7.mpr<| j9 (by rw[<-hA];rfl) rfl<| ih.some f5.2.2 g.1 z.2.1 hm λx G6 f6 hx=>?_
 have I6:=I5.fd f6 hp
 refine NG.mpr<| d7 rfl<| d7 rfl<| (sL I6.e (by unfold B0;rw[zc];lia)).mpr ?_
 refine done _ _ (Fd.put (f5.trans f6) (zo _) hp) (I6.put (λk=>?_) nw hx I6.e) (by simp;lia)
 obtain⟨q,hq,e⟩:=zG.mp k
 exact hw (e▸s3 q hq)
end
section
variable{n:Nat}{G:DH}{s:Pt (CS n)}
def noP(s:Pt (CS n)):Nat->Prop
 |0=>s.ns= []
 |1=>s.b=true/\s.ss= []
 |2=>s.bs= []
 |3=>s.ls=none
 |_=>s.rs=none
theorem QO(hn:n<=6)(k:Nat)(hk:k<5):∃x y,(fiv (enC n) s)[k]? =some x/\(fiv (enC n) (E2 (CS n)))[k]? =some y/\Z1 40 G x y (noP s k):=by
 have ta:aB (enC n) (4*n):=TC n
 match k,hk with
 |0,_=>exact⟨_,_,rfl,rfl,(Z1.tup (V8.map fP s.ns [])).iff Iff.rfl⟩
 |1,_=>exact⟨_,_,rfl,rfl,EK s.b true s.ss []⟩
 |2,_=>exact⟨_,_,rfl,rfl,(Z1.tup (V8.map cJ s.bs [])).iff Iff.rfl⟩
 |3,_=>exact⟨_,_,rfl,rfl,by
    have:=FN ta (35-4*n) G s.ls none
    rwa [show 35-4*n+(4*n+5)=40 by lia]at this⟩
 |4,_=>exact⟨_,_,rfl,rfl,by
    have:=EQ ta (34-4*n) G s.rs none
    rwa [show 34-4*n+(4*n+6)=40 by lia]at this⟩
def wyB(G:DH)(s:Pt (CS n)):D->Bool
 | .int i=> !(eqN 40 G ((atI (fiv (enC n) s) i).getD .non) ((atI (fiv (enC n) (E2 (CS n))) i).getD .non)).getD false
 |_=>false
theorem Bz(hn:n<=6):M9 (y0 0) (m6 (c7 neD (c7 ixD (b8 2) (b8 0)) (c7 ixD (b8 1) (b8 0)))) (b8 0) (λ_=>true) (K3 0 (5:Int).toNat) (T1 [none,some 2,some 1] [a0,some (.tup (fiv (enC n) s)),some (.tup (fiv (enC n) (E2 (CS n)))),a3,a4,a5]) G=some (.ok ((K3 0 (5:Int).toNat).filter (wyB G s)),G):=by
 refine GG rfl (λσ=>∃u,σ= [u,some (.tup (fiv (enC n) (E2 (CS n)))),some (.tup (fiv (enC n) s))]) _ _ ⟨_,rfl⟩ λd hd σ WK=>?_
 obtain⟨k,hk,rfl⟩:=zG.mp hd
 obtain⟨u,rfl⟩:=WK
 rw[YO]
 obtain⟨x,y,e1,e2,b,e3,_⟩:=QO hn k (xw.mp hk)
 refine⟨[some (.int (k:Int)),_,_],rfl,⟨_,rfl⟩,R8 ?_,rfl⟩
 refine v9<| m8<| o4 rfl rfl<| ix_tup.mpr ⟨x,atI_nat e1,?_⟩
 refine o4 rfl rfl<| ix_tup.mpr ⟨y,atI_nat e2,t4.mpr ⟨b,e3,_,rfl,?_,rfl⟩⟩
 show (!b)= !(eqN 40 G ((atI (fiv (enC n) s) (k:Int)).getD .non) ((atI (fiv (enC n) (E2 (CS n))) (k:Int)).getD .non)).getD false
 rw[atI_nat e1,atI_nat e2]
 show (!b)= !(eqN 40 G x y).getD false
 rw[e3];rfl
theorem QY(hn:n<=6):d∈(K3 0 (5:Int).toNat).filter (wyB G s)↔∃k:Nat,k<5/\d= .int (k:Int)/\¬noP s k:=by
 have one:∀k:Nat,k<5->(wyB G s (.int (k:Int))=true↔¬noP s k):=λk hk=>by
  obtain⟨x,y,e1,e2,b,e3,hb⟩:=QO hn k hk
  show (!(eqN 40 G ((atI (fiv (enC n) s) (k:Int)).getD .non) ((atI (fiv (enC n) (E2 (CS n))) (k:Int)).getD .non)).getD false)=true↔_
  rw[atI_nat e1,atI_nat e2]
  show (!(eqN 40 G x y).getD false)=true↔_
  rw[e3,<-hb]
  cases b<;>simp
 rw[jN]
 constructor
 · rintro⟨h1,h2⟩
   obtain⟨k,hk,rfl⟩:=zG.mp h1
   have hk:k<5:=xw.mp hk
   rw[YO]at h2 ⊢
   exact⟨k,hk,rfl,(one k hk).mp h2⟩
 · rintro⟨k,hk,rfl,h⟩
   exact⟨zG.mpr ⟨k,xw.mpr hk,by rw[YO]⟩,(one k hk).mpr h⟩
theorem SV(h:∀k,k<5->noP s k)(v:NV):¬x9 (inC n) s v:=by
 have h0:s.ns= []:=h 0 (by decide)
 have h1:s.b=true/\s.ss= []:=h 1 (by decide)
 have h2:s.bs= []:=h 2 (by decide)
 have h3:s.ls=none:=h 3 (by decide)
 have h4:s.rs=none:=h 4 (by decide)
 have:s=E2 (CS n):=by
  obtain⟨ns,b,ss,bs,ls,rs⟩:=s
  cases h0;cases h1.1;cases h1.2;cases h2;cases h3;cases h4;rfl
 rw[this]
 exact CD v
end
theorem oR(e:G[p]? =some (.lst l))(h:l.length<=zg)(q:Q (.int (l.length:Int)) G):Wp (V9 [.ref p]) G Q:=(NF e).mpr q
theorem IP:∀n N,n<N->n<=6->VI n (Q4 N)
 |n,N+1,hN,hn=>λc G r h g z=>by
   have bg:=big
   have any:Wp (Q4 (N+1) [.ref r,.str B3]) G λx G'=>Fd r G G'/\((x= .non/\∀v,¬inC n c v)\/∃v,VD 400 (n+1) x v):=by
    refine J4 (show Wp (Q5 (Q4 N) [some (.ref r),some (.str B3),none,none,none,none]) G _ from ?_)
    unfold Q5
    exact d8.mpr<| N0 rfl<| o9<| j9 rfl rfl<| (r9 60 1 G (by decide) h).mono λx G' ⟨⟨v,hv⟩,f⟩=>t8 ⟨f,.inr ⟨v,hv.mono (by lia)⟩⟩
   rcases n with _|n
   ·exact any
   rcases c with _|s
   ·exact any
   clear any
   have ih:=IP n N (by lia) (by lia)
   have z:=z s rfl
   refine J4 (show Wp (Q5 (Q4 N) [some (.ref r),some (.tup (fiv (enC n) s)),none,none,none,none]) G _ from ?_)
   unfold Q5
   refine J6 (X2:= [some (.ref r),some (.tup (fiv (enC n) s)),none,none,none,none]) rfl<| J6 (X2:= [some (.ref r),some (.tup (fiv (enC n) s)),some (.tup (fiv (enC n) (E2 (CS n)))),none,none,none]) rfl ?_
   refine d8.mpr<| K6<| Tb rfl (by decide) (by decide)<| d7 (Bz (by lia)) ?_
   have wm:∀d,d∈(K3 0 (5:Int).toNat).filter (wyB G s)↔_:=λd=>QY (by lia)
   have wl:((K3 0 (5:Int).toNat).filter (wyB G s)).length<=5:=xI _ _
   generalize (K3 0 (5:Int).toNat).filter (wyB G s)=ws at wm wl
   have f1:Fd r G (G++[.lst ws]):=Fd.app h
   have hp:G.length≠r:=by have:=h.lt;lia
   have f2:Fd r G (G++[.lst ws]++[.lst []]):=f1.trans (Fd.app f1.2.2)
   have e2:(G++[DO.lst ws]++[DO.lst []])[G.length]? =some (.lst ws):=V0 j8
   refine d8.mpr<| Q0<| v9<| m8<| d7 rfl<| d7 rfl<| (nH e2 j8).mpr ⟨_,rfl,λhw=>?_,λhw=>j0.mpr ?_⟩
   · refine o9<| d7 rfl (t8 ⟨f2,.inl ⟨rfl,λv=>SV (λk hk=>je λno=>?_) v⟩⟩)
     have:=(wm _).mpr ⟨k,hk,rfl,no⟩
     rw[List.isEmpty_iff.mp hw]at this
     cases this
   have hne:ws≠ []:=λe=>by rw[e]at hw;cases hw
   generalize G++[DO.lst ws]++[DO.lst []]=G2 at f2 e2
   refine d8.mpr<| K6<| j9 rfl rfl<| W5 f2.2.2 λj G3 f3=>?_
   have e3:=f3.at hp e2
   have f3:=f2.trans f3
   refine d8.mpr<| K6<| m8<| d7 rfl<| m8<| d7 rfl<| y3 rfl<| oR e3 (by lia)<| (u5 (QF hne)).mpr<| oD e3 (D9 hne).1 (D9 hne).2 λd hd=>?_
   obtain⟨k,hk,rfl,no⟩:=(wm d).mp hd
   have ok:∀ {x G'},Fd r G3 G'->(∃v,VD 400 (n+2) x v)->(DL.PB λx G'=>Fd r G G'/\((x= .non/\∀v,¬inC (n+1) (some s) v)\/∃v,VD 400 (n+2) x v)) (.rt x) G':=λf hv=>t8 ⟨f3.trans f,.inr hv⟩
   have h3:=f3.2.2
   have ej:(j:Int) / 5= ((j / 5:Nat):Int):=by lia
   match k,hk,no with
   |0,_,no=>
     refine d8.mpr<| N0 rfl<| o9<| M8<| K5 rfl<| m7<| o4 rfl rfl<| (M3 ⟨by decide,by decide⟩).mpr<| m5.mpr<| U8.mpr ⟨rfl,?_⟩
     rw[ej]
     refine(sT g.1.ns no).mono ?_
     rintro _ G4 ⟨⟨t,rfl⟩,i,rfl⟩
     exact ok (Fd.app h3) ⟨_,.num⟩
   |1,_,no=>
     refine J6 (X2:= [_,_,_,_,_,_]) rfl<| d8.mpr<| N0 rfl<| o9<| M8<| K5 rfl<| m7<| o4 rfl rfl<| (M3 ⟨by decide,by decide⟩).mpr<| m5.mpr<| U8.mpr ⟨rfl,?_⟩
     rw[ej]
     refine(kU z.tx no).mono ?_
     rintro _ G4 ⟨⟨t,rfl⟩,i,rfl,hx⟩
     exact ok (Fd.app h3) ⟨_,.txt hx⟩
   |2,_,no=>
     have hb:s.bs.map D.bl≠ []:=λe=>no (Yl.mp e)
     refine J6 (X2:= [_,_,_,_,_,_]) rfl<| J6 (X2:= [_,_,_,_,_,_]) rfl<| d8.mpr<| N0 rfl<| o9<| m8<| d7 rfl<| m8<| o4 rfl rfl<| (M3 ⟨by decide,by decide⟩).mpr<| d7 rfl<| (u5 (QF hb)).mpr<| sH (D9 hb).1 (D9 hb).2 λd hd=>?_
     obtain⟨b,_,rfl⟩:=zG.mp hd
     exact ok (Fd.refl h3) ⟨_,.tru⟩
   |3,_,no=>
     obtain⟨⟨fs,m⟩,hls⟩:∃q,s.ls=some q:=Xh.mp no
     have gl:=g.1.ls
     have zl:lsZ n 47 s.ls:=z.ls
     rw[hls]at gl zl
     refine J6 (X2:= [_,_,_,_,_,_]) rfl<| J6 (X2:= [_,_,_,_,_,_]) rfl<| J6 (X2:= [_,_,_,_,_,_]) rfl<| d8.mpr<| N0 rfl<| o9<| j9 rfl rfl ?_
     rw[hls]
     exact(wX (by lia) ih h3 gl zl).mono λx G' ⟨f,hv⟩=>ok f hv
   |4,_,no=>
     obtain⟨⟨fs,m⟩,hrs⟩:∃q,s.rs=some q:=Xh.mp no
     have gr:=g.1.rs
     have zr:rsZ n 47 s.rs:=z.rs
     rw[hrs]at gr zr
     refine J6 (X2:= [_,_,_,_,_,_]) rfl<| J6 (X2:= [_,_,_,_,_,_]) rfl<| J6 (X2:= [_,_,_,_,_,_]) rfl<| d8.mpr<| F0 rfl<| j0.mpr<| o9<| j9 rfl rfl ?_
     rw[hrs]
     exact(Mj (by lia) ih h3 gr zr).mono λx G' ⟨f,hv⟩=>ok f hv
def TAt(w k:Nat)(R:List D->M D):Prop:=∀(d:D) (v:NV) (G:DH) (r:Nat),Dr G r->VD w k d v->Wp (R [.ref r,d]) G λx G'=>Fd r G G'/\∃v,VD (w+1) k x v
theorem vM{j n:Nat}(h:0<n):∃a:Nat,a<n/\(j:Int) / 4 % (n:Int)= (a:Int):=
 ⟨j / 4 % n,Nat.mod_lt _ h,by simp⟩
theorem VC(h4:400<=w)(h:VD 400 0 x v):VD (w+1) k x v:=(h.mono (zY _)).wide (by lia)
section
variable{w k r:Nat}{R:List D->M D}{G:DH}
theorem Hv(h4:400<=w)(hw:w<=900)(ih:TAt w k R)(h:Dr G r)(hl:ds.length<=w)(hv:∀d∈ds,∃v,VD w k d v){j:Nat}:Wp (R7 R [.ref r,.tup ds,.int (j:Int)]) G λx G'=>Fd r G G'/\∃v,VD (w+1) (k+1) x v:=by
 have bg:=big
 refine J4 (show Wp (W6 R [some (.ref r),some (.tup ds),some (.int (j:Int)),none]) G _ from ?_)
 unfold W6
 refine d8.mpr<| K6<| m8<| o4 rfl rfl<| (M3 ⟨by decide,by decide⟩).mpr<| o4 rfl rfl<| Z2.mpr<| (u5 (by lia)).mpr ?_
 obtain⟨a,ha,ea⟩:=vM (n:=ds.length+1) (by lia)
 rw[show ((ds.length:Int)+1)= ((ds.length+1:Nat):Int)from rfl,ea]
 have hv':∀d∈ds,∃v,VD (w+1) k d v:=λd hd=>(hv d hd).elim λv q=>⟨v,q.wide (by lia)⟩
 have fin:∀(x:D) b,a<=b->(∃v,VD (w+1) k x v)->∃v,VD (w+1) (k+1) (.tup [.str r6,.tup (ds.take a++[x]++ds.drop b)]) v:=λx b hb hx=>LG (by rw[zA,zA,jD,jR,jc];lia) λd hd=>by
  rcases zJ.mp hd with hd|hd
  · rcases zJ.mp hd with hd|hd
    ·exact hv' d (ZQ hd)
    ·rw[zk.mp hd];exact hx
  ·exact hv' d (ZR hd)
 have szs:∀(x:D) b,a<=b->(ds.take a++[x]).length+(ds.drop b).length<=zg:=λx b hb=>by rw[zA,jD,jR,jc];lia
 have szt:∀x:D,(ds.take a).length + [x].length<=zg:=λx=>by rw[jD,jc];lia
 have ins {P:Fl->DH->Prop} (q:∀x G',Fd r G G'/\(∃v,VD (w+1) (k+1) x v)->P (.rt x) G'):Wp (t6 (J9 (d0 (cE (.str ("list" :Str))) (d0 (c7 O6 (c7 O6 (R1 (b8 1) (R9) (S8 (b8 3))) (J9 (d0 (x0 (fnX 2 Q8) (d0 (b8 0) (d0 (cE (.int 0)) g0))) g0))) (R1 (b8 1) (S8 (b8 3)) (R9))) g0))) [some (.ref r),some (.tup ds),some (.int (j:Int)),some (.int (a:Int))]) G P:=by
  refine o9<| N5.mpr<| K5 rfl<| m7<| m8<| m8<| d7 rfl ?_
  rw[eE]
  refine N5.mpr<| m7<| j9 rfl rfl<| (r9 60 0 G (by decide) h).mono ?_
  rintro x G1 ⟨⟨v,hx⟩,f1⟩
  refine m5.mpr ⟨sz,(C5 (szt x)).mpr<| d7 rfl ?_⟩
  rw[eD]
  exact(C5 (szs x a (zo _))).mpr<| m5.mpr ⟨sz,q _ _ ⟨f1,fin x a (zo _) ⟨v,VC h4 hx⟩⟩⟩
 refine d8.mpr<| Q0<| B7<| v9<| m8<| o4 rfl rfl<| (u5 (by decide)).mpr<| d7 rfl<| O2.mpr ⟨_,rfl,λ_=>⟨λ_=>ins λx G' z=>t8 z,λz=>absurd z (by decide)⟩,λ_=>v9<| o4 rfl rfl<| O2.mpr ⟨_,rfl,λ_=>ins λx G' z=>t8 z,λhz=>j0.mpr ?_⟩⟩
 have hz:¬(a:Int)=ds.length:=of_decide_eq_false hz
 have hlt:a<ds.length:=by lia
 refine d8.mpr<| Q0<| v9<| m8<| o4 rfl rfl<| (u5 (by decide)).mpr<| d7 rfl<| O2.mpr ⟨_,rfl,λ_=>?_,λ_=>j0.mpr ?_⟩
 · refine o9<| N5.mpr<| K5 rfl<| m7<| o4 (y:=.tup (DL.cutD ds (some ((a+1:Nat):Int)) none)) rfl rfl ?_
   rw[eE,eD]
   refine(C5 (by rw[jD,jR];lia)).mpr<| m5.mpr ⟨sz,t8 ⟨Fd.refl h,LG (by rw[zA,jD,jR];lia) λd hd=>?_⟩⟩
   rcases zJ.mp hd with hd|hd
   ·exact hv' d (ZQ hd)
   ·exact hv' d (ZR hd)
 · refine o9<| N5.mpr<| K5 rfl<| m7<| m8<| m8<| d7 rfl ?_
   rw[eE]
   obtain⟨v,hd⟩:=hv ds[a] (jd hlt)
   refine N5.mpr<| m7<| M8<| K5 rfl<| m7<| o4 rfl rfl<| ix_tup.mpr ⟨ds[a],atI_nat (ze hlt),m5.mpr<| U8.mpr ⟨rfl,(ih _ v G r h hd).mono ?_⟩⟩
   rintro x G1 ⟨f1,hx⟩
   refine m5.mpr ⟨sz,(C5 (szt x)).mpr<| d7 (a:=.tup (DL.cutD ds (some ((a+1:Nat):Int)) none)) rfl ?_⟩
   rw[eD]
   exact(C5 (szs x (a+1) (by lia))).mpr<| m5.mpr ⟨sz,t8 ⟨f1,fin x (a+1) (by lia) hx⟩⟩
end
theorem atI_last:atI (l++[x]) (-1)=some x:=by
 unfold atI
 rw[LM]
 simp
theorem Sh:Nm ("x" :Str):=⟨⟨by decide,by decide⟩,by decide⟩
theorem Hq:Nm ("q" :Str):=⟨⟨by decide,by decide⟩,by decide⟩
section
variable{w k r:Nat}{R:List D->M D}{G:DH}
theorem Vp(h4:400<=w)(hw:w<=900)(ih:TAt w k R)(h:Dr G r){ps:List (Str×D)}(hl:ps.length<=w)(hn:(ps.map (·.1)).Pairwise nlt)(hx:∀p∈ps,Nm p.1)(hv:∀p∈ps,∃v,VD w k p.2 v){j:Nat}:Wp (P0 R [.ref r,.tup (ps.map pvD),.int (j:Int)]) G λx G'=>Fd r G G'/\∃v,VD (w+1) (k+1) x v:=by
 have bg:=big
 have hv':∀d∈ps,∃v,VD (w+1) k d.2 v:=λd hd=>(hv d hd).elim λv q=>⟨v,q.wide (by lia)⟩
 refine J4 (show Wp (S9 R [some (.ref r),some (.tup (ps.map pvD)),some (.int (j:Int)),none,none]) G _ from ?_)
 unfold S9
 by_cases he:ps= []
 · subst he
   refine d8.mpr<| N0 rfl<| o9<| N5.mpr<| K5 rfl<| m7<| N5.mpr<| m7<| N5.mpr<| K5 rfl<| m7<| j9 rfl rfl<| (r9 60 0 G (by decide) h).mono ?_
   rintro x G1 ⟨⟨v,hx⟩,f1⟩
   exact m5.mpr ⟨sz,m5.mpr ⟨sz,m5.mpr ⟨sz,t8 ⟨f1,TB (ps:= [("q",x)]) (by simp) (by simp) (λp hp=>by rw[zk.mp hp];exact Hq) (λp hp=>by rw[zk.mp hp];exact⟨v,VC h4 hx⟩)⟩⟩⟩⟩
 have hlen:0<ps.length:=List.length_pos_iff.mpr he
 have e0:eqN 40 G (.tup (ps.map pvD)) (.tup [])=some false:=by
  rcases ps with _|⟨p,r⟩
  ·exact absurd rfl he
  ·rfl
 refine d8.mpr<| Q0<| v9<| o4 rfl rfl<| dA.mpr ⟨_,e0,_,rfl,λz=>(nomatch z),λ_=>j0.mpr ?_⟩
 refine d8.mpr<| K6<| m8<| o4 rfl rfl<| (M3 ⟨by decide,by decide⟩).mpr<| d7 rfl<| (u5 (by rw[zc];lia)).mpr ?_
 obtain⟨a,ha,ea⟩:=vM hlen
 rw[zc,ea]
 refine d8.mpr<| Q0<| v9<| m8<| o4 rfl rfl<| (u5 (by decide)).mpr<| d7 rfl<| O2.mpr ⟨_,rfl,λ_=>?_,λ_=>j0.mpr ?_⟩
 · refine o9<| N5.mpr<| K5 rfl<| m7<| o4 (y:=.tup (DL.cutD (ps.map pvD) (some ((a+1:Nat):Int)) none)) rfl rfl ?_
   rw[eE,eD]
   refine(C5 (by rw[jD,jR,zc];lia)).mpr<| m5.mpr ⟨sz,t8 ⟨Fd.refl h,?_⟩⟩
   rw[<-List.map_take,<-Jc,<-jG]
   have sub:(ps.take a++ps.drop (a+1)).Sublist ps:=by
    conv=>rhs;rw[<-Jv a ps]
    refine(List.Sublist.refl _).append ?_
    rw[<-List.drop_drop];exact List.drop_sublist _ _
   exact TB (zI sub.length_le (by lia)) (hn.sublist (sub.map _)) (λp hp=>hx p (sub.subset hp)) (λp hp=>hv' p (sub.subset hp))
 have last:Wp (j6 (v8 (J9 (d0 (c7 ixD (c7 ixG (b8 1) (b8 3)) (cE (.int 0))) (d0 (x0 (fnX 2 R) (d0 (b8 0) (d0 (c7 ixD (c7 ixG (b8 1) (b8 3)) (cE (.int 1))) g0))) g0))) (y0 4)) (t6 (J9 (d0 (cE (.str ("record" :Str))) (d0 (c7 O6 (c7 O6 (R1 (b8 1) (R9) (S8 (b8 3))) (J9 (d0 (b8 4) g0))) (R1 (b8 1) (S8 (c7 O6 (b8 3) (cE (.int 1)))) (R9))) g0)))) [some (.ref r),some (.tup (ps.map pvD)),some (.int (j:Int)),some (.int (a:Int)),none]) G (DL.PB λx G'=>Fd r G G'/\∃v,VD (w+1) (k+1) x v):=by
  have hat:atI (ps.map pvD) (a:Int)=some (pvD ps[a]):=atI_nat (by rw[zB,ze ha];rfl)
  obtain⟨v,hd⟩:=hv ps[a] (jd ha)
  refine d8.mpr<| K6<| N5.mpr<| m7<| m8<| o4 rfl rfl<| ix_tup.mpr ⟨_,hat,d7 rfl<| ix_tup.mpr ⟨.str ps[a].1,rfl,m7<| M8<| K5 rfl<| m7<| m8<| o4 rfl rfl<| ix_tup.mpr ⟨_,hat,d7 rfl<| ix_tup.mpr ⟨ps[a].2,rfl,m5.mpr<| U8.mpr ⟨rfl,(ih _ v G r h hd).mono ?_⟩⟩⟩⟩⟩
  rintro x G1 ⟨f1,hx1⟩
  refine m5.mpr ⟨sz,o9<| N5.mpr<| K5 rfl<| m7<| m8<| o4 (y:=.tup [pvD (ps[a].1,x)]) rfl rfl ?_⟩
  rw[eE]
  refine(C5 (by rw[jD,zc,jc];lia)).mpr<| d7 (a:=.tup (DL.cutD (ps.map pvD) (some ((a+1:Nat):Int)) none)) rfl ?_
  rw[eD]
  refine(C5 (by rw[zA,jD,zc,jR,zc,jc];lia)).mpr<| m5.mpr ⟨sz,t8 ⟨f1,?_⟩⟩
  have em:(ps.map pvD).take a++[pvD (ps[a].1,x)]++(ps.map pvD).drop (a+1)= (ps.take a++[(ps[a].1,x)]++ps.drop (a+1)).map pvD:=by simp[List.map_take,Jc]
  rw[em]
  have en:(ps.take a++[(ps[a].1,x)]++ps.drop (a+1)).map (·.1)=ps.map (·.1):=by
   have e:ps.take a++ps[a]::ps.drop (a+1)=ps:=by rw[<-xg ha];exact Jv a ps
   have e2:=congrArg (List.map (·.1)) e
   rw[<-e2]
   simp only[jG,zL,xX,xA,List.singleton_append]
  have mem:∀p∈ps.take a++[(ps[a].1,x)]++ps.drop (a+1),p∈ps\/p= (ps[a].1,x):=λp hp=>by
   rcases zJ.mp hp with hp|hp
   · rcases zJ.mp hp with hp|hp
     ·exact .inl (ZQ hp)
     ·exact .inr (zk.mp hp)
   ·exact .inl (ZR hp)
  refine TB (by rw[zA,zA,jD,jR,jc];lia) (by rw[en];exact hn) (λp hp=>?_) (λp hp=>?_)
  · rcases mem p hp with q|q
    ·exact hx p q
    ·rw[q];exact hx ps[a] (jd ha)
  · rcases mem p hp with q|q
    ·exact hv' p q
    ·rw[q];exact hx1
 refine d8.mpr<| Q0<| D7<| v9<| m8<| o4 rfl rfl<| (u5 (by decide)).mpr<| d7 rfl<| O2.mpr ⟨_,rfl,λ_=>?_,λ_=>⟨λz=>(nomatch z),λ_=>j0.mpr last⟩⟩
 obtain⟨qs,p,hqs⟩:∃qs p,ps=qs++[p]:=⟨ps.dropLast,ps.getLast he,(Xk he).symm⟩
 have hat:atI (ps.map pvD) (-1)=some (pvD p):=by rw[hqs,jG];exact atI_last
 refine v9<| m8<| m8<| o4 rfl rfl<| ix_tup.mpr ⟨_,hat,d7 rfl<| ix_tup.mpr ⟨.str p.1,rfl,d7 rfl<| KN.mpr ⟨_,rfl,λhlt=>?_,λ_=>j0.mpr last⟩⟩⟩
 have hlt:nlt p.1 "x":=of_decide_eq_true hlt
 refine o9<| N5.mpr<| K5 rfl<| m7<| m8<| d7 rfl<| N5.mpr<| m7<| N5.mpr<| K5 rfl<| m7<| j9 rfl rfl<| (r9 60 0 G (by decide) h).mono ?_
 rintro x G1 ⟨⟨v,hx1⟩,f1⟩
 refine m5.mpr ⟨sz,m5.mpr ⟨sz,(C5 (by rw[zc,jc];lia)).mpr<| m5.mpr ⟨sz,t8 ⟨f1,?_⟩⟩⟩⟩
 rw[show ps.map pvD++[D.tup [.str "x",x]]= (ps++[(("x" :Str),x)]).map pvD by rw[jG];rfl]
 refine TB (by rw[zA,jc];lia) ?_ (λp hp=>?_) (λp hp=>?_)
 · rw[jG,yB]
   refine⟨hn,by simp,λy hy z hz=>?_⟩
   rw[show z= "x" from zk.mp hz]
   rw[hqs,jG]at hy hn
   rcases zJ.mp hy with hy|hy
   ·exact aJ ((yB.mp hn).2.2 y hy p.1 (by simp)) hlt
   ·rw[show y=p.1 from zk.mp hy];exact hlt
 · rcases zJ.mp hp with hp|hp
   ·exact hx p hp
   ·rw[zk.mp hp];exact Sh
 · rcases zJ.mp hp with hp|hp
   ·exact hv' p hp
   ·rw[zk.mp hp];exact⟨v,VC h4 hx1⟩
end
theorem OF(h4:400<=w)(hw:w<=900):∀k N,k<N->TAt w k (aE N)
 |k,0,hk=>by lia
 |k,N+1,hk=>λd v G r h hv=>by
   have bg:=big
   refine J4 (show Wp (wD (aE N) [some (.ref r),some d,none]) G _ from ?_)
   unfold wD
   refine d8.mpr<| K6<| j9 rfl rfl<| W5 h λj G1 f1=>?_
   rcases hv with _|hz|_|⟨hl,h⟩|⟨hl,hn,hx,h,hq⟩
   · refine J6 (X2:= [_,_,_]) rfl<| J6 (X2:= [_,_,_]) rfl<| d8.mpr<| N0 rfl<| o9<| m8<| d7 rfl<| m8<| W3.mpr<| d7 rfl ⟨sz,o4 rfl rfl<| (u5 (by decide)).mpr<| oD j8 (jp _ (by decide)) (jn _ (by decide)) λd hd=>?_⟩
     obtain⟨i,rfl⟩:∃i,d= .int i:=by
      simp only[zp,zS,or_false]at hd
      rcases hd with rfl|rfl|rfl<;>exact⟨_,rfl⟩
     exact Z2.mpr<| t8 ⟨f1.trans (Fd.app f1.2.2),_,.num⟩
   · refine J6 (X2:= [_,_,_]) rfl<| J6 (X2:= [_,_,_]) rfl<| J6 (X2:= [_,_,_]) rfl<| o9<| j9 rfl rfl<| (r9 60 0 G1 (by decide) f1.2.2).mono ?_
     rintro x G2 ⟨⟨v,hx⟩,f2⟩
     exact t8 ⟨f1.trans f2,v,VC h4 hx⟩
   · refine J6 (X2:= [_,_,_]) rfl<| J6 (X2:= [_,_,_]) rfl<| J6 (X2:= [_,_,_]) rfl<| o9<| j9 rfl rfl<| (r9 60 0 G1 (by decide) f1.2.2).mono ?_
     rintro x G2 ⟨⟨v,hx⟩,f2⟩
     exact t8 ⟨f1.trans f2,v,VC h4 hx⟩
   · refine d8.mpr<| N0 rfl<| o9<| j9 rfl rfl<| (Hv h4 hw (OF h4 hw _ N (by lia)) f1.2.2 hl λd hd=>(zN.mp hd).elim λi hi=>⟨_,h i d hi⟩).mono ?_
     exact λx G2 q=>t8 ⟨f1.trans q.1,q.2⟩
   · refine J6 (X2:= [_,_,_]) rfl<| d8.mpr<| N0 rfl<| o9<| j9 rfl rfl<| (Vp h4 hw (OF h4 hw _ N (by lia)) f1.2.2 hl hn hx λp hp=>⟨_,h p hp⟩).mono ?_
     exact λx G2 q=>t8 ⟨f1.trans q.1,q.2⟩
def lJ(x:D):Prop:=∃m,x= .int m/\∀y,¬ahI y m
abbrev nTx(s:Pt α):Prop:=s.b=true/\s.ss= []
inductive oB(isf:α->D->Prop)(s:Pt α):D->Prop
 |num (m:Int) (a:inS s.ns m) (b:∀y,inS s.ns y->¬ahI y m):oB isf s (.int m)
 |txt (t:Str) (n:s.ns= []) (h:Tx t) (a:inT s.b s.ss t) (b:∀z,T0 (tl z)->inT s.b s.ss z->¬slt (tl z) (tl t)):oB isf s (.str t)
 |tru (k:Bool) (r:List Bool) (n:s.ns= []) (t:nTx s) (b:s.bs=k::r):oB isf s (.bl k)
 |lst (fs:List α) (m:α) (ds:List D) (n:s.ns= []) (t:nTx s) (b:s.bs= []) (l:s.ls=some (fs,m)) (h:D1 isf fs ds):oB isf s (.tup [.str r6,.tup ds])
 |rcd (fs:List (Str×Bool×α)) (m:α) (ps:List (Str×D)) (n:s.ns= []) (t:nTx s) (b:s.bs= []) (l:s.ls=none) (q:s.rs=some (fs,m)) (h:D1 (λe p=>e.1=p.1/\isf e.2.2 p.2) (fs.filter (·.2.1)) ps):oB isf s (.tup [.str P4,.tup (ps.map pvD)])
def Wz(isf:α->D->Prop):Option (Pt α)->D->Prop
 |none,x=>lJ x
 |some s,x=>oB isf s x
def IsF:(n:Nat)->CS n->D->Prop
 |0=>λ_ x=>lJ x
 |n+1=>Wz (IsF n)
def FAt(n:Nat)(R:List D->M D):Prop:=∀(c:CS n) (G:DH),Gd n c->SzC n 47 c->Wp (R [enC n c]) G λx G'=>Ap G G'/\(IsF n c x\/(x= .non/\∀v,¬inC n c v))
section
variable{n:Nat}{R:List D->M D}{G:DH}
theorem FAt.some(ih:FAt n R)(g:Gd n c)(z:SzC n 47 c)(hv:∃v,inC n c v)(G:DH):Wp (R [enC n c]) G λx G'=>IsF n c x/\Ap G G':=
 (ih c G g z).mono λx G' ⟨f,hx⟩=>by
   rcases hx with hx|⟨_,no⟩
   ·exact⟨hx,f⟩
   ·exact absurd hv.choose_spec (no _)
theorem PM:∀fs a G,(∀d∈fs,∀G1,Wp (R [enC n d]) G1 λx G'=>P d x/\Ap G1 G')->
 Wp (M9 (y0 0) O7 (x0 (fnX 1 R) (d0 (b8 0) g0)) (λ_=>true) (fs.map (enC n)) [a]) G λys G'=>D1 P fs ys/\Ap G G'
 |[],a,G,_=>W8.mpr ⟨rfl,trivial,Ap.refl⟩
 |d::r,a,G,h=>by
   refine X3.mpr ⟨rfl,d7 rfl<| d7 rfl ?_⟩
   rw[if_pos rfl]
   refine j9 rfl rfl<| (h _ (.head _) G).mono λx G1 ⟨e1,a1⟩=>?_
   exact(PM r _ G1 λf hf=>h f (zn _ hf)).mono λys G2 ⟨e2,a2⟩=>⟨⟨e1,e2⟩,a1.trans a2⟩
theorem kh(hl:fs.length<=10000)(h:∀d∈fs,∀G1,Wp (R [enC n d]) G1 λx G'=>P d x/\Ap G1 G'):Wp (mD R [.tup (fs.map (enC n))]) G λx G'=>∃p ys,x= .ref p/\G'[p]? =some (.lst ys)/\D1 P fs ys/\Ap G G':=by
 refine J4 (show Wp (vF R [some (.tup (fs.map (enC n)))]) G _ from ?_)
 unfold vF
 refine o9<| Q6 rfl (by rw[zc];exact hl)<| (PM fs _ G h).mono λys G1 ⟨e1,a1⟩=>?_
 exact t8 ⟨_,ys,rfl,j8,e1,a1.trans Ap.one⟩
theorem SH{P:CS n->D->Prop}:∀(fs:List (Str×Bool×CS n)) a b c G,(∀f∈fs,f.2.1=true->∀G1,Wp (R [enC n f.2.2]) G1 λx G'=>P f.2.2 x/\Ap G1 G')->
 Wp (M9 (A5 3 (W9 (y0 0) (W9 (y0 1) (W9 (y0 2) (S4))))) (J8 (b8 1)) (J9 (d0 (b8 0) (d0 (x0 (fnX 1 R) (d0 (b8 2) g0)) g0))) (λ_=>true) (fs.map (fdE (enC n))) [a,b,c]) G λys G'=>∃ps,ys=eC ps/\D1 (λe p=>e.1=p.1/\P e.2.2 p.2) (fs.filter (·.2.1)) ps/\Ap G G'
 |[],a,b,c,G,_=>W8.mpr ⟨rfl, [],rfl,trivial,Ap.refl⟩
 |(z,m,d)::r,a,b,c,G,h=>by
  have hr:=λf hf=>h f (zn _ hf)
  refine X3.mpr ⟨rfl,d7 rfl<| d7 rfl ?_⟩
  cases m with
  |false=>exact SH r _ _ _ G hr
  |true=>
    rw[if_pos rfl]
    refine N5.mpr<| K5 rfl<| m7<| j9 rfl rfl<| (h _ (.head _) rfl G).mono λx G1 ⟨e1,a1⟩=>?_
    refine m5.mpr ⟨sz,(SH r _ _ _ G1 hr).mono λys G2 ⟨ps,e2,q2,a2⟩=>⟨(z,x)::ps,by rw[e2];rfl,⟨⟨rfl,e1⟩,q2⟩,a1.trans a2⟩⟩
theorem D1.names{P:α->D->Prop}:∀ {fs:List (Str×Bool×α)} {ps:List (Str×D)},D1 (λe p=>e.1=p.1/\P e.2.2 p.2) fs ps->ps.map (·.1)=fs.map (·.1)
 |[], [],_=>rfl
 |_::_,_::_,h=>by rw[zL,zL,D1.names h.2,h.1.1]
theorem UW{P:CS n->D->Prop}{fs:List (Str×Bool×CS n)}(hl:fs.length<=10000)(nd:(fs.map (·.1)).Nodup)(h:∀f∈fs,f.2.1=true->∀G1,Wp (R [enC n f.2.2]) G1 λx G'=>P f.2.2 x/\Ap G1 G'):
 Wp (Z8 R [.tup [.tup (fs.map (fdE (enC n))),more]]) G λx G'=>∃p ps,x= .ref p/\G'[p]? =some (.dct (B0 ps))/\D1 (λe p=>e.1=p.1/\P e.2.2 p.2) (fs.filter (·.2.1)) ps/\Ap G G':=by
 refine J4 (show Wp (tE R [some (.tup [.tup (fs.map (fdE (enC n))),more])]) G _ from ?_)
 unfold tE
 refine o9<| M8<| m7<| Q6 rfl (by simpa using hl)<| (SH fs _ _ _ G h).mono λys G1 ⟨ps,e1,q1,a1⟩=>?_
 subst e1
 refine m5.mpr<|?_
 unfold ID
 refine j5.mpr<| j5.mpr<| O5.mpr ⟨_,j8,?_⟩
 refine d7 rfl<| j5.mpr<| L4.mpr ⟨_,SO _,R3.mpr<| t8 ⟨_,ps,rfl,?_,q1,a1.trans (Ap.one.trans Ap.one)⟩⟩
 have n2:(ps.map (·.1)).Nodup:=by
  rw[D1.names q1]
  exact(xW.map _).nodup nd
 have e:=tN ps [] n2
 rw[j8]
 exact congrArg (λz=>some (DO.dct z)) e
end
theorem TQ(b:B (!l.isEmpty) G):Wp (t3 (.tup l)) G B:=by
 cases l<;>exact⟨_,_,rfl,b⟩
theorem dE2:lF [.str B3] G=some (.ok evD,G):=rfl
theorem Fb(y:Int):inS [(none,none)] y:=⟨_,zk.mpr rfl,λ_ e=>J7 e,λ_ e=>J7 e⟩
theorem MP:Wp (T5 (N+1) [.str B3]) G λx G'=>Ap G G'/\lJ x:=by
 refine J4 (show Wp (U3 (T5 N) [some (.str B3),none]) G _ from ?_)
 unfold U3
 refine d8.mpr<| K6<| j9 rfl rfl<| d7 dE2<| d8.mpr<| N0 rfl<| o9<| j9 rfl rfl<| (mO pJ.1 (by simp)).mono ?_
 rintro _ G1 ⟨m,rfl,_,hy,a1⟩
 exact t8 ⟨a1,m,rfl,λy=>hy y (Fb y)⟩
theorem BO{fs:List (Str×Bool×α)}(h:Nms fs):(fs.map (·.1)).Pairwise nlt:=yf.mpr h
theorem bO:∀n N,n<N->n<=7->FAt n (T5 N)
 |n,0,hN,_=>by lia
 |0,N+1,_,_=>λc G g z=>MP.mono λx G' q=>⟨q.1,.inl q.2⟩
 |n+1,N+1,hN,hn=>λc G g z=>by
   rcases c with _|s
   ·exact MP.mono λx G' q=>⟨q.1,.inl q.2⟩
   have bg:=big
   have ih:=bO n N (by lia) (by lia)
   have z:=z s rfl
   have l1:=z.ns
   have l2:=z.ss
   refine J4 (show Wp (U3 (T5 N) [some (.tup (fiv (enC n) s)),none]) G _ from ?_)
   unfold U3
   refine J6 (X2:= [some (.tup (fiv (enC n) s)),some (.tup (fiv (enC n) s))]) rfl ?_
   refine d8.mpr<| Q0<| X4.mpr<| d7 rfl<| TQ ⟨λh=>?_,λh=>j0.mpr ?_⟩
   · obtain⟨p,r,en⟩:∃p r,s.ns=p::r:=by
      rcases e:s.ns with _|⟨p,r⟩
      ·rw[e]at h;cases h
      ·exact⟨p,r,rfl⟩
     refine o9<| j9 rfl rfl ?_
     rw[en]
     refine(mO (λq hq=>g.1.ns.1 q (en▸hq)) (by rw[<-en];lia)).mono ?_
     rintro _ G1 ⟨m,rfl,hm,hy,a1⟩
     exact t8 ⟨a1,.inl (.num m (en▸hm) (en▸hy))⟩
   have en:s.ns= []:=by
    rcases e:s.ns with _|⟨p,r⟩
    ·rfl
    ·rw[e]at h;cases h
   obtain⟨kk,ek,ik⟩:Z1 40 G (J2 s.b s.ss) (J2 true []) (nTx s):=EK _ _ _ _
   refine d8.mpr<| Q0<| v9<| o4 rfl rfl<| t4.mpr ⟨kk,ek, !kk,rfl,λq=>?_,λq=>j0.mpr ?_⟩
   · have hne:¬nTx s:=λz=>by rw[ik.mpr z]at q;cases q
     refine o9<| j9 rfl rfl<| (Ld g.1.ss z.tx (by lia) hne).mono ?_
     rintro _ G1 ⟨t,rfl,h1,h2,h3,e2⟩
     exact t8 ⟨e2▸Ap.refl,.inl (.txt t en h1 h2 h3)⟩
   have ht:nTx s:=ik.mp (by cases kk<;>first|rfl|cases q)
   refine d8.mpr<| Q0<| X4.mpr<| d7 rfl<| TQ ⟨λh=>?_,λh=>j0.mpr ?_⟩
   · obtain⟨k,r,eb⟩:∃k r,s.bs=k::r:=by
      rcases e:s.bs with _|⟨p,r⟩
      ·rw[e]at h;cases h
      ·exact⟨p,r,rfl⟩
     exact o9<| o4 rfl rfl<| ix_tup.mpr ⟨.bl k,by rw[eb];exact aN,t8 ⟨Ap.refl,.inl (.tru k r en ht eb)⟩⟩
   have eb:s.bs= []:=by
    rcases e:s.bs with _|⟨p,r⟩
    ·rfl
    ·rw[e]at h;cases h
   rcases ela:s.ls with _|⟨fs,m⟩
   · refine d8.mpr<| F0 (by show _=_;unfold fiv;rw[ela];rfl)<| j0.mpr ?_
     rcases elb:s.rs with _|⟨fs,m⟩
     · refine d8.mpr<| F0 (by show _=_;unfold fiv;rw[elb];rfl)<| j0.mpr<| o9<| A3.mpr<| t8 ⟨Ap.refl,.inr ⟨rfl,?_⟩⟩
       obtain⟨_,_,_,_,_,_⟩:=s
       cases en;cases ht.1;cases ht.2;cases eb;cases ela;cases elb
       exact CD
     · have gr:=g.1.rs fs m elb
       have zr:=z.rs fs m elb
       refine d8.mpr<| N0 (by show _=_;unfold fiv;rw[elb];rfl)<| o9<| M8<| m7<| j9 (by unfold fiv;rw[elb];rfl) rfl<| (UW (by have:=zr.1;lia) (TM gr.2.1) λf hf hm G1=>ih.some (gr.2.2 f hf).1 (zr.2.2 f hf).1 ((gr.2.2 f hf).2.1 hm) G1).mono ?_
       rintro _ G1 ⟨p,ps,rfl,e1,q1,a1⟩
       have sub:((fs.filter (·.2.1)).map (·.1)).Sublist (fs.map (·.1)):=xW.map _
       have hn:(ps.map (·.1)).Pairwise nlt:=by rw[D1.names q1];exact YY sub (BO gr.2.1)
       have hl:ps.length<=fs.length:=by rw[<-q1.len];exact xI _ _
       refine m5.mpr<| U8.mpr ⟨rfl,(HY e1 (by have:=zr.1;lia) (hn.imp λ{a b} h=>decide_eq_true h)).mono ?_⟩
       rintro _ G2 ⟨rfl,a2⟩
       exact t8 ⟨a1.trans a2,.inl (.rcd fs m ps en ht eb ela elb q1)⟩
   · have gl:=g.1.ls fs m ela
     have zl:=z.ls fs m ela
     refine d8.mpr<| N0 (by show _=_;unfold fiv;rw[ela];rfl)<| o9<| N5.mpr<| K5 rfl<| m7<| M8<| m7<| j9 (by unfold fiv;rw[ela];rfl) rfl<| (kh (by have:=zl.1;lia) λa ha G1=>ih.some (gl.2 a ha).1 (zl.2.2 a ha) (gl.2 a ha).2 G1).mono ?_
     rintro _ G1 ⟨p,ys,rfl,e1,q1,a1⟩
     exact m5.mpr<| (S5 e1).mpr<| m5.mpr ⟨sz,t8 ⟨a1,.inl (.lst fs m ys en ht eb ela q1)⟩⟩
theorem D1.get:∀ {a} {b},D1 R a b->∀ {i:Nat} {x y},a[i]? =some x->b[i]? =some y->R x y
 |[], [],_,i,x,y,hx,_=>by simp at hx
 |_::_,_::_,h,0,x,y,hx,hy=>by cases hx;cases hy;exact h.1
 |_::_,_::_,h,i+1,x,y,hx,hy=>D1.get h.2 hx hy
 |[],_::_,h,_,_,_,_,_=>h.elim
 |_::_, [],h,_,_,_,_,_=>h.elim
theorem D1.right(h:D1 R a b)(hy:y∈b):∃x∈a,R x y:=by
 obtain⟨i,hi⟩:=zN.mp hy
 have hl:=(zy.mp hi).1
 rw[<-h.len]at hl
 exact⟨a[i],jd hl,h.get (ze hl) hi⟩
theorem Pm{P:Nat->NV->Prop}(hl:ds.length<=w)(h:∀i d,ds[i]? =some d->∃v,VD w k d v/\P i v):∃f,VD w (k+1) (.tup [.str r6,.tup ds]) (.lst ds.length f)/\∀i,i<ds.length->P i (f i):=by
 have h':∀i:Nat,∃v,∀d,ds[i]? =some d->VD w k d v/\P i v:=λi=>by
  rcases e:ds[i]? with _|d
  ·exact⟨.num 0,λd h=>nomatch h⟩
  · obtain⟨v,hv⟩:=h i d e
    exact⟨v,λd' e'=>by cases e';exact hv⟩
 exact⟨λi=>(h' i).choose,.lst hl λi d e=>((h' i).choose_spec d e).1,λi hi=>((h' i).choose_spec _ (ze hi)).2⟩
theorem QZ{P:Str->NV->Prop}{ps:List (Str×D)}(hl:ps.length<=w)(hn:(ps.map (·.1)).Pairwise nlt)(hx:∀p∈ps,Nm p.1)(h:∀p∈ps,∃v,VD w k p.2 v/\P p.1 v):∃q f,VD w (k+1) (.tup [.str P4,.tup (ps.map pvD)]) (.rcd q f)/\(∀z,q z=true↔z∈ps.map (·.1))/\∀z,q z=true->P z (f z):=by
 have nd:(ps.map (·.1)).Nodup:=wH hn
 have hf:∀z,∃v,∀p∈ps,p.1=z->VD w k p.2 v/\P z v:=λz=>by
  by_cases hz:∃p∈ps,p.1=z
  · obtain⟨p,hp,rfl⟩:=hz
    obtain⟨v,hv⟩:=h p hp
    refine⟨v,λp' hp' e=>?_⟩
    obtain⟨i,hi⟩:=zN.mp hp
    obtain⟨j,hj⟩:=zN.mp hp'
    have e1:(ps.map (·.1))[i]? =some p.1:=by rw[zB,hi];rfl
    have e2:(ps.map (·.1))[j]? =some p.1:=by rw[zB,hj];exact congrArg some e
    have:=(xy (zy.mp e1).1 nd).mp (e1.trans e2.symm)
    rw[this,hj]at hi
    cases hi
    exact hv
  ·exact⟨.num 0,λp hp e=>absurd ⟨p,hp,e⟩ hz⟩
 refine⟨λz=>decide (z∈ps.map (·.1)),λz=>(hf z).choose,.rcd hl hn hx (λp hp=>((hf p.1).choose_spec p hp rfl).1) (λz=>by rw[decide_eq_true_eq]),λz=>by rw[decide_eq_true_eq],λz hz=>?_⟩
 obtain⟨p,hp,rfl⟩:=zG.mp (of_decide_eq_true hz)
 exact((hf p.1).choose_spec p hp rfl).2
theorem pE:∀n c x,Gd n c->SzC n w c->IsF n c x->∃v,VD w (n+1) x v/\inC n c v
 |0,c,x,_,_,⟨m,e,_⟩=>by subst e;exact⟨_,.num,trivial⟩
 |n+1,c,x,g,z,h=>by
   rcases c with _|s
   ·obtain⟨m,e,_⟩:=h;subst e;exact⟨_,.num,trivial⟩
   have z:=z s rfl
   rcases h with⟨m,a,_⟩|⟨t,_,tt,a,_⟩|⟨k,r,_,_,e⟩|⟨fs,m,ds,_,_,_,l,q⟩|⟨fs,m,ps,_,_,_,_,l,q⟩
   ·exact⟨_,.num,a⟩
   ·exact⟨_,.txt tt.lx,a⟩
   ·exact⟨_,.tru,show k∈s.bs by rw[e];exact zt ..⟩
   · have gl:=g.1.ls fs m l
     have zl:=z.ls fs m l
     obtain⟨f,h1,h2⟩:=Pm (w:=w) (P:=λi v=>inC n (frt fs m i) v) (by rw[<-q.len];have:=zl.1;lia) λi d e=>by
      have hi:i<fs.length:=by rw[q.len];exact(zy.mp e).1
      rw[P5 hi]
      exact pE n _ d (gl.2 _ (jd hi)).1 (zl.2.2 _ (jd hi)) (q.get (ze hi) e)
     refine⟨_,h1,show F2 (inC n) s.ls _ _ from ?_⟩
     rw[l]
     exact b9.mpr ⟨by rw[q.len];exact zo _,h2⟩
   · have gr:=g.1.rs fs m l
     have zr:=z.rs fs m l
     have sub:(fs.filter (·.2.1)).Sublist fs:=xW
     have hl:ps.length<=fs.length:=by rw[<-q.len];exact sub.length_le
     have one:∀p∈ps,∃e∈fs,e.2.1=true/\e.1=p.1/\IsF n e.2.2 p.2:=λp hp=>by
      obtain⟨e,he,h1,h2⟩:=q.right hp
      obtain⟨h3,h4⟩:=jN.mp he
      exact⟨e,h3,h4,h1,h2⟩
     obtain⟨p,f,h1,h2,h3⟩:=QZ (w:=w) (P:=λy v=>inC n (fld fs m y).2 v) (ps:=ps) (by have:=zr.1;lia) (by rw[D1.names q];exact YY (sub.map _) (BO gr.2.1)) (λp hp=>by
      obtain⟨e,he,_,h1,_⟩:=one p hp
      rw[<-h1];exact(zr.2.2 e he).2) λp hp=>by
      obtain⟨e,he,_,h1,h2⟩:=one p hp
      rw[<-h1,MB gr.2.1 he]
      exact pE n _ _ (gr.2.2 e he).1 (zr.2.2 e he).1 h2
     refine⟨_,h1,show T2 (inC n) s.rs _ _ from ?_⟩
     rw[l]
     refine X8.mpr λy=>⟨h3 y,λhy=>?_⟩
     rcases e:(fld fs m y).1 with _|_
     ·rfl
     have hin:y∈fs.map (·.1):=je λno=>by rw[y7 no]at e;cases e
     have:y∈ps.map (·.1):=by
      rw[D1.names q]
      exact zG.mpr ⟨_,jN.mpr ⟨WA hin,e⟩,rfl⟩
     rw[(h2 y).mpr this]at hy;cases hy
theorem LW(h:97<=c/\c<=122):d6 leD leD (cE (.str ("a" :Str))) (b8 0) (cE (.str ("z" :Str))) [some (.str ⟨#[c]⟩)] G=some (.ok (.bl true),G):=R8<| by
 unfold d6
 have n1:¬([c]:List Nat) < [97]:=λq=>by
  rcases jm.mp q with q|q
  ·lia
  ·exact absurd q.2 (by simp)
 have n2:¬([122]:List Nat) < [c]:=λq=>by
  rcases jm.mp q with q|q
  ·lia
  ·exact absurd q.2 (by simp)
 refine j5.mpr<| d7 rfl<| j5.mpr<| d7 rfl<| j5.mpr<| MN.mpr<| j5.mpr<| SJ.mpr ⟨true,?_,?_⟩
 · show D.bl (!decide ([c] < [97]))=_
   rw[decide_eq_false n1];rfl
 · rw[if_pos rfl]
   refine j5.mpr<| d7 rfl<| MN.mpr ⟨?_,rfl⟩
   show D.bl (!decide ([122] < [c]))=_
   rw[decide_eq_false n2];rfl
theorem IL:∀cs u,T0 cs->M9 (y0 0) O7 (d6 leD leD (cE (.str ("a" :Str))) (b8 0) (cE (.str ("z" :Str)))) (λ_=>true) (cs.map λc=>.str ⟨#[c]⟩) [u] G=some (.ok (cs.map λ_=>.bl true),G)
 |[],u,_=>R8 (W8.mpr ⟨rfl,rfl,rfl⟩)
 | c :: r, u, h => R8 (X3.mpr ⟨rfl, d7 rfl <| d7 rfl <| by
    rw[if_pos rfl];exact d7 (LW (h c (zt ..)))<| d7 (IL r _ λy hy=>h y (zn _ hy)) ⟨rfl,rfl⟩⟩)
theorem AO(h:Lx z):Wp (PD [.str z]) G λx G'=>x= .bl true/\Ap G G':=by
 have bg:=big
 have hl:=h.2
 refine J4 (show Wp (iF [some (.str z)]) G _ from ?_)
 unfold iF
 have hz:(lC z).length<=zg:=by
  unfold lC;rw[zc,D4];lia
 exact o9<| DJ rfl<| M8<| m7<| wp_comp.mpr<| wp_itW.mpr<| d7 rfl<| rY.mpr ⟨hz,d7 (IL (tl z) none h.1)<| m5.mpr<| (bC j8).mpr<| t8<| by rw[jS.mpr λ_ _=>rfl];exact⟨rfl,Ap.one⟩⟩
theorem MU(h:Nm z):Wp (UE [.str z]) G λx G'=>x= .bl true/\Ap G G':=by
 have bg:=big
 have hl:=h.1.2
 refine J4 (show Wp (wF [some (.str z)]) G _ from ?_)
 unfold wF
 refine o9<| FL<| j9 rfl rfl<| (AO h.1.lx).mono ?_
 rintro _ G1 ⟨rfl,a1⟩
 refine⟨rfl,m8<| y3 rfl<| (bA (by lia)).mpr<| d7 rfl<| cH.mpr<| t8 ⟨?_,a1⟩⟩
 rw[decide_eq_true (by have:=h.2;lia)]
theorem Vz(h:Nm p.1):Wp (MC [pvD p]) G λx G'=>x= .bl true/\Ap G G':=by
 refine J4 (show Wp (lG [some (pvD p)]) G _ from ?_)
 unfold lG
 exact o9<| DJ rfl<| DJ rfl<| j9 rfl rfl<| (MU h).mono λx G1 q=>t8 q
theorem Dw(e:fs σ G=some (.ok [.ref a,.ref b],G1))(ea:G1[a]? =some (.lst k))(eb:G1[b]? =some (.lst l))(q:R ⟨(k.zip l).map λp=>.tup [p.1,p.2],λG=>ckO a (.lst k) G&&ckO b (.lst l) G⟩ G1):Wp (wC fs σ) G R:=by
 unfold wC
 refine j5.mpr (d7 e ?_)
 show Wp (do let s1 <-(do let o <-O4 a;let l <-DL.listOf o;pure ⟨l,ckO a o⟩:M Src);let s2 <-(do let o <-O4 b;let l <-DL.listOf o;pure ⟨l,ckO b o⟩:M Src);pure ⟨(s1.items.zip s2.items).map λp=>.tup [p.1,p.2],λG=>s1.ck G&&s2.ck G⟩:M Src) G1 R
 exact j5.mpr<| j5.mpr<| O5.mpr ⟨_,ea,j5.mpr<| j7.mpr<| j7.mpr<| j5.mpr<| j5.mpr<| O5.mpr ⟨_,eb,j5.mpr<| j7.mpr<| j7.mpr<| j7.mpr q⟩⟩
theorem NN(hc:ck G=true):∀its u v,(∀d∈its,∃a b:Str,d= .tup [.str a,.str b]/\nlt a b)->M9 (A5 2 (W9 (y0 0) (W9 (y0 1) (S4)))) O7 (c7 ltD (b8 0) (b8 1)) ck its [u,v] G=some (.ok (its.map λ_=>.bl true),G)
 |[],u,v,_=>R8 (W8.mpr ⟨hc,rfl,rfl⟩)
 |d::r,u,v,h=>by
   obtain⟨a,b,rfl,hl⟩:=h d (zt ..)
   refine R8 (X3.mpr ⟨hc,d7 rfl<| d7 rfl ?_⟩)
   rw[if_pos rfl]
   refine o4 rfl rfl<| KN.mpr ?_
   rw[decide_eq_true hl]
   exact d7 (NN hc r _ _ λd hd=>h d (zn _ hd)) ⟨rfl,rfl⟩
theorem Gk{ws:List Str}(h:ws.Pairwise nlt)(hx:x∈ws.zip (ws.drop 1)):nlt x.1 x.2:=by
 obtain⟨i,hi⟩:=zN.mp hx
 obtain⟨e1,e2⟩:=jJ.mp hi
 rw[List.getElem?_drop]at e2
 obtain⟨h1,e1⟩:=zy.mp e1
 obtain⟨h2,e2⟩:=zy.mp e2
 rw[<-e1,<-e2]
 exact Zi.mp h i (1+i) h1 h2 (by lia)
theorem MZ{ws:List Str}(e:G[p]? =some (.lst (ws.map D.str)))(hl:ws.length<=1000)(h:ws.Pairwise nlt):Wp (pG [.ref p]) G λx G'=>x= .bl true/\Ap G G':=by
 have bg:=big
 refine J4 (show Wp (dF [some (.ref p)]) G _ from ?_)
 unfold dF
 have s1:d0 (b8 0) (d0 (R1 (b8 0) (S8 (cE (.int 1))) (R9)) g0) [some (.ref p)] G=some (.ok [.ref p,.ref G.length],G++[.lst ((ws.map D.str).drop 1)]):=by
  obtain⟨a,G',e1,rfl,rfl⟩:=(show Wp (d0 (b8 0) (d0 (R1 (b8 0) (S8 (cE (.int 1))) (R9)) g0) [some (.ref p)]) G λds G'=>ds= [.ref p,.ref G.length]/\G'=G++[.lst ((ws.map D.str).drop 1)] from
   K5 rfl<| m7<| TK.mpr<| d7 rfl<| d7 rfl<| d7 rfl<| (Fw e).mpr<| m5.mpr ⟨rfl,by rw[Cm]⟩)
  exact e1
 have ln:(((ws.map D.str).zip ((ws.map D.str).drop 1)).map λp=>D.tup [p.1,p.2]).length<=1000:=by rw[zc,ZG,zc];lia
 refine o9<| M8<| m7<| wp_comp.mpr<| Dw s1 (V0 e) j8 ⟨zI ln (by lia),d7 (NN (by show (ckO p _ _&&ckO G.length _ _)=true;rw[P8 (V0 e),P8 j8];rfl) _ none none λd hd=>?_)<| m5.mpr<| (bC j8).mpr<| t8<| by rw[jS.mpr λ_ _=>rfl];exact⟨rfl,Ap.one.trans Ap.one⟩⟩
 obtain⟨⟨a,b⟩,hab,rfl⟩:=zG.mp hd
 rw[<-Jc,List.zip_map]at hab
 obtain⟨⟨x,y⟩,hxy,e⟩:=zG.mp hab
 cases e
 exact⟨x,y,rfl,Gk h hxy⟩
theorem QP:∀(ps:List (Str×D)) u G,(∀p∈ps,Nm p.1)->Wp (M9 (y0 0) O7 (x0 (fnX 1 MC) (d0 (b8 0) g0)) (λ_=>true) (ps.map pvD) [u]) G λys G'=>ys=ps.map (λ_=>.bl true)/\Ap G G'
 |[],u,G,_=>W8.mpr ⟨rfl,rfl,Ap.refl⟩
 |p::r,u,G,h=>by
   refine X3.mpr ⟨rfl,d7 rfl<| d7 rfl ?_⟩
   rw[if_pos rfl]
   refine j9 rfl rfl<| (Vz (h p (zt ..))).mono ?_
   rintro _ G1 ⟨rfl,a1⟩
   refine(QP r _ G1 λq hq=>h q (zn _ hq)).mono ?_
   rintro _ G2 ⟨rfl,a2⟩
   exact⟨rfl,a1.trans a2⟩
theorem sS{ps:List (Str×D)}(hl:ps.length<=1000):Wp (oG [.tup (ps.map pvD)]) G λx G'=>∃p,x= .ref p/\G'[p]? =some (.lst ((ps.map (·.1)).map D.str))/\Ap G G':=by
 refine J4 (show Wp (qF [some (.tup (ps.map pvD))]) _ _ from ?_)
 unfold qF
 exact o9<| Q6 rfl (by rw[zc];lia)<| d7 (KD ps none G)<| t8 ⟨_,rfl,j8,Ap.one⟩
theorem SR(hw:w<=1000)(h:VD w k d v):Wp (HG [d]) G λy G'=>y= .bl true/\Ap G G':=by
 rcases h with _|hz|_|⟨hl,h⟩|⟨hl,hn,hx,h,hq⟩
 ·exact c5 rfl ⟨rfl,Ap.refl⟩
 · rename_i z
   refine J4 (show Wp (HB [some (.str z)]) G _ from ?_)
   unfold HB
   exact d8.mpr<| F0 rfl<| j0.mpr<| d8.mpr<| N0 rfl<| o9<| j9 rfl rfl<| (AO hz).mono λx G1 q=>t8 q
 ·exact c5 rfl ⟨rfl,Ap.refl⟩
 ·exact c5 rfl ⟨rfl,Ap.refl⟩
 · rename_i k ps q f
   refine J4 (show Wp (HB [some (.tup [.str P4,.tup (ps.map pvD)])]) G _ from ?_)
   unfold HB
   refine d8.mpr<| F0 rfl<| j0.mpr<| d8.mpr<| F0 rfl<| j0.mpr<| d8.mpr<| N0 rfl<| o9<| FL<| M8<| m7<| Q6 rfl (by rw[zc];lia)<| (QP ps none G hx).mono ?_
   rintro _ G1 ⟨rfl,a1⟩
   refine m5.mpr<| (bC j8).mpr ⟨by rw[jS.mpr λ_ _=>rfl],?_⟩
   refine M8<| m7<| j9 rfl rfl<| (sS (by lia)).mono ?_
   rintro _ G2 ⟨p,rfl,e1,a2⟩
   exact m5.mpr<| U8.mpr ⟨rfl,(MZ e1 (by rw[zc];lia) hn).mono λx G2 q=>t8 ⟨q.1,a1.trans (Ap.one.trans (a2.trans q.2))⟩⟩
theorem KQ:∀ps:List (Str×D),szL (ps.map (·.2))<=szL (ps.map pvD)
 |[]=>zo _
 |p::r=>by
   have:=KQ r
   simp only[zL,szL,pvD,szD]
   lia
theorem wb(hw:w<=1000)(h:VD w k d v):Wp (AG [d]) G λy G'=>∃q ks,y= .ref q/\G'[q]? =some (.lst ks)/\(∀d∈ks,∃k v,VD w k d v)/\szL ks<szD d/\Ap G G':=by
 have bg:=big
 rcases h with _|hz|_|⟨hl,h⟩|⟨hl,hn,hx,h,hq⟩
 ·exact c5 rfl ⟨_, [],rfl,j8,λ_ h=>(nomatch h),by simp[szL,szD],Ap.one⟩
 ·exact c5 rfl ⟨_, [],rfl,j8,λ_ h=>(nomatch h),by simp[szL,szD],Ap.one⟩
 ·exact c5 rfl ⟨_, [],rfl,j8,λ_ h=>(nomatch h),by simp[szL,szD],Ap.one⟩
 · rename_i k ds f
   exact c5 rfl ⟨_,ds,rfl,j8,λd hd=>(zN.mp hd).elim λi hi=>⟨k,_,h i d hi⟩,by simp only[szD,szL];lia,Ap.one⟩
 · rename_i k ps q f
   refine J4 (show Wp (VF [some (.tup [.str P4,.tup (ps.map pvD)])]) G _ from ?_)
   unfold VF
   exact d8.mpr<| F0 rfl<| j0.mpr<| d8.mpr<| F0 rfl<| j0.mpr<| o9<| Q6 rfl (by rw[zc];lia)<| d7 (HE ps none G)<| t8 ⟨_,_,rfl,j8,λd hd=>by
    obtain⟨p,hp,rfl⟩:=zG.mp hd
    exact⟨k,_,h p hp⟩,by have:=KQ ps;simp only[szD,szL];lia,Ap.one⟩
def szB(w:Nat):Nat->Nat
 |0=>1
 |k+1=>3+w*(2+szB w k)
theorem IJ(w k:Nat):1<=szB w k:=by
 cases k<;>unfold szB<;>lia
theorem EJ:∀l:List D,(∀d∈l,szD d<=B)->szL l<=l.length*B
 |[],_=>by simp[szL]
 |d::r,h=>by
   have h1:=h d (zt ..)
   have h2:=EJ r λx hx=>h x (zn _ hx)
   rw[zM,Nat.add_mul,Nat.one_mul]
   unfold szL
   lia
theorem PV(h:VD w k d v):szD d<=szB w k:=by
 induction h with
 |num=>simpa [szD]using IJ w _
 |txt h=>simpa [szD]using IJ w _
 |tru=>simpa [szD]using IJ w _
 |lst hl _ ih=>
   rename_i k ds f h
   have h1:=EJ ds λd hd=>(zN.mp hd).elim λi hi=>ih i d hi
   have h2:ds.length*szB w k<=w*(2+szB w k):=Nat.mul_le_mul hl (by lia)
   simp only[szD,szL,szB]
   lia
 |rcd hl hn hx _ hq ih=>
   rename_i k ps q f h
   have h1:=EJ (ps.map pvD) (B:=2+szB w k) λd hd=>by
    obtain⟨p,hp,rfl⟩:=zG.mp hd
    have:=ih p hp
    simp only[pvD,szD,szL]
    lia
   rw[zc]at h1
   have h2:ps.length*(2+szB w k)<=w*(2+szB w k):=Nat.mul_le_mul_right _ hl
   simp only[szD,szL,szB]
   lia
theorem LK(hw:w<=1000)(hp:G0.length<=p):∀fuel l u G,szL l<fuel->fuel<=1000000->(∀d∈l,∃k v,VD w k d v)->G[p]? =some (.lst l)->Gr G0 G->Wp (W0 fuel (J8 (b8 1)) VL [x,some (.ref p),u]) G λfl G'=>(∃u,fl= .nx [x,some (.ref p),u])/\Gr G0 G'
 |0,l,u,G,h,_,_,_,_=>by lia
 |fuel+1,l,u,G,h,hf,hv,e,gr=>by
   have bg:=big
   refine oN.mpr<| X4.mpr<| d7 rfl<| (Rz e).mpr ?_
   rcases Jx l with rfl|⟨l,d,rfl⟩
   · rw[show (!([]:List D).isEmpty)=false from rfl,if_neg (by decide)]
     exact⟨⟨u,rfl⟩,gr⟩
   rw[ZL]at e h hv
   rw[ZL,show (!(l++[d]).isEmpty)=true by simp,if_pos rfl]
   obtain⟨k,v,hd⟩:=hv d (by simp)
   unfold VL
   refine d8.mpr<| K6<| E6.mpr<| d7 rfl<| (L9 e).mpr<| m5.mpr<| (LP e).mpr ?_
   refine d8.mpr<| EW<| Cp<| j9 rfl rfl<| (SR hw hd).mono ?_
   rintro _ G1 ⟨rfl,a1⟩
   refine⟨rfl,rfl,j0.mpr ?_⟩
   have e1:G1[p]? =some (.lst l):=a1.at (zX (lt_of_get e))
   refine NC.mpr<| E6.mpr<| d7 rfl<| (L9 e1).mpr<| m7<| j9 rfl rfl<| (wb hw hd).mono ?_
   rintro _ G2 ⟨q,ks,rfl,e2,hk,hs,a2⟩
   have e3:=a2.at e1
   have s0:=gK l [d]
   simp only[szL]at s0
   have s1:=gK l ks
   have s2:=lL (l++ks)
   rw[zA]at s2
   refine m5.mpr<| (qX e3 e2 (by lia)).mpr ?_
   refine LK hw hp fuel (l++ks) _ _ (by lia) (by lia) (λy hy=>?_) (zX (lt_of_get e3)) ?_
   · rcases zJ.mp hy with hy|hy
     ·exact hv y (by simp[hy])
     ·exact hk y hy
   ·exact Gr.set (((gr.set hp).trans a1.gr).trans a2.gr) hp
theorem BT:UF=j6 (v8 (T7 (d0 (b8 0) g0)) (y0 1)) (j6 (bB (J8 (b8 1)) VL) (t6 (cE (.bl true)))):=rfl
theorem hU(hw:w<=1000)(h:VD w k d v)(hs:szB w k<1000000):Wp (ND [d]) G λy G'=>y= .bl true/\Gr G G':=by
 refine J4 (show Wp (UF [some d,none,none]) G _ from ?_)
 rw[BT]
 have hz:=PV h
 have lp:=LK (x:=some d) hw (zo _) (szL [d]+1) [d] none (G++[DO.lst [d]]) (xP _) (by simp only[szL];lia) (λy hy=>by rw[zk.mp hy];exact⟨k,v,h⟩) j8 Gr.app
 refine J6 (X2:= [some d,some (.ref G.length),none]) rfl<| d8.mpr<| wM<| lp.mono ?_
 rintro _ G1 ⟨⟨u,rfl⟩,g1⟩
 exact o9<| A3.mpr<| t8 ⟨rfl,g1⟩
def D2:D->Int
 | .bl _=>2
 | .int _=>0
 | .str _=>1
 | .tup (.str w::_)=>if w==P4 then 4 else 3
 |_=>0
theorem NH(h:VD w k d v):Wp (QB [d]) G λy G'=>y= .int (D2 d)/\Ap G G':=by
 rcases h with _|hz|_|⟨hl,h⟩|⟨hl,hn,hx,h,hq⟩
 ·exact c5 rfl ⟨rfl,Ap.refl⟩
 ·exact c5 rfl ⟨rfl,Ap.refl⟩
 ·exact c5 rfl ⟨rfl,Ap.refl⟩
 · rename_i k ds f
   refine J4 (show Wp (uC [some (.tup [.str r6,.tup ds])]) G _ from ?_)
   unfold uC
   exact d8.mpr<| F0 rfl<| j0.mpr<| d8.mpr<| F0 rfl<| j0.mpr<| d8.mpr<| F0 rfl<| j0.mpr<| o9<| m8<| W3.mpr<| d7 rfl ⟨sz,d7 rfl<| (E5 j8).mpr ⟨_,rfl,t8 ⟨rfl,Ap.one⟩⟩⟩
 · rename_i k ps q f
   refine J4 (show Wp (uC [some (.tup [.str P4,.tup (ps.map pvD)])]) G _ from ?_)
   unfold uC
   exact d8.mpr<| F0 rfl<| j0.mpr<| d8.mpr<| F0 rfl<| j0.mpr<| d8.mpr<| F0 rfl<| j0.mpr<| o9<| m8<| W3.mpr<| d7 rfl ⟨sz,d7 rfl<| (E5 j8).mpr ⟨_,rfl,t8 ⟨rfl,Ap.one⟩⟩⟩
def Ans(P:Prop)(G:DH)(y:D)(G':DH):Prop:=Ap G G'/\∃b:Bool,y= .bl b/\(b=true->P)
inductive Row(G:DH)(ds:List D):D->Prop
 |tup:Row G ds (.tup ds)
 |lst (p:Nat) (e:G[p]? =some (.lst ds)):Row G ds (.ref p)
theorem Row.ap(h:Row G ds A)(a:Ap G G'):Row G' ds A:=by
 rcases h with _|⟨p,e⟩
 ·exact .tup
 ·exact .lst p (a.at e)
theorem Row.ix(h:Row G ds A){i:Nat}(e:ds[i]? =some d)(q:Q d G):Wp (ixD A (.int (i:Int))) G Q:=by
 rcases h with _|⟨p,e'⟩
 ·exact ix_tup.mpr ⟨d,atI_nat e,q⟩
 ·exact(QD e' e).mpr q
theorem Row.len(h:Row G ds A)(q:Q (.int (ds.length:Int)) G):Wp (V9 [A]) G Q:=by
 rcases h with _|⟨p,e'⟩
 ·exact d7 rfl q
 ·exact(NF e').mpr q
theorem rX:K8 R=j6 (S1 (T4 (d0 (x0 V9 (d0 (b8 0) g0)) g0)) (y0 2) (AB R)) (t6 (cE (.bl false))):=rfl
section
variable{R:List D->M D}{P:Prop}{ds es:List D}{A B:D}
theorem MM(h:∀(i:Nat) d e,ds[i]? =some d->es[i]? =some e->(∀G,Wp (K9 R [d,e]) G (Ans P G))/\∀G,Wp (K9 R [e,d]) G (Ans True G)):∀(ks:List Nat) u G,(∀i∈ks,i<ds.length/\i<es.length)->Row G ds A->Row G es B->Wp (H0 (y0 2) (AB R) (λ_=>true) (ks.map λi:Nat=>.int (i:Int)) [some A,some B,u]) G λfl G'=>Ap G G'/\((∃b,fl= .rt (.bl b)/\(b=true->P))\/∃u,fl= .nx [some A,some B,u])
 |[],u,G,_,_,_=>E7.mpr ⟨rfl,Ap.refl,.inr ⟨u,rfl⟩⟩
 |i::ks,u,G,hk,ra,rb=>by
   obtain⟨h1,h2⟩:=hk i (zt ..)
   have e1:=ze h1
   have e2:=ze h2
   obtain⟨w1,w2⟩:=h i _ _ e1 e2
   refine P7.mpr ⟨rfl,O1.mpr ?_⟩
   unfold AB
   refine d8.mpr<| Q0<| X4.mpr<| M8<| m7<| o4 rfl rfl<| ra.ix e1<| m7<| o4 rfl rfl<| rb.ix e2<| m5.mpr<| U8.mpr ⟨rfl,(w1 G).mono ?_⟩
   rintro _ G1 ⟨a1,b,rfl,hb⟩
   refine R6.mpr ⟨λht=>o9<| A3.mpr ⟨a1,.inl ⟨true,rfl,λ_=>hb ht⟩⟩,λ_=>j0.mpr ?_⟩
   refine Q0<| X4.mpr<| M8<| m7<| o4 rfl rfl<| (rb.ap a1).ix e2<| m7<| o4 rfl rfl<| (ra.ap a1).ix e1<| m5.mpr<| U8.mpr ⟨rfl,(w2 G1).mono ?_⟩
   rintro _ G2 ⟨a2,b,rfl,_⟩
   refine R6.mpr ⟨λht=>o9<| A3.mpr ⟨a1.trans a2,.inl ⟨false,rfl,λz=>(nomatch z)⟩⟩,λ_=>j0.mpr ?_⟩
   exact(MM h ks _ G2 (λj hj=>hk j (zn _ hj)) (ra.ap (a1.trans a2)) (rb.ap (a1.trans a2))).mono λfl G3 q=>⟨(a1.trans a2).trans q.1,q.2⟩
theorem eM(hl:ds.length=es.length)(hb:ds.length<=1000)(h:∀(i:Nat) d e,ds[i]? =some d->es[i]? =some e->(∀G,Wp (K9 R [d,e]) G (Ans P G))/\∀G,Wp (K9 R [e,d]) G (Ans True G))(ra:Row G ds A)(rb:Row G es B):Wp (J3 3 (K8 R) [A,B]) G (Ans P G):=by
 have bg:=big
 refine J4 (show Wp (K8 R [some A,some B,none]) G _ from ?_)
 rw[rX]
 refine d8.mpr<| A7.mpr<| rng1.mpr<| m7<| y3 rfl<| ra.len<| m5.mpr<| (rng1_int ⟨by lia,by lia⟩).mpr ?_
 have er:K3 0 ((ds.length:Nat):Int).toNat= (jr ds.length).map λi:Nat=>D.int (i:Int):=by
  unfold K3
  rw[jX]
  exact List.map_congr_left λi _=>by rw[YO]
 rw[er]
 refine(MM h (jr ds.length) none G (λi hi=>by have:=xw.mp hi;lia) ra rb).mono ?_
 rintro _ G1 ⟨a1,⟨b,rfl,hb⟩|⟨u,rfl⟩⟩
 ·exact t8 ⟨a1,b,rfl,hb⟩
 ·exact o9<| A3.mpr<| t8 ⟨a1,false,rfl,λz=>(nomatch z)⟩
end
theorem NW:ltN 40 G (.tup [.int a,.str p]) (.tup [.int c,.str q])=some (if a=c then (if p=q then false else decide (tl p<tl q))else decide (a<c)):=by
 rw[OE]
 show ltL (eqN 39 G) (ltN 39 G) [.int a,.str p] [.int c,.str q]=_
 have e:eqN 39 G (.int a) (.int c)=some (decide (a=c)):=rfl
 have e2:eqN 39 G (.str p) (.str q)=some (p==q):=rfl
 unfold ltL
 rw[e]
 by_cases h:a=c
 · rw[decide_eq_true h,if_pos h]
   dsimp only
   unfold ltL
   rw[e2]
   by_cases k:p=q
   ·rw[if_pos k,show (p==q)=true from beq_iff_eq.mpr k];rfl
   ·rw[if_neg k,show (p==q)=false from beq_false_of_ne k];rfl
 ·rw[decide_eq_false h,if_neg h];rfl
theorem QL:∀ws ys:List Str,∃k,ltL (eqN (n+1) G) (ltN (n+1) G) (ws.map D.str) (ys.map D.str)=some k
 |[], []=>⟨_,rfl⟩
 |[],_::_=>⟨_,rfl⟩
 |_::_, []=>⟨_,rfl⟩
 |a::ws,b::ys=>by
   rw[zL,zL]
   unfold ltL
   rw[show eqN (n+1) G (.str a) (.str b)=some (a==b)from rfl]
   rcases a==b with _|_
   ·exact⟨_,rfl⟩
   ·exact QL ws ys
section
variable{p q:Nat}{ws ys:List Str}{G:DH}
theorem fX(e1:G[p]? =some (.lst (ws.map D.str)))(e2:G[q]? =some (.lst (ys.map D.str))):∃k,ltN 40 G (.ref p) (.ref q)=some k:=by
 rw[OE]
 simp only[C0,e1,e2]
 exact QL ws ys
theorem vq(e1:G[p]? =some (.lst (ws.map D.str)))(e2:G[q]? =some (.lst (ys.map D.str))):Z1 40 G (.ref p) (.ref q) (ws=ys):=by
 obtain⟨k,e,i⟩:=V8.map bE ws ys
 have hl:(ws.map D.str).length≠(ys.map D.str).length->k=false:=λh=>by
  rcases k with _|_
  ·rfl
  ·exact absurd (congrArg (λl:List Str=>(l.map D.str).length) (i.mp rfl)) h
 refine⟨k,?_,i⟩
 rw[FB]
 simp only[C0,e1,e2]
 rw[if_pos trivial]
 split
 ·rename_i h;rw[hl h.2]
 ·exact e
end
def PW(P:Prop)(R:List D->M D)(ds es:List D):Prop:=∀(i:Nat) d e,ds[i]? =some d->es[i]? =some e->(∀G,Wp (K9 R [d,e]) G (Ans P G))/\∀G,Wp (K9 R [e,d]) G (Ans True G)
inductive AhH(P:Prop)(R:List D->M D):D->D->Prop
 |kind {d e:D} (h:D2 d≠D2 e) (p:D2 d<D2 e->P):AhH P R d e
 |num {i m:Int} (p:ahI i m->P):AhH P R (.int i) (.int m)
 |txt {y z:Str} (p:slt (tl y) (tl z)->P):AhH P R (.str y) (.str z)
 |tru {b m:Bool} (p:m=true->b=false->P):AhH P R (.bl b) (.bl m)
 |lst {ds es:List D} (p:ds.length<es.length->P) (h:ds.length=es.length->PW P R ds es):AhH P R (.tup [.str r6,.tup ds]) (.tup [.str r6,.tup es])
 |rcd {ps qs:List (Str×D)} (p:ps.length<qs.length->P) (h:ps.length=qs.length->(ps.map (·.1)≠qs.map (·.1)->P)/\(ps.map (·.1)=qs.map (·.1)->PW P R (ps.map (·.2)) (qs.map (·.2)))):AhH P R (.tup [.str P4,.tup (ps.map pvD)]) (.tup [.str P4,.tup (qs.map pvD)])
theorem mJ(hw:w<=1000)(hd:VD w k d v)(he:VD w k' e u)(h:AhH P R d e):Wp (K9 (J3 3 (K8 R)) [d,e]) G (Ans P G):=by
 have bg:=big
 have pk:D2 d<D2 e->P:=by
  rcases h with⟨_,p⟩|_|_|_|_|_
  ·exact p
  all_goals exact λz=>absurd z (Int.lt_irrefl _)
 refine J4 (show Wp (uE (J3 3 (K8 R)) [some d,some e,none,none,none]) G _ from ?_)
 unfold uE
 refine d8.mpr<| K6<| j9 rfl rfl<| (NH hd).mono ?_
 rintro _ G1 ⟨rfl,a1⟩
 refine d8.mpr<| Q0<| v9<| m8<| d7 rfl<| j9 rfl rfl<| (NH he).mono ?_
 rintro _ G2 ⟨rfl,a2⟩
 refine AK.mpr ⟨_,rfl,λ_=>?_,λhk=>j0.mpr ?_⟩
 · refine o9<| m8<| d7 rfl<| j9 rfl rfl<| (NH he).mono ?_
   rintro _ G3 ⟨rfl,a3⟩
   exact B9.mpr<| t8 ⟨a1.trans (a2.trans a3),_,rfl,λz=>pk (of_decide_eq_true z)⟩
 have ek:D2 d=D2 e:=by
  rcases e0:decide (D2 d=D2 e)with _|_
  ·rw[e0]at hk;cases hk
  ·exact of_decide_eq_true e0
 have a12:=a1.trans a2
 clear pk
 rcases h with⟨hne,_⟩|p|p|p|⟨p,h⟩|⟨p,h⟩
 ·exact absurd ek hne
 · rename_i i m
   refine d8.mpr<| N0 rfl<| o9 ?_
   have l1:c7 ltD (x0 C3 (d0 (b8 0) g0)) (x0 C3 (d0 (b8 1) g0)) [some (.int i),some (.int m),some (.int (D2 (.int i))),none,none] G2=some (.ok (.bl (decide (A0 i<A0 m))),G2):=rfl
   have l2:c7 eqD (x0 C3 (d0 (b8 0) g0)) (x0 C3 (d0 (b8 1) g0)) [some (.int i),some (.int m),some (.int (D2 (.int i))),none,none] G2=some (.ok (.bl (decide (A0 i=A0 m))),G2):=rfl
   have l3:c7 gtD (b8 0) (b8 1) [some (.int i),some (.int m),some (.int (D2 (.int i))),none,none] G2=some (.ok (.bl (decide (m<i))),G2):=rfl
   rcases e0:decide (A0 i<A0 m)with _|_
   · rw[e0]at l1
     refine d7 (pH l1 (bM l2 l3))<| t8 ⟨a12,_,rfl,λz=>p (.inr ?_)⟩
     obtain⟨z1,z2⟩:=ZU.mp z
     exact⟨of_decide_eq_true z1,of_decide_eq_true z2⟩
   · rw[e0]at l1
     exact d7 (qJ l1)<| t8 ⟨a12,_,rfl,λ_=>p (.inl (of_decide_eq_true e0))⟩
 · rename_i y z
   have ly:y.length<=2000:=by cases hd with|txt h=>exact h.2
   have lz:z.length<=2000:=by cases he with|txt h=>exact h.2
   refine d8.mpr<| F0 rfl<| j0.mpr<| d8.mpr<| N0 rfl<| o9<| m8<| N5.mpr<| m7<| y3 rfl<| (bA (by lia)).mpr<| d7 rfl ⟨sz,N5.mpr<| m7<| y3 rfl<| (bA (by lia)).mpr<| d7 rfl ⟨sz,RC.mpr ⟨_,NW,t8 ⟨a12,_,rfl,λhb=>p ?_⟩⟩⟩⟩
   unfold slt
   rw[<-r8,<-r8]
   by_cases e1:(y.length:Int)=z.length
   · rw[if_pos e1]at hb
     split at hb
     ·cases hb
     ·exact .inr ⟨by lia,of_decide_eq_true hb⟩
   · rw[if_neg e1]at hb
     exact .inl (by have:=of_decide_eq_true hb;lia)
 · rename_i b m
   refine d8.mpr<| F0 rfl<| j0.mpr<| d8.mpr<| F0 rfl<| j0.mpr<| d8.mpr<| N0 rfl<| o9<| d7 (a:=.bl (m&&!b)) (by cases m<;>cases b<;>rfl)<| t8 ⟨a12,_,rfl,λz=>?_⟩
   obtain⟨z1,z2⟩:=ZU.mp z
   exact p z1 (by cases b<;>first|rfl|cases z2)
 · rename_i ds es
   have ld:ds.length<=w:=by cases hd with|lst h _=>exact h
   refine d8.mpr<| F0 rfl<| j0.mpr<| d8.mpr<| F0 rfl<| j0.mpr<| d8.mpr<| F0 rfl<| j0.mpr<| d8.mpr<| Q0<| v9<| o4 rfl rfl<| AK.mpr ⟨_,rfl,λ_=>?_,λhz=>j0.mpr ?_⟩
   ·exact o9<| o4 rfl rfl<| B9.mpr<| t8 ⟨a12,_,rfl,λz=>p (by have:=of_decide_eq_true z;lia)⟩
   · have hl:ds.length=es.length:=by
      rcases e0:decide ((ds.length:Int)=es.length)with _|_
      ·rw[e0]at hz;cases hz
      ·have:=of_decide_eq_true e0;lia
     exact d8.mpr<| N0 rfl<| o9<| j9 rfl rfl<| (eM hl (by lia) (h hl) .tup .tup).mono λx G3 q=>t8 ⟨a12.trans q.1,q.2⟩
 · rename_i ps qs
   have ld:ps.length<=w:=by
    generalize hX:D.tup [.str P4,.tup (ps.map pvD)]=X at hd
    cases hd with
    |rcd h _ _ _ _=>
      have e1:=congrArg xl (D.tup.inj (jI (jI (D.tup.inj hX)).2).1)
      rw[zc,zc]at e1
      lia
    |_=>cases hX
   refine d8.mpr<| F0 rfl<| j0.mpr<| d8.mpr<| F0 rfl<| j0.mpr<| d8.mpr<| F0 rfl<| j0.mpr<| d8.mpr<| Q0<| v9<| o4 rfl rfl<| AK.mpr ⟨_,rfl,λ_=>?_,λhz=>j0.mpr ?_⟩
   ·exact o9<| o4 rfl rfl<| B9.mpr<| t8 ⟨a12,_,rfl,λz=>p (by have:=of_decide_eq_true z;rw[zc,zc]at this;lia)⟩
   have hl:ps.length=qs.length:=by
    rw[zc,zc]at hz
    rcases e0:decide ((ps.length:Int)=qs.length)with _|_
    ·rw[e0]at hz;cases hz
    ·have:=of_decide_eq_true e0;lia
   have bp:(ps.map pvD).length<=10000:=by rw[zc];lia
   have bq:(qs.map pvD).length<=10000:=by rw[zc];lia
   obtain⟨hne,heq⟩:=h hl
   refine d8.mpr<| F0 rfl<| j0.mpr<| d8.mpr<| K6<| Q6 rfl bp<| d7 (KD ps none G2) ?_
   refine d8.mpr<| K6<| Q6 rfl bq<| d7 (KD qs none _) ?_
   have e1:(G2++[DO.lst ((ps.map (·.1)).map D.str)]++[DO.lst ((qs.map (·.1)).map D.str)])[G2.length]? =some (.lst ((ps.map (·.1)).map D.str)):=V0 j8
   have e2:(G2++[DO.lst ((ps.map (·.1)).map D.str)]++[DO.lst ((qs.map (·.1)).map D.str)])[(G2++[DO.lst ((ps.map (·.1)).map D.str)]).length]? =some (.lst ((qs.map (·.1)).map D.str)):=j8
   have a3:Ap G (G2++[DO.lst ((ps.map (·.1)).map D.str)]++[DO.lst ((qs.map (·.1)).map D.str)]):=a12.trans (Ap.one.trans Ap.one)
   generalize (G2++[DO.lst ((ps.map (·.1)).map D.str)]).length=q at e2
   generalize G2.length=r at e1
   generalize G2++[DO.lst ((ps.map (·.1)).map D.str)]++[DO.lst ((qs.map (·.1)).map D.str)]=G3 at e1 e2 a3
   obtain⟨t,et,it⟩:=vq e1 e2
   refine d8.mpr<| Q0<| v9<| o4 rfl rfl<| t4.mpr ⟨t,et,_,rfl,λht=>?_,λht=>j0.mpr ?_⟩
   · obtain⟨k,ek⟩:=fX e1 e2
     exact o9<| o4 rfl rfl<| RC.mpr ⟨k,ek,t8 ⟨a3,_,rfl,λ_=>hne λen=>by rw[it.mpr en]at ht;cases ht⟩⟩
   have en:ps.map (·.1)=qs.map (·.1):=it.mp (by cases t<;>first|rfl|cases ht)
   refine o9<| M8<| m7<| Q6 rfl bp<| d7 (HE ps none G3)<| m7<| Q6 rfl bq<| d7 (HE qs none _)<| m5.mpr<| U8.mpr ⟨rfl,(eM (by rw[zc,zc];exact hl) (by rw[zc];lia) (heq en) (.lst _ (V0 j8)) (.lst _ j8)).mono λx G4 q=>t8 ⟨a3.trans ((Ap.one.trans Ap.one).trans q.1),q.2⟩⟩
theorem kne{a b:Int}(h:a=b)(h2:decide (a=b)=false):False:=by rw[decide_eq_true h]at h2;cases h2
theorem kd(a b:Int)(ha:D2 d=a)(hb:D2 e=b)(h:b<a):AhH P R d e:=.kind (by rw[ha,hb];lia) (λz=>by rw[ha,hb]at z;lia)
theorem cC(hw:w<=1000):∀k N d v e u,k<N->VD w k d v->VD w k e u->∀G,Wp (K9 (Q7 N) [d,e]) G (Ans True G)
 |k,0,d,v,e,u,hk,_,_=>by lia
 |k,N+1,d,v,e,u,hk,hd,he=>λG=>by
   refine mJ hw hd he ?_
   by_cases ek:D2 d=D2 e
   · rcases hd with _|hz|_|⟨hl,h⟩|⟨hl,hn,hx,h,hq⟩
     · rcases he with _|_|_|_|_
       ·exact .num λ_=>trivial
       all_goals exact(kne ek rfl).elim
     · rcases he with _|_|_|_|_
       ·exact(kne ek rfl).elim
       ·exact .txt λ_=>trivial
       all_goals exact(kne ek rfl).elim
     · rcases he with _|_|_|_|_
       ·exact(kne ek rfl).elim
       ·exact(kne ek rfl).elim
       ·exact .tru λ_ _=>trivial
       all_goals exact(kne ek rfl).elim
     · rcases he with _|_|_|⟨_,h'⟩|_
       ·exact(kne ek rfl).elim
       ·exact(kne ek rfl).elim
       ·exact(kne ek rfl).elim
       ·exact .lst (λ_=>trivial) λ_ i d e hd he=>⟨cC hw _ N d _ e _ (by lia) (h i d hd) (h' i e he),cC hw _ N e _ d _ (by lia) (h' i e he) (h i d hd)⟩
       ·exact(kne ek rfl).elim
     · rcases he with _|_|_|_|⟨_,_,_,h',_⟩
       ·exact(kne ek rfl).elim
       ·exact(kne ek rfl).elim
       ·exact(kne ek rfl).elim
       ·exact(kne ek rfl).elim
       · refine .rcd (λ_=>trivial) λ_=>⟨λ_=>trivial,λ_ i d e hd he=>?_⟩
         obtain⟨p,hp,rfl⟩:=zG.mp (js hd)
         obtain⟨q,hq,rfl⟩:=zG.mp (js he)
         exact⟨cC hw _ N _ _ _ _ (by lia) (h p hp) (h' q hq),cC hw _ N _ _ _ _ (by lia) (h' q hq) (h p hp)⟩
   ·exact .kind ek λ_=>trivial
theorem TJ:∀ {a b:List Str},a.Pairwise nlt->b.Pairwise nlt->(∀z∈a,z∈b)->a.Sublist b
 |[],b,_,_,_=>List.nil_sublist _
 |x::a, [],_,_,h=>nomatch h x (zt ..)
 |x::a,y::b,ha,hb,h=>by
   obtain⟨a1,a2⟩:=jf.mp ha
   obtain⟨b1,b2⟩:=jf.mp hb
   by_cases e:x=y
   · subst e
     refine(TJ a2 b2 λz hz=>?_).cons₂ x
     rcases zp.mp (h z (zn _ hz))with k|k
     ·exact absurd (a1 z hz) (by rw[k];exact AA _)
     ·exact k
   · have hx:x∈b:=(zp.mp (h x (zt ..))).resolve_left e
     refine(TJ ha b2 λz hz=>?_).cons y
     rcases zp.mp (h z hz)with k|k
     · rcases zp.mp hz with k2|k2
       ·exact absurd (k2.symm.trans k) e
       ·exact absurd (aJ (b1 x hx) (a1 z k2)) (by rw[k];exact AA _)
     ·exact k
theorem wU:∀r k b,(k::r:List Bool)∈B4->b∈(k::r:List Bool)->k=true->b=false->False:=by
 intro r k b h1 h2 h3 h4
 subst h3 h4
 simp only[B4,zp,zS,or_false]at h1
 rcases h1 with h1|h1|h1|h1
 ·cases h1
 ·cases h1
 ·cases h1;cases (zk.mp h2)
 ·cases h1
theorem tH(hd:VD w k d v)(h:∀i,v= .num i->¬ahI i m):AhH False R d (.int m):=by
 rcases hd with _|_|_|_|_
 ·exact .num (h _ rfl)
 ·exact kd 1 0 rfl rfl (by decide)
 ·exact kd 2 0 rfl rfl (by decide)
 ·exact kd 3 0 rfl rfl (by decide)
 ·exact kd 4 0 rfl rfl (by decide)
theorem BS{ps:List (Str×D)}(h:VD w k (.tup [.str P4,.tup (ps.map pvD)]) v):∃k' q f,k=k'+1/\v= .rcd q f/\(ps.map (·.1)).Pairwise nlt/\(∀p∈ps,VD w k' p.2 (f p.1))/\∀z,q z=true↔z∈ps.map (·.1):=by
 generalize hX:D.tup [.str P4,.tup (ps.map pvD)]=X at h
 cases h with
 |rcd hl hn hx h hq=>
   rename_i k' ps' q f
   have e:=D.tup.inj (jI (jI (D.tup.inj hX)).2).1
   have e2:ps=ps':=List.map_inj_right (λa b h=>bN h) |>.mp e
   subst e2
   exact⟨k',q,f,rfl,rfl,hn,h,hq⟩
 |lst hl h=>exact absurd (D.str.inj (jI (D.tup.inj hX)).1) (by decide)
 |_=>cases hX
theorem Dp(h:VD w k (.tup [.str r6,.tup ds]) v):∃k' f,k=k'+1/\v= .lst ds.length f/\∀i d,ds[i]? =some d->VD w k' d (f i):=by
 generalize hX:D.tup [.str r6,.tup ds]=X at h
 cases h with
 |lst hl h=>
   rename_i k' ds' f
   have e2:ds=ds':=D.tup.inj (jI (jI (D.tup.inj hX)).2).1
   subst e2
   exact⟨k',f,rfl,rfl,h⟩
 |rcd hl hn hx h hq=>exact absurd (D.str.inj (jI (D.tup.inj hX)).1) (by decide)
 |_=>cases hX
theorem sI(hw:w<=1000):∀n k N c x d v u,k<N->Gd n c->IsF n c x->VD w k d v->VD w k x u->inC n c v->∀G,Wp (K9 (Q7 N) [d,x]) G (Ans False G)
 |n,k,0,c,x,d,v,u,hk,_,_,_,_,_=>by lia
 |0,k,N+1,c,x,d,v,u,hk,g,hf,hd,hx,hi=>λG=>by
   refine mJ hw hd hx ?_
   obtain⟨m,rfl,hm⟩:=hf
   exact tH hd λi _=>hm i
 |n+1,k,N+1,c,x,d,v,u,hk,g,hf,hd,hx,hi=>λG=>by
   refine mJ hw hd hx ?_
   rcases c with _|s
   · obtain⟨m,rfl,hm⟩:=hf
     exact tH hd λi _=>hm i
   have hi:x9 (inC n) s v:=hi
   rcases hf with⟨m,a,b⟩|⟨t,n0,tt,a,b⟩|⟨b,r,n0,n1,e⟩|⟨fs,m,es,n0,n1,n2,l,q⟩|⟨fs,m,qs,n0,n1,n2,n3,l,q⟩
   · refine tH hd λi e=>?_
     subst e
     exact b i hi
   · rcases hd with _|hz|_|_|_
     ·exact absurd (show inS s.ns _ from hi) (by rw[n0];exact y8)
     ·exact .txt (b _ hz.1 hi)
     ·exact kd 2 1 rfl rfl (by decide)
     ·exact kd 3 1 rfl rfl (by decide)
     ·exact kd 4 1 rfl rfl (by decide)
   · rcases hd with _|hz|_|_|_
     ·exact absurd (show inS s.ns _ from hi) (by rw[n0];exact y8)
     ·exact absurd (show inT s.b s.ss _ from hi) (by rw[n1.1,n1.2];exact λh=>nomatch h)
     · have hb:=g.1.bs
       have hi:_∈s.bs:=hi
       rw[e]at hb hi
       exact .tru (wU r b _ hb hi)
     ·exact kd 3 2 rfl rfl (by decide)
     ·exact kd 4 2 rfl rfl (by decide)
   · rcases hd with _|hz|_|⟨hl,h⟩|_
     ·exact absurd (show inS s.ns _ from hi) (by rw[n0];exact y8)
     ·exact absurd (show inT s.b s.ss _ from hi) (by rw[n1.1,n1.2];exact λh=>nomatch h)
     ·exact absurd (show _∈s.bs from hi) (by rw[n2];exact λh=>nomatch h)
     · rename_i k ds f _
       have hi:F2 (inC n) s.ls ds.length f:=hi
       rw[l,b9]at hi
       have gl:=g.1.ls fs m l
       obtain⟨k',f',e1,rfl,h'⟩:=Dp hx
       cases e1
       refine .lst (λz=>by have:=q.len;have:=hi.1;lia) λhlen i d e hd he=>?_
       have hif:i<fs.length:=by rw[q.len];exact(zy.mp he).1
       have hin:=hi.2 i (zy.mp hd).1
       rw[P5 hif]at hin
       exact⟨sI hw n k N fs[i] e d _ _ (by lia) (gl.2 _ (jd hif)).1 (q.get (ze hif) he) (h i d hd) (h' i e he) hin,cC hw k N e _ d _ (by lia) (h' i e he) (h i d hd)⟩
     ·exact kd 4 3 rfl rfl (by decide)
   · rcases hd with _|hz|_|_|⟨hl,hn,hx',h,hq⟩
     ·exact absurd (show inS s.ns _ from hi) (by rw[n0];exact y8)
     ·exact absurd (show inT s.b s.ss _ from hi) (by rw[n1.1,n1.2];exact λh=>nomatch h)
     ·exact absurd (show _∈s.bs from hi) (by rw[n2];exact λh=>nomatch h)
     ·exact absurd (show F2 (inC n) s.ls _ _ from hi) (by rw[n3];exact OD)
     · rename_i k ps p f _
       have hi:T2 (inC n) s.rs p f:=hi
       rw[l,X8]at hi
       have gr:=g.1.rs fs m l
       obtain⟨k',p',f',e1,rfl,hn',h',hq'⟩:=BS hx
       cases e1
       have one:∀y∈qs,∃e∈fs,e.2.1=true/\e.1=y.1/\IsF n e.2.2 y.2:=λy hy=>by
        obtain⟨e,he,h1,h2⟩:=q.right hy
        obtain⟨h3,h4⟩:=jN.mp he
        exact⟨e,h3,h4,h1,h2⟩
       have sub:(qs.map (·.1)).Sublist (ps.map (·.1)):=TJ hn' hn λz hz=>by
        obtain⟨y,hy,rfl⟩:=zG.mp hz
        obtain⟨e,he,h1,h2,_⟩:=one y hy
        refine(hq _).mp ?_
        rcases ep:p y.1 with _|_
        · have:=(hi y.1).2 ep
          rw[<-h2,MB gr.2.1 he,h1]at this;cases this
        ·rfl
       have sl:=sub.length_le
       rw[zc,zc]at sl
       refine .rcd (λz=>by lia) λhlen=>?_
       have en:qs.map (·.1)=ps.map (·.1):=sub.eq_of_length (by rw[zc,zc];exact hlen.symm)
       refine⟨λne=>ne en.symm,λ_ i d e hd he=>?_⟩
       rw[zB]at hd he
       rcases hp:ps[i]? with _|y
       ·rw[hp]at hd;cases hd
       rcases hy:qs[i]? with _|y'
       ·rw[hy]at he;cases he
       rw[hp]at hd;cases hd
       rw[hy]at he;cases he
       have e1:y'.1=y.1:=by
        have:=congrArg (λl:List Str=>l[i]?) en
        simp only[zB,hp,hy]at this
        exact jl this
       have my:=js hp
       have my':=js hy
       obtain⟨e,he,h1,h2,h3⟩:=one y' my'
       have hin:=(hi y.1).1 ((hq _).mpr (yj my))
       rw[<-e1,<-h2,MB gr.2.1 he,h2,e1]at hin
       have hv:=h y my
       have hv':=h' y' my'
       exact⟨sI hw n k N e.2.2 _ _ _ _ (by lia) (gr.2.2 e he).1 h3 hv hv' hin,cC hw k N _ _ _ _ (by lia) hv' hv⟩
def V5(d:D):Prop:=∃v,VD 401 5 d v
theorem oU(h:VD w k d v):F7 d .non G=some (.ok (.bl true),G):=by
 rcases h with _|_|_|_|_<;>rfl
theorem pX:WF=j6 (v8 (T7 g0) (y0 2)) (j6 (S1 (T4 (d0 (cE (.int 3)) g0)) (y0 3) NB) (t6 (b8 2))):=rfl
section
variable{r:Nat}{c:CS 4}{G0:DH}
theorem vK(hr:r<G0.length)(g:Gd 4 c)(z:SzC 4 47 c):∀its u v p ds G,Dr G r->G0.length<=G.length->G0.length<=p->G[p]? =some (.lst ds)->ds.length+2*its.length<=100->(∀d∈ds,V5 d)->
 Wp (H0 (y0 3) NB (λ_=>true) its [some (.ref r),some (enC 4 c),some (.ref p),u,v]) G λfl G'=>Fd r G G'/\∃p' ds' u v,fl= .nx [some (.ref r),some (enC 4 c),some (.ref p'),u,v]/\G0.length<=p'/\G'[p']? =some (.lst ds')/\ds'.length<=100/\∀d∈ds',V5 d
 |[],u,v,p,ds,G,h,hg,hp,e,hl,hv=>E7.mpr ⟨rfl,Fd.refl h,p,ds,u,v,rfl,hp,e,by simpa using hl,hv⟩
 |i::its,u,v,p,ds,G,h,hg,hp,e,hl,hv=>by
   have bg:=big
   rw[zM]at hl
   refine P7.mpr ⟨rfl,O1.mpr ?_⟩
   unfold NB
   refine d8.mpr<| K6<| j9 rfl rfl<| (IP 4 60 (by decide) (by decide) c G r h g z).mono ?_
   rintro x G1 ⟨f1,hx⟩
   have e1:=f1.at (by lia) e
   rcases hx with⟨rfl,_⟩|⟨vx,hx⟩
   · refine F0 rfl<| j0.mpr<| (vK hr g z its _ _ p ds G1 f1.2.2 (zI hg f1.1) hp e1 (by lia) hv).mono ?_
     exact λfl G2 q=>⟨f1.trans q.1,q.2⟩
   · refine Q0<| v9<| o4 rfl rfl<| d7 (oU hx) ⟨true,rfl,λ_=>?_,λz=>(nomatch z)⟩
     refine K6<| m8<| d7 rfl<| W3.mpr<| K5 rfl<| m7<| j9 rfl rfl<| (OF (by decide) (by decide) 5 60 (by decide) x vx G1 r f1.2.2 hx).mono ?_
     rintro y G2 ⟨f2,hy⟩
     have e2:=f2.at (by lia) e1
     refine m5.mpr ⟨sz,(HC (V0 e2) j8 (by simp;lia)).mpr ?_⟩
     have f3:Fd r G (G2++[.lst [x,y]]):=(f1.trans f2).trans (Fd.app f2.2.2)
     have f4:Fd r G (G2++[.lst [x,y]]++[.lst (ds++[x,y])]):=f3.trans (Fd.app f3.2.2)
     have l3:G0.length<=(G2++[DO.lst [x,y]]).length:=zI hg f3.1
     refine(vK hr g z its _ _ (G2++[DO.lst [x,y]]).length (ds++[x,y]) _ f4.2.2 (zI hg f4.1) l3 j8 (by simp;lia) λd hd=>?_).mono λfl G5 q=>⟨f4.trans q.1,q.2⟩
     rcases zJ.mp hd with hd|hd
     ·exact hv d hd
     · simp only[zp,zS,or_false]at hd
       rcases hd with rfl|rfl
       ·exact⟨vx,hx.wide (by decide)⟩
       ·exact hy
theorem fO(h:Dr G r)(g:Gd 4 c)(z:SzC 4 47 c):Wp (uD [.ref r,enC 4 c]) G λx G'=>Fd r G G'/\∃p ds,x= .ref p/\G.length<=p/\G'[p]? =some (.lst ds)/\ds.length<=100/\∀d∈ds,V5 d:=by
 refine J4 (show Wp (WF [some (.ref r),some (enC 4 c),none,none,none]) G _ from ?_)
 rw[pX]
 refine J6 (X2:= [some (.ref r),some (enC 4 c),some (.ref G.length),none,none]) rfl ?_
 have f1:Fd r G (G++[.lst []]):=Fd.app h
 refine d8.mpr<| A7.mpr<| rng1.mpr<| K5 rfl<| m5.mpr<| (rng1_int ⟨by decide,by decide⟩).mpr<| (vK h.lt g z (K3 0 (3:Int).toNat) none none G.length [] _ f1.2.2 f1.1 (zo _) j8 (by decide) (λd hd=>nomatch hd)).mono ?_
 rintro _ G2 ⟨f2,p,ds,u,v,rfl,hp,e,hl,hv⟩
 exact o9<| d7 rfl<| t8 ⟨f1.trans f2,p,ds,rfl,hp,e,hl,hv⟩
end
structure LI(ns:List Int)(r:Nat)(G:DH):Prop where
 e0:G[0]? =some (.rol (ns.map D.int))
 d:Dr G r
 ne:r≠0
theorem Gr.fd(g:Gr G G1)(f:Fd r G1 G2)(hl:G.length<=r):Gr G G2:=⟨zI g.1 f.1,λi hi=>by rw[f.2.1 i (by lia) (by have:=g.1;lia)];exact g.2 i hi⟩
theorem LI.gr(h:LI ns r G)(g:Gr G G'):LI ns r G':=⟨g.at h.e0,h.d.elim λl e=>⟨l,g.at e⟩,h.ne⟩
theorem LI.fd(h:LI ns r G)(f:Fd r G G'):LI ns r G':=⟨f.at h.ne.symm h.e0,f.2.2,h.ne⟩
theorem PJ(hn:ns.length<=63)(h:LI ns r0 G)(e:b8 0 σ G=some (.ok (.ref 0),G))(q:∀r G',Dr G' r->Gr G G'->G.length<=r->Q (.ref r) G'):Wp (PU0 σ) G Q:=by
 unfold PU0
 refine M8<| m7<| d7 e<| K5 rfl<| K5 rfl<| K5 rfl<| m5.mpr<| U8.mpr ⟨rfl,(OI (by decide) h.e0 hn).mono ?_⟩
 rintro _ G1 ⟨r,rfl,d,g,l⟩
 exact q r G1 d g l
theorem uY(h:LOk 3 b):DC 4 (some ⟨[],true, [], [],b,none⟩):=
 ⟨⟨⟨⟨λ_ h=>(nomatch h),.nil⟩,.nil,show []∈B4 by decide,h.1,λ_ _ e=>(nomatch e)⟩,λk=>y8 (k (.num 0))⟩,by
  rintro _ ⟨⟩
  exact⟨zY _,zY _,λ_ h=>(nomatch h),h.2,λ_ _ e=>(nomatch e)⟩⟩
theorem Bb(h:ROk 3 b):DC 4 (some ⟨[],true, [], [],none,b⟩):=
 ⟨⟨⟨⟨λ_ h=>(nomatch h),.nil⟩,.nil,show []∈B4 by decide,λ_ _ e=>(nomatch e),h.1⟩,λk=>y8 (k (.num 0))⟩,by
  rintro _ ⟨⟩
  exact⟨zY _,zY _,λ_ h=>(nomatch h),λ_ _ e=>(nomatch e),h.2⟩⟩
def S3(p:Nat)(c:CS 4)(i:Int):DSt:= [some (.ref 0),some (.ref p),some (enC 4 c),some (.int i),none,none,none]
section
variable{ns:List Int}{p:Nat}{c:CS 4}{i:Int}{G:DH}
theorem Pd(hn:ns.length<=63)(h:LI ns p G)(hc:DC 4 c):Wp (W1 (S3 p c i)) G λfl G'=>∃c',fl= .nx (S3 p c' i)/\DC 4 c'/\LI ns p G':=by
 have bg:=big
 refine Q0<| v9<| o4 rfl rfl<| O2.mpr ⟨_,rfl,λ_=>?_,λ_=>j0.mpr ⟨c,rfl,hc,h⟩⟩
 refine K6<| m8<| d7 (a:=.tup [.tup [],J2 true [],.tup []]) rfl<| N5.mpr<| m7<| M8<| m7<| PJ hn h rfl λr G1 d1 g1 l1=>?_
 refine K5 rfl<| m5.mpr<| U8.mpr ⟨rfl,(qL (by decide) (λd' e=>by cases e;exact CF 2 60 (by decide) (by decide)) d1).mono ?_⟩
 rintro _ G2 ⟨f2,b,rfl,hb⟩
 exact K5 rfl<| m5.mpr ⟨sz,(C5 (by simp;lia)).mpr ⟨some ⟨[],true, [], [],b,none⟩,rfl,uY hb,h.gr (g1.fd f2 l1)⟩⟩
theorem LS(hn:ns.length<=63)(h:LI ns p G)(hc:DC 4 c):Wp (W2 (S3 p c i)) G λfl G'=>∃c',fl= .nx (S3 p c' i)/\DC 4 c'/\LI ns p G':=by
 have bg:=big
 refine Q0<| v9<| o4 rfl rfl<| O2.mpr ⟨_,rfl,λ_=>?_,λ_=>j0.mpr ⟨c,rfl,hc,h⟩⟩
 refine K6<| m8<| d7 (a:=.tup [.tup [],J2 true [],.tup [],.non]) rfl<| N5.mpr<| m7<| M8<| m7<| PJ hn h rfl λr G1 d1 g1 l1=>?_
 refine K5 rfl<| m5.mpr<| U8.mpr ⟨rfl,(qO (by decide) (λd' e=>by cases e;exact CF 2 60 (by decide) (by decide)) d1).mono ?_⟩
 rintro _ G2 ⟨f2,b,rfl,hb⟩
 exact m5.mpr ⟨sz,(C5 (by simp;lia)).mpr ⟨some ⟨[],true, [], [],none,b⟩,rfl,Bb hb,h.gr (g1.fd f2 l1)⟩⟩
end
theorem BK(g:Gd 4 c)(z:SzC 4 47 c)(hf:IsF 4 c x)(hx:VD 401 5 x u):∀l t G,(∀d∈l,V5 d)->G[p]? =some (.lst l0)->Wp (H0 (y0 6) LB (ckO p (.lst l0)) l [a0,a1,some (enC 4 c),a3,some x,a5,t]) G λfl G'=>∃t,fl= .nx [a0,a1,some (enC 4 c),a3,some x,a5,t]
 |[],t,G,_,e=>E7.mpr ⟨P8 e,t,rfl⟩
 |d::l,t,G,hv,e=>by
   obtain⟨v,hd⟩:=hv d (zt ..)
   refine P7.mpr ⟨P8 e,O1.mpr ?_⟩
   unfold LB
   refine Q0<| D7<| X4.mpr<| j9 rfl rfl<| (in_at (by decide) 5 60 (by decide) 4 c d v G z g hd).mono ?_
   rintro _ G1 ⟨p1,b,rfl,hb⟩
   refine R6.mpr ⟨λht=>?_,λht=>⟨λq=>(nomatch q),λ_=>j0.mpr<| BK g z hf hx l _ G1 (λd hd=>hv d (zn _ hd)) (p1.at e)⟩⟩
   refine X4.mpr<| j9 rfl rfl<| (sI (by decide) 4 5 60 c x d v u (by decide) g hf hd hx (hb.mp ht) G1).mono ?_
   rintro _ G2 ⟨p2,b2,rfl,hb2⟩
   refine R6.mpr ⟨λht=>(hb2 ht).elim,λ_=>j0.mpr<| BK g z hf hx l _ G2 (λd hd=>hv d (zn _ hd)) (p2.at (p1.at e))⟩
theorem wq:mE=j6 (v8 (x0 (fnX 4 S7) (d0 (b8 0) (d0 (cE (.int 1)) (d0 (cE (.int 2)) (d0 (cE (.int 60)) g0))))) (y0 1)) (j6 (v8 (x0 (fnX 2 KA) (d0 PU0 (d0 (cE (.int 3)) g0))) (y0 2)) (j6 (v8 (c7 K1 (x0 (fnX 1 u6) (d0 (b8 1) g0)) (cE (.int 3))) (y0 3)) (j6 W1 (j6 W2 (j6 (v8 (x0 (fnX 1 X6) (d0 (b8 2) g0)) (y0 4)) (j6 (ifS (m6 (c7 eqD (b8 2) (x0 (fnX 0 J5) g0))) (t6 (c7 D3 (b8 4) (cE .non))) m9) (j6 (ifS (orT (m6 (c7 D3 (b8 4) (cE .non))) (orT (m6 (c7 F7 (x0 (fnX 1 ND) (d0 (b8 4) g0)) (cE (.bl true)))) (c8 (J8 (x0 (fnX 2 lA) (d0 (b8 4) (d0 (b8 2) g0))))))) (t6 (cE (.bl false))) m9) (j6 (v8 VA (y0 5)) (j6 (v8 VB' (y0 5)) (j6 (S1 (itW (b8 5)) (y0 6) LB) (t6 (cE (.bl true))))))))))))):=rfl
theorem wY(h:VD w k d v)(hw:w<=401)(hk:k<=5):V5 d:=⟨v,(h.mono hk).wide hw⟩
section
variable{ns:List Int}{p:Nat}{c:CS 4}{x:D}{G:DH}{a3 a5 a6:Option D}
theorem Rb(h:LI ns p G)(g:Gd 4 c)(z:SzC 4 47 c):Wp (VA [some (.ref 0),some (.ref p),some (enC 4 c),a3,some x,a5,a6]) G λy G'=>LI ns p G'/\∃q ds,y= .ref q/\q≠p/\G'[q]? =some (.lst ds)/\ds.length<=200/\∀d∈ds,V5 d:=by
 have bg:=big
 have ln:(K3 0 (4:Int).toNat).length=4:=rfl
 refine m8<| wp_comp.mpr<| rng1.mpr<| K5 rfl<| m5.mpr<| (rng1_int ⟨by decide,by decide⟩).mpr ⟨sz,(l5 (Fd p G) (λσ=>∃u,σ= [u,some (.ref p)]) (λ_ y=>V5 y) (λ_ _=>rfl) _ _ G ⟨_,rfl⟩ (Fd.refl h.d) ?_).mono ?_⟩
 · rintro d hd _ G1 ⟨u,rfl⟩ f1
   exact O1.mpr ⟨rfl,⟨_,rfl⟩,j9 rfl rfl<| (r9 60 2 G1 (by decide) f1.2.2).mono λy G2 ⟨⟨v,hv⟩,f2⟩=>⟨f1.trans f2,wY hv (by decide) (by decide)⟩⟩
 rintro _ G1 ⟨f1,zs,e1,rfl,hz⟩
 have lz:(zs.map (·.2)).length=4:=by rw[zc,<-zc,e1,ln]
 have hv:∀d∈zs.map (·.2),V5 d:=λd hd=>by
  obtain⟨y,hy,rfl⟩:=zG.mp hd
  exact hz y hy
 generalize zs.map (·.2)=ys at lz hv
 have f2:Fd p G (G1++[.lst ys]):=f1.trans (Fd.app f1.2.2)
 have hp:G1.length≠p:=by have:=f1.2.2.lt;lia
 refine j9 rfl rfl<| (fO f2.2.2 g z).mono ?_
 rintro _ G3 ⟨f3,q,ds,rfl,hq,e3,l3,v3⟩
 refine(HC (f3.at hp j8) e3 (by lia)).mpr ⟨(h.fd (f2.trans f3)).gr Gr.app,_,_,rfl,?_,j8,by rw[zA];lia,λd hd=>?_⟩
 ·have:=f3.2.2.lt;lia
 · rcases zJ.mp hd with hd|hd
   ·exact hv d hd
   ·exact v3 d hd
theorem Vv(hn:ns.length<=63)(h:LI ns p G)(g:Gd 4 c)(z:SzC 4 47 c)(hx:VD 400 5 x u)(hq:q≠p)(e:G[q]? =some (.lst ds))(hl:ds.length<=200)(hv:∀d∈ds,V5 d):Wp (VB' [some (.ref 0),some (.ref p),some (enC 4 c),a3,some x,some (.ref q),a6]) G λy G'=>∃q ds,y= .ref q/\G'[q]? =some (.lst ds)/\ds.length<=10000/\∀d∈ds,V5 d:=by
 have bg:=big
 refine m8<| m8<| d7 rfl<| M8<| m7<| j9 rfl rfl<| (OI (by decide) h.e0 hn).mono ?_
 rintro _ G1 ⟨r,rfl,d1,g1,l1⟩
 refine K5 rfl<| m5.mpr<| U8.mpr ⟨rfl,(fO d1 g z).mono ?_⟩
 rintro _ G2 ⟨f2,q2,ds2,rfl,hq2,e2,l2,v2⟩
 have g2:=g1.fd f2 l1
 refine(HC (g2.at e) e2 (by lia)).mpr ?_
 have h3:LI ns p (G2++[.lst (ds++ds2)]):=(h.gr g2).gr Gr.app
 have e3:(G2++[DO.lst (ds++ds2)])[G2.length]? =some (.lst (ds++ds2)):=j8
 have hp:G2.length≠p:=by have:=(h.gr g2).d.lt;lia
 have v3:∀d∈ds++ds2,V5 d:=λd hd=>by
  rcases zJ.mp hd with hd|hd
  ·exact hv d hd
  ·exact v2 d hd
 have l3:(ds++ds2).length<=300:=by rw[zA];lia
 generalize ds++ds2=es at h3 e3 v3 l3
 generalize G2.length=q3 at e3 hp
 generalize G2++[DO.lst es]=G3 at h3 e3
 have ln:(K3 0 (3:Int).toNat).length=3:=rfl
 refine wp_comp.mpr<| rng1.mpr<| K5 rfl<| m5.mpr<| (rng1_int ⟨by decide,by decide⟩).mpr ⟨sz,(l5 (Fd p G3) (λσ=>∃u,σ= [u,some x,some (.ref p)]) (λ_ y=>V5 y) (λ_ _=>rfl) _ _ G3 ⟨_,rfl⟩ (Fd.refl h3.d) ?_).mono ?_⟩
 · rintro d hd _ G4 ⟨u',rfl⟩ f4
   refine O1.mpr ⟨rfl,⟨_,rfl⟩,j9 rfl rfl<| (OF (by decide) (by decide) 5 60 (by decide) x u G4 p f4.2.2 hx).mono λy G5 ⟨f5,hv⟩=>⟨f4.trans f5,hv⟩⟩
 rintro _ G4 ⟨f4,zs,e5,rfl,hz⟩
 have lz:(zs.map (·.2)).length=3:=by rw[zc,<-zc,e5,ln]
 refine(HC (V0 (f4.at hp e3)) j8 (by lia)).mpr ⟨_,_,rfl,j8,by rw[zA];lia,λd hd=>?_⟩
 rcases zJ.mp hd with hd|hd
 ·exact v3 d hd
 · obtain⟨y,hy,rfl⟩:=zG.mp hd
   exact hz y hy
end
theorem Tc(ns:List Int)(hn:ns.length<=63):Wp (eJ [.ref 0]) [.rol (ns.map D.int)] λd _=>d= .bl true:=by
 have bg:=big
 have e0:([DO.rol (ns.map D.int)]:DH)[0]? =some (.rol (ns.map D.int)):=rfl
 have l0:([DO.rol (ns.map D.int)]:DH).length=1:=rfl
 generalize ([DO.rol (ns.map D.int)]:DH)=G at *
 refine J4 (show Wp (mE [some (.ref 0),none,none,none,none,none,none]) G _ from ?_)
 rw[wq]
 refine d8.mpr<| K6<| j9 rfl rfl<| (OI (by decide) e0 hn).mono ?_
 rintro _ G1 ⟨p,rfl,d1,g1,l1⟩
 have h1:LI ns p G1:=⟨g1.at e0,d1,by lia⟩
 refine d8.mpr<| K6<| M8<| m7<| PJ hn h1 rfl λr G2 d2 g2 l2=>K5 rfl<| m5.mpr<| U8.mpr ⟨rfl,(CF 3 60 (by decide) (by decide) G2 r d2).mono ?_⟩
 rintro _ G3 ⟨f3,c0,rfl,hc0⟩
 have h3:=h1.gr (g2.fd f3 l2)
 refine d8.mpr<| K6<| m8<| j9 rfl rfl<| W5 h3.d λj G4 f4=>d7 rfl<| (u5 (by decide)).mpr ?_
 have h4:=h3.fd f4
 generalize (j:Int) % 3=i
 refine d8.mpr (show Wp (W1 (S3 p c0 i)) G4 _ from(Pd hn h4 hc0).mono ?_)
 rintro _ G5 ⟨c1,rfl,hc1,h5⟩
 refine d8.mpr<| (LS hn h5 hc1).mono ?_
 rintro _ G6 ⟨c,rfl,hc,h6⟩
 have z47:SzC 4 47 c:=SzC.mono (by decide) hc.2
 refine d8.mpr<| K6<| j9 rfl rfl<| (bO 4 60 (by decide) (by decide) c G6 hc.1 z47).mono ?_
 rintro x G7 ⟨a7,hx⟩
 have h7:=h6.gr a7.gr
 obtain⟨t,et,it⟩:=OB (by decide) G7 c hc.1
 refine d8.mpr<| Q0<| v9<| o4 rfl rfl<| dA.mpr ⟨t,et,t,rfl,λht=>?_,λht=>j0.mpr ?_⟩
 · rcases hx with hf|⟨rfl,_⟩
   · obtain⟨v,_,hi⟩:=pE 4 c x hc.1 hc.2 hf
     exact absurd hi (it.mp ht v)
   ·exact o9<| d7 rfl<| t8 rfl
 rcases hx with hf|⟨_,no⟩
 rotate_left
 ·rw[it.mpr no]at ht;cases ht
 obtain⟨v,hv,hi⟩:=pE 4 c x hc.1 hc.2 hf
 have hv4:VD 400 5 x v:=hv.wide (by decide)
 have hv1:VD 401 5 x v:=hv.wide (by decide)
 have isn:D3 x .non G7=some (.ok (.bl false),G7):=by
  rcases hv with _|_|_|_|_<;>rfl
 refine d8.mpr<| Q0<| B7<| v9<| o4 rfl rfl<| d7 isn ⟨false,rfl,λz=>(nomatch z),λ_=>B7<| v9<| m8<| j9 rfl rfl<| (hU (by decide) hv (by decide)).mono ?_⟩
 rintro _ G8 ⟨rfl,g8⟩
 have h8:=h7.gr g8
 refine d7 rfl<| d7 rfl ⟨false,rfl,λz=>(nomatch z),λ_=>fH.mpr<| X4.mpr<| j9 rfl rfl<| (in_at (by decide) 5 60 (by decide) 4 c x v G8 z47 hc.1 hv1).mono ?_⟩
 rintro _ G9 ⟨a9,b,rfl,hb⟩
 have hb:=hb.mpr hi
 subst hb
 refine R6.mpr ⟨λz=>(nomatch z),λ_=>j0.mpr ?_⟩
 have h9:=h8.gr a9.gr
 refine d8.mpr<| K6<| (Rb h9 hc.1 z47).mono ?_
 rintro _ G10 ⟨h10,q,ds,rfl,hq,e10,l10,v10⟩
 refine d8.mpr<| K6<| (Vv hn h10 hc.1 z47 hv4 hq e10 l10 v10).mono ?_
 rintro _ G11 ⟨q',ds',rfl,e11,l11,v11⟩
 refine d8.mpr<| A7.mpr<| wp_itW.mpr<| d7 rfl<| (iB e11).mpr<| (BK hc.1 z47 hf hv1 ds' none G11 v11 e11).mono ?_
 rintro _ G12 ⟨t,rfl⟩
 exact o9<| A3.mpr<| t8 rfl
theorem pure_law:∀ns:List Int,ns.length<=63->∃G',eJ [.ref 0] [.rol (ns.map D.int)]=some (.ok (.bl true),G'):=λns hn=>by
 obtain⟨d,G',e,rfl⟩:=Tc ns hn
 exact⟨G',e⟩
end W
namespace PySem.W.Fast
def tw2916353737021844686:=()
def tw12003415053756468435:=()
def tw13171292745877163699:=()
def tw9412953445894057341:=()
def tw2927528534951171258:=()
def tw8264502437322120451:=()
def tw13610653583742739362:=()
def tw891443857811999471:=()
def tw14898657297689536387:=()
def tw14191644230020612912:=()
def tw14319871229747414978:=()
def tw1290271656836498929:=()
def tw11105594993667645668:=()
def tw15585400568937283855:=()
def tw11838469207076477313:=()
def tw18314294947049387157:=()
def tw5501525507257753973:=()
def tw7713206703632059087:=()
def tw11104842242776433634:=()
def tw8608694389288500885:=()
def tw9708353744128673580:=()
def tw4341334986251103613:=()
def tw12216796478004974144:=()
def tw12296857910103632963:=()
def tw4685771204550319146:=()
def tw18370626463116602226:=()
def tw14920396213873588624:=()
def tw3531360041182962958:=()
def tw9666093076598651773:=()
def tw15151849433426273797:=()
def tw3445380349924786241:=()
def tw8612774262955315001:=()
def tw10019730164641206297:=()
def tw11793649595715868003:=()
def tw6622490060551846319:=()
def tw16033779934902874606:=()
def tw10850274358502330561:=()
def tw3696797025076937970:=()
def tw17576836845975256180:=()
def tw18035101191747548410:=()
def tw13311556333522271890:=()
def tw7811743746153599146:=()
def tw8544091067102581171:=()
def tw7424428654368217701:=()
def tw17824684724138279707:=()
def tw12746131361150686281:=()
def tw2107049922527261238:=()
def tw7615589737038141720:=()
def tw7785189386327317583:=()
def tw13468160186136684506:=()
def tw13701366028375343330:=()
def tw337509141510550227:=()
def tw8694464711440341225:=()
def tw16967800649515978076:=()
def tw13020185896888570389:=()
def tw16975649621676299994:=()
def tw5284934876958131279:=()
def tw13571886080088936158:=()
def tw10133340565987961082:=()
def tw6947523361384323769:=()
end PySem.W.Fast
local macro_rules | `(tactic| walk_at "fh") => `(tactic| first | exact trivial | (refine DL.FHs.c ?q ?b; (case q => refine' DL.FH.of ?a ?l ?e ?k; (case a => k_is); (case l => k_is); (case e => k_is); (case k => k_is)); (case b => walk_at "fh")))
local macro_rules | `(tactic| walk_at "cr") => `(tactic| first | exact DL.cr_str | exact DL.cr_int | exact DL.cr_bl | exact DL.cr_non | (refine' DL.cr_tup ?l ?z ?h; (case l => k_is); (case z => rfl); (case h => walk_at "cs")))
local macro_rules | `(tactic| walk_at "cs") => `(tactic| first | exact DL.crl_nil | (refine' DL.crl_cons ?a ?b; (case a => walk_at "cr"); (case b => walk_at "cs")))
set_option maxRecDepth 100000 in
set_option maxHeartbeats 0 in
theorem PySem.Challenge.cw_allmeet_k32_whole_first_values_holds : PySem.Challenge.rw_allmeet_k32_whole_first_values.Holds := by
 w_on;o_law;k_head;(case hw=>w_witness2)
 k_fill
 refine DL.walk63 (l := PySem.Challenge.rw_allmeet_k32_whole_first_values) 188 rfl rfl ⟨rfl, by decide, by decide, rfl⟩ (fun w h Y => PySem.W.kIn_of Y) ?F
 case F=>
  intro w mg fa h KX G hmg
  refine' W.all_mk KX G hmg ?Y0 ?Y25 ?Y50 ?_ ?_ ?_ ?z W.pure_law
  (case z=>intro b hb;simp only[DL.bltL,zp,zS,or_false]at hb;rcases hb with rfl|rfl|rfl|rfl|rfl|rfl|rfl|rfl|rfl|rfl|rfl|rfl|rfl|rfl|rfl|rfl|rfl|rfl|rfl|rfl<;>k_is)
  (case Y0=>walk_at "fh")
  (case Y25=>walk_at "fh")
  (case Y50=>walk_at "fh")
  all_goals (refine' DL.CC.of ?g ?r;(case g=>k_is);(case r=>walk_at "cr"))
