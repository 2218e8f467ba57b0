import PyProof.Rows.All
import Wide.All
import OpenK.AllK
import Wide.FinOn
import Lean
import PyProof.EqAt
import PyProof.EqKinds
import PyProof.TupleCall
import PyProof.NeKinds
import PyProof.ZipIter
import PyProof.EnumFor
import PyProof.EnumMake
import PyProof.EnumStmt
import PyProof.Draws
import KE.KDictSum
import PyProof.Rows.SortStr
import PyProof.StrWalks
import KE.KRevIter
import KE.KDictList
import PyProof.CollectIter
import PyProof.SliceStr2
import PyProof.StrBlockI
import KE.KListMore
import PyProof.DictWalks
import PyProof.TupleOfSeq
import PyProof.AttrMissHeap
import PyProof.AttrMissSeq
import KE.KDictOf
import PyProof.WalksMore
import KE.KSortTup
import KE.KSortKey
import PyProof.Rows.StrJoin2
import PyProof.ListMulRoad
import PyProof.FactsAll.tuple_2
import PyProof.Rows.SortShell
import PyProof.WalkInts
import KE.KMinBuiltin
import KE.KIntText
import PyProof.CallStr
import PyProof.PureStr
import PyProof.Rows.SetFrom
import KE.KMinKey
import PyProof.DictItems
import PyProof.DictItemsLoops
import PyProof.ReprRoads
import PyProof.WalksS
import PyProof.MeetsSeq2
import KE.KItemsList
import PyProof.TupleKey
import PyProof.IsRules
import PySem.Challenge.RW_allmeet_k41_texts_and_truths_in_words
set_option Elab.async false
set_option linter.all false
set_option maxRecDepth 100000
open PySem renaming wpAny_bind→za,wpAny_pure→ze,Value→zg,sizeLine→zi,wpAny→zo,Shared→zw,model→zA,Program→zV,starEach→zX,compareOp→ja,bootBuiltins→jb,World→je,wpAny_call_entry→jk,sizeLine_eq→jl,Around→jm,wpAny_holding→jt,wpAny_callSpecial?_slot→ju,wpAny_setState_of→jz,mainGlobals→jA,wpAny_loadPart'→jD,wpAny_mono→jE,wpAny_field→jG,tupleKeyHash→jP,Builtin→jQ,wpAny_ite_split→jR,builtinLookup_eq_fast→yb,wpAny_newObj_type→yd,IsTupleKey→yh,wpAny_seqItems→yp,codeAny_builtin→yt,wpAny_setField_rec→yw,rawInt→yC,wpAny_attempt→yD,binaryOp→yE,wpAny_of_eq→yG,plainId_quiet→yJ,typeLookup_type→yR,IsPair→yW,sliceBounds→yZ,wpAny_Call_Name_kw→xc,pyNext→xf,isSubtype_type→xg,cLine→xh,mem_of_lookup→xk,foldedSetIterable→xm,wpAny_newList→xr,wpAny_isInstance→xx,wpAny_typeOf→xD,wpAny_rule→xE,backTo→xF,assignEach→xG,wpAny_specialOf→xL,wpAny_truthy_bool→xP,sysModules→xU,FuncData→xV,codeAny→xZ,letOwnedTupleGo→Zg,wpAny_pyIter_list→Zl,wpAny_newTuple→Zm,wpAny_eqBool_int→Zn,strIterType→Zz,hashByValue→ZB,wpAny_execs_nil→ZL,IsZip→ZV,codeAny_mono→ZX,pickOrder→Yd,wpAny_setField→Yf,wpAny_collect_seq→Yt,ofAClassStatement→Yu,keywordEach→Yv,holding→Yw,wpAny_standAt→YB,attributeBase→YC,wpAny_askSetting→YQ,entryFor_of_tree→YR,valueAt→YZ,assign→Xa,BindsTo→Xb,wpAny_updateSeq_pair→Xu,wpAny_letGo→Xv,pyIter→Xw,isSubtype_stop→Xx,entryFor→Xy,argsOk→Xz,setNext→XE,callerA→XF,wpAny_onRaise→XV,wpAny_handled→XW,setSearchFrom→XX,behindInMarks→XY,MulOk→Ja,typeLookup→Ji,tupleKind_room_in1→Jj,setEntries→Jk,wpAny_pyIter_slot→Jx,slot_list_getitem→Jy,getItem→JA,backToKw→JC,wpAny_forIn_list→JO,tupleKind→JP,seqIndex?→JQ,noFill_tuple_add→JR
open PySem.Heap renaming get?_push_of_some→zc,get?_push_size→zn,lt_size→zt,get?_update_ne→jq,get?_update_self→jM,size_push→jO,get?_update_other→yz,SameBut→yA,get?_push_ne→xi,ExtBut→YV
open List renaming length_append→zd,length_map→zf,size_toArray→zk,mem_cons_of_mem→zl,mem_singleton→zm,getD_eq_getElem?_getD→zp,getElem?_eq_getElem→zq,mem_cons→zr,length_cons→zu,mem_cons_self→zv,getElem?_append_left→zB,range→zE,getElem?_cons_zero→zG,map_cons→zH,toArray→zI,append_assoc→zJ,mem_map→zM,mem_append_right→zN,mem_append→zR,not_mem_nil→zT,getElem?_cons_succ→zW,map_append→zY,getElem?_eq_none→zZ,map_map→jg,mem_range→jn,getElem?_set_self→jo,getElem?_map→jp,any_cons→jw,filterMap_cons→jF,append_nil→jH,replicate→jI,pairwise_map→jJ,mem_of_getElem?→jK,getElem?_set_ne→jL,length_take→jW,all_cons→jX,length_singleton→jY,length_range→jZ,append_cancel_left→yc,set_cons_succ→ye,mem_append_left→yf,map_congr_left→ym,set_cons_zero→yn,filterMap_map→yo,ext_getElem→yr,getElem?_append_right→yB,pairwise_cons→yH,mem_filter→yL,length_nil→yM,find?_cons→yN,take_of_length_le→yP,range_succ_eq_map→yQ,lookup_cons→yV,pairwise_iff_getElem→xa,getElem?_eq_some_iff→xb,length_drop→xp,all_eq_true→xq,length→xv,foldl_cons→xB,dropLast_concat_getLast→xC,pairwise_append→xN,mem_iff_getElem→xO,nodup_cons→Zb,length_set→Zc,zip_cons_cons→Zd,take_append_drop→Zk,forIn_cons→Zs,mergeSort_perm→Zw,length_reverse→Zx,map_nil→Zy,nodup_nil→ZJ,map→ZK,drop_eq_getElem_cons→ZW,pairwise_singleton→Ym,pairwise_mergeSort→Yn,cons_ne_nil→Yo,drop_eq_nil_of_le→YA,range_succ→YH,any_append→YI,mem_iff_getElem?→YM,length_filter_le→YN,getElem?_toArray→YO,forIn_nil→YX,filterMap→YY,map_eq_nil_iff→Xg,mem_filterMap→Xs,getElem?_drop→Xt,reverse_cons→XH,nodup_append→XI,getElem?_set→XJ,flatMap_cons→XL,ext_getElem?→XM,any_eq_false→XO,eraseIdx_eq_take_drop_succ→XU,prefix_refl→Jd,getElem_mem→Je,getElem_inj→Jf,append_inj'→Jg,any_eq_true→Jh,map_id→Jm,eq_nil_of_length_eq_zero→Jn,of_mem_zip→Jv,nil_append→Jw,perm_append_singleton→JM
open Nat renaming le_refl→zh,ne_of_lt→zC,zero_le→zL,le_trans→zS,lt_of_lt_of_le→jc,lt_succ_of_lt→jT,le_of_lt→yT,lt_irrefl→yU,mod_lt→yX,ne_of_gt→xj,le_add_right→xS,lt_trans→Zi,lt_or_ge→Zj,lt_succ_self→Zp,lt_or_eq_of_le→ZT,eq_zero_or_pos→ZU,sub_succ_lt_self→Xf,toDigits→XS,le_of_eq→XT,le_succ→Ju
open PySem.W renaming Frag→zj,fnOf→yO,keepIn→yS,kas_ask→xu,kas_sort→xM,KatTups→xT,nsIn→Ze,findIn→Zu,codeIn→Zv,mg_of→ZM,kat_snds→ZY,kat_cons→ZZ,kas_item→Ya,kat_yes→Yj,kat_run→Yk,kat_no→YD,kat_go→YE,methodObj→Xi,kat_kind→XA,cellsFrom_some→JS
open Bool renaming false_eq_true→zy,false_ne_true→zz,and_eq_true→jy,not_eq_true'→yK,eq_false_iff→xJ,or_false→Xo,not_true→Xp,not_false→JN
open List.cons renaming inj→zD
open Array renaming length_toList→zF,getElem?_toList→zK,getElem?_eq_getElem→zU,getD_eq_getD_getElem?→jC,getElem?_eq_some_iff→yy,toList_inj→xo,forIn_toList→xw,toList_append→Zt,perm_iff_toList_perm→ZE,getD→ZG,toList_map→Yi,getElem?_setIfInBounds→Jp
open PyProof.Rows renaming seqObj→zO,slot_tuple_getitem→jB,listUpdate_at→yi,callWith_type1→yI,get?_update_seq→xl,seqEpoch_at→xX,IsTup→xY,kindOf→Zh,entry_list_sort→ZR,listItems_at→Yc,slot_list_sort→Yh,arrOf→Yy,Keyed→Yz,envOfC→YF,failedOf→YU,subscriptTail_builtinR→Xc,plain_sorted→Xd,entry_sorted→Xe,kind_sorted→XD,AllBare→XG,size_push'→Jl
open PySem.Obj renaming mapSeq→zP,data_mapFields→xz,isFreed_of_fields→YS,putSet→XB
open Option.some renaming injEq→zQ,inj→js
open PySem.SetTable renaming bits→jd,below→jf,leap→ji,runEnd→jx,insertAt→jN,turns→yk,sizeAbove→Zr,grown→Yx,fresh→XZ,fits→Jq,fill→Jr,has→JG
open PySem.Str renaming ofString→jh
open PySem.SetTable.layClean renaming free→jj
open Classical renaming byContradiction→jr,choose→Xn
open PySem.Builtin.SmallTypes renaming nextOf→jv,ownedTupleIsFree→yF,ownedTupleHandOut→ZI
open PySem.Around renaming under_plainId→jS
open False renaming elim→jU
open PySem.Builtin.List renaming listExtendWith→jV,listLengthHint→xt,listSameRef→xK,listItems→Jb
open Int renaming toNat_natCast→ya,emod_nonneg→yg,emod_lt_of_pos→yY,le_refl→Ye,eq_ofNat_of_zero_le→Ys,le_trans→YJ,le_antisymm→JF
open PySem.SeqAt renaming EqAt→yj,RcNeAt→Yq,RcAt→Xj
open PySem.Heap.SameBut renaming update→yq
open PySem.PyData renaming keyHash→yx
open PySem.SetTable.below renaming go→xn
open PySem.Paired renaming length→xy
open PySem.Builtin.Slice renaming slicePlaces→xA,sliceAdjust→Zo,sliceApplied→Xm
open PySem.Builtin.Tuple renaming tupleExact→xH,tupleItemsOf→Xl
open Prod.mk renaming inj→xI
open PySem.SetTable.probe renaming go→xQ
open PySem.F renaming slot_tuple_iterator_next→xR,called_set→xW,plain_extend_loop→ZC,args_tuple_add_2→ZP,entry_tuple_add→Yb,slot_tuple_add→Yg,slot_list_getattribute→Yr,slot_zip_next→YW,plain_list_iadd→JK
open PySem.Calls renaming spliced_cons→Za,spliced_nil→Zf,call_function_entry→ZQ,Name_function_global→JE
open Option renaming map_some→Zq,isSome_map→ZS,map_eq_some_iff→Yl,isSome_iff_exists→JL
open PySem.Builtin.Str renaming occurrences→ZD,subAt→YT,strSliceIndices→Xr
open PySem.Txt renaming slice→ZH,join→XQ
open PySem.W.Looks renaming of_pure→ZN
open PySem.W.KatTups renaming cons→ZO
open StateT renaming run_pure→Yp
open PyProof.Rows.F renaming plain_set_update_loop→YG
open PySem.SeqAt.EqAt renaming str_int→YK,int_str→YL,same→Xq,none_bool→JH,bool_none→JI,bool_bool→JJ,str_none→JT,str_bool→JU,none_str→JV,none_int→JW,int_none→JX,int_bool→JY,bool_str→JZ
open Function renaming comp_def→Xh
open PySem.NumText renaming digitsVal→Xk
open PySem.Builtin.Dict renaming updateFrom→XR,pairItems→Jc
open List.Perm renaming eq_of_pairwise→Jo
open PySem.Heap.IsSliceOf renaming new→Js
open PyProof.Rows.SortSt renaming mk'→Jt
open PySem.pickOrder renaming go→Jz
open PySem.W.KIN renaming val_back→JD
noncomputable section
abbrev VSP:=zg->zw->Prop
abbrev PNS:=List (PySem.Addr×PySem.Obj)
namespace L2
open PySem PySem.Spec PyProof.Rows
theorem u6{a:α}{P:Prop}(h:none=some a):P:=nomatch h
theorem fH{a:α}{P:Prop}(h:some a=none):P:=nomatch h
theorem EF{P:Prop}(h:false=true):P:=nomatch h
theorem QG{a:α}{l:List α}{P:Prop}(h: []=a::l):P:=nomatch h
theorem vI{a:α}{l:List α}{P:Prop}(h:a::l= []):P:=nomatch h
abbrev Key:=Sum Int Str
def y8:Key->zg->Bool
 | .inl k,v=>Value.isInt k v
 | .inr x,v=>Value.isStrOf x v
def qv(w:je):Key->Int
 | .inl k=>hashInt k
 | .inr x=>hashStr w x
theorem w6:∀ {k} {v},y8 k v=true->(∃i t,k=Sum.inl i/\v=Value.int i t)\/(∃x t,k=Sum.inr x/\v=Value.str x t)
 | .inl i,v,h=>by obtain⟨t,e⟩:=Value.isInt_shape (k:=i) (v:=v) h;exact .inl ⟨i,t,rfl,e⟩
 | .inr x,v,h=>by obtain⟨t,e⟩:=Value.isStrOf_shape (x:=x) (v:=v) h;exact .inr ⟨x,t,rfl,e⟩
theorem qo(i:Int)(t:Tok):y8 (.inl i) (.int i t)=true:=by simp[y8,Value.isInt]
theorem AH(x:Str)(t:Tok):y8 (.inr x) (.str x t)=true:=by simp[y8,Value.isStrOf]
theorem Bm(a b:Int):decide ((Sum.inl a:Key)=Sum.inl b)= (a==b):=by
 by_cases e:a=b
 ·subst e;simp
 ·have h:¬(Sum.inl a:Key)=Sum.inl b:=λq=>e (Sum.inl.inj q);rw[decide_eq_false h];exact(beq_eq_false_iff_ne.mpr e).symm
theorem lT(a b:Str):decide ((Sum.inr a:Key)=Sum.inr b)=decide (a=b):=by
 by_cases e:a=b
 ·subst e;simp
 ·have h:¬(Sum.inr a:Key)=Sum.inr b:=λq=>e (Sum.inr.inj q);rw[decide_eq_false h,decide_eq_false e]
theorem Kp(a:Int)(b:Str):decide ((Sum.inl a:Key)=Sum.inr b)=false:=decide_eq_false (λq=>nomatch q)
theorem wZ(a:Str)(b:Int):decide ((Sum.inr a:Key)=Sum.inl b)=false:=decide_eq_false (λq=>nomatch q)
def u5(prog:zV)(w:je):PySem.KeyKind prog w Key where
 is:=y8
 hash:=qv w
 inj:=λv a b ha hb=>by
  rcases w6 ha with⟨i,t,rfl,rfl⟩|⟨x,t,rfl,rfl⟩
  · rcases w6 hb with⟨j,u,rfl,e⟩|⟨y,u,rfl,e⟩
    ·injection e with e1 _;rw[e1]
    ·exact nomatch e
  · rcases w6 hb with⟨j,u,rfl,e⟩|⟨y,u,rfl,e⟩
    ·exact nomatch e
    ·injection e with e1 _;rw[e1]
 byValue:=λk v h=>by rcases w6 h with⟨i,t,rfl,rfl⟩|⟨x,t,rfl,rfl⟩<;>rfl
 pyHash:=λhv h=>by
  rcases w6 hv with⟨i,t,rfl,rfl⟩|⟨x,t,rfl,rfl⟩
  ·exact wpAny_pyHash_int h
  ·exact wpAny_pyHash_str h
 eqBool:=λhu hv h=>by
  rcases w6 hu with⟨i,t,rfl,rfl⟩|⟨x,t,rfl,rfl⟩
  · rcases w6 hv with⟨j,u,rfl,rfl⟩|⟨y,u,rfl,rfl⟩
    ·rw[Bm]at h;exact Zn h
    ·rw[Kp]at h;exact YL i t y u _ _ _ _ h
  · rcases w6 hv with⟨j,u,rfl,rfl⟩|⟨y,u,rfl,rfl⟩
    ·rw[wZ]at h;exact YK x t j u _ _ _ _ h
    ·rw[lT]at h;exact wpAny_eqBool_str h
 «strs»:=λk x t v h=>by
  rcases w6 h with⟨i,u,rfl,e⟩|⟨y,u,rfl,e⟩
  ·exact nomatch e
  · injection e with e1 _;subst e1
    cases v<;>rfl
theorem qS(prog:zV)(w:je)(i:Int)(t:Tok):(u5 prog w).is (.inl i) (.int i t)=true:=qo i t
theorem nM(prog:zV)(w:je)(x:Str)(t:Tok):(u5 prog w).is (.inr x) (.str x t)=true:=AH x t
inductive V where
 |non|bl (b:Bool)|int (i:Int)|str (x:Str)|byt (b:Array UInt8)|flt (b:UInt64)|ref (a:Addr)|ty (n:String)
 deriving DecidableEq
def t6:V->zg->Prop
 | .non,u=>u=Value.none
 | .bl b,u=>u=Value.bool b
 | .int i,u=>∃t,u=Value.int i t
 | .str x,u=>∃t,u=Value.str x t
 | .byt b,u=>∃t,u=Value.bytes b t
 | .flt b,u=>∃t,u=Value.float b t
 | .ref a,u=>u=Value.ref a
 | .ty n,u=>u=Value.type n
abbrev m7:List V->List zg->Prop:=Paired t6
theorem m7.length(r:m7 xs us):xs.length=us.length:=xy r
theorem m7.get:∀ {xs} {us} {i:Nat} {x:V},m7 xs us->xs[i]? =some x->∃u,us[i]? =some u/\t6 x u
 |_,_,_,_,.nil,e=>by simp at e
 |_,_,0,_,.cons r _,e=>by simp at e;subst e;exact⟨_,rfl,r⟩
 |_,_,i+1,x,.cons _ t,e=>by obtain⟨u,h1,h2⟩:=m7.get (i:=i) (x:=x) t (by simpa using e);exact⟨u,by simpa using h1,h2⟩
theorem m7.set(r:t6 x u):∀ {xs} {us} i,m7 xs us->m7 (xs.set i x) (us.set i u)
 |_,_,_,.nil=>.nil
 |_,_,0,.cons _ t=>.cons r t
 |_,_,i+1,.cons q t=>.cons q (m7.set r i t)
theorem m7.append(h:m7 xs us)(k:m7 ys ws):m7 (xs++ys) (us++ws):=by
 induction h with
 |nil=>exact k
 |cons r t ih=>exact .cons r ih
theorem m7.take:∀ {xs} {us} n,m7 xs us->m7 (xs.take n) (us.take n)
 |_,_,0,_=>.nil
 |_,_,_+1,.nil=>.nil
 |_,_,n+1,.cons r t=>.cons r (m7.take n t)
theorem m7.drop:∀ {xs} {us} n,m7 xs us->m7 (xs.drop n) (us.drop n)
 |_,_,0,r=>r
 |_,_,_+1,.nil=>.nil
 |_,_,n+1,.cons _ t=>m7.drop n t
def kC:Option V->Option zg->Prop
 |some v,some u=>t6 v u
 |none,none=>True
 |_,_=>False
def KV{κ:Type}:List (κ×V)->List (κ×zg)->Prop:=Paired fun(p:κ×V) (q:κ×zg)=>p.1=q.1/\t6 p.2 q.2
def kV:Key->V
 | .inl i=>.int i
 | .inr x=>.str x
inductive HO where
 /-- a list -/
 |lst (xs:List V)
 /-- a tuple (never changes) -/
 |tup (xs:List V)
 /-- a dict whose keys are ints and texts;one whose keys are tuples of ints and texts (the empty one is both) -/
 |dK (rb:List (Key×V))|dT (rb:List (List Key×V))
 /-- a set of ints:qu members,qu size -/
 |set (S:Int->Bool) (n:Nat)
 /-- an instance of the class at C,qu dict at dx,qu attributes -/
 |ins (C dx:Addr) (fs:List (Str×V))
 /-- the dict of the instance at x -/
 |own (x:Addr)
 /-- the dict of an exception -/
 |xd (fs:List (Str×V))
 /-- a bound method,f of x -/
 |met (f x:Addr)
 /-- a range object lo,lo+1,.. below hi -/
 |rng (lo hi:Int)
 /-- a thing that is known to the object (the script;a dict while a loop walks it):read,never written while it is so -/
 |frz (o:Obj) (u:HO)
 /-- a code object's table -/
 |tbl (ps:Array zg)
 /-- any other thing,by what is true of qu one object (a def of one's own:SetO a S n:=HO.ext λh=>..) -/
 |ext (φ:Heap->Prop)
abbrev Hp:=Addr->Option HO
def upd(H:Hp)(a:Addr)(o:HO):Hp:=λb=>if b=a then some o else H b
theorem K7:upd H a o a=some o:=by unfold upd;rw[if_pos rfl]
theorem o5(h:b≠a):upd H a o b=H b:=by unfold upd;rw[if_neg h]
theorem uW{H:Hp}(h:H a=some o)(h':H b=some u)(d:o≠u):a≠b:=by intro e;subst e;rw[h]at h';exact d (js h')
theorem o7{H:Hp}{o:HO}(h:H a=some o)(h':H b=none):a≠b:=by intro e;subst e;rw[h]at h';cases h'
section
variable(P:zV)(w:je)
def P4(h:Heap)(a:Addr)(items:Array zg):Prop:=∃o,h.get? a=some o/\o.cls= .type "tuple"/\∃n,(o.data,o.dict)= (Data.seq items n,none)
theorem P4.tup(x:P4 h a items):xY h a items:=by obtain⟨o,e,c,n,d⟩:=x;exact⟨o,e,c,n,(xI d).1⟩
theorem P4.new(h:Heap)(items:Array zg):P4 (h.push {cls:=.type "tuple",data:=.seq items}) h.objs.size items:=⟨_,zn _ rfl,rfl,_,rfl⟩
def O4(H:Hp)(h:Heap)(a:Addr):HO->Prop
 | .lst xs=>xs.length<=zi/\∃(qu:List zg) (n:Nat),m7 xs qu/\h.get? a=some {cls:=.type "list",data:=.seq qu.toArray n}
 | .tup xs=>xs.length<=zi/\∃qu:List zg,m7 xs qu/\P4 h a qu.toArray
 | .dK rb=>rb.length<=zi/\(a==xU)=false/\∃vs,KV rb vs/\h.DictOf (u5 P w) a vs
 | .dT rb=>rb.length<=zi/\(a==xU)=false/\∃xs:List (List Key×Addr×zg),
    Paired (fun(p:List Key×V) (q:List Key×Addr×zg)=>p.1=q.1/\H q.2.1=some (.tup (p.1.map kV))/\t6 p.2 q.2.2) rb xs/\
    ∃o es ep,h.get? a=some o/\o.ExactDict/\o.data= .dict es ep/\es.toList=xs.map (entryOfKey (JP (u5 P w)))/\(xs.map (·.1)).Nodup
 | .set S n=>h.SetOf (intKind P w) a S n
 | .ins C dx fs=>H dx=some (.own a)/\fs.length<=1000/\dx≠a/\h.get? a=some (PySem.W.instObj C dx)/\
    ∃mA,h.Ns1 dx mA/\(∀f,kC (fs.lookup f) (mA f))/\PySem.Within mA (fs.map (·.1))
 | .own _=>∃o,h.get? a=some o
 | .xd fs=>∃mA,h.Ns1 a mA/\∀f,kC (fs.lookup f) (mA f)
 | .rng lo hi=>∃t u v,h.get? a=some {cls:=.type "range",data:=.fields #[.int lo t,.int hi u,.int 1 v]}
 | .frz o u=>h.get? a=some o/\O4 H h a u
 | .tbl ps=>h.get? a=some {cls:=.none,data:=.fields ps}
 | .met f x=>h.get? a=some (Xi (.ref f) (.ref x))
 | .ext φ=>φ h/\(∃o,h.get? a=some o)/\∀h1 h2:Heap,φ h1->(∀o,h1.get? a=some o->h2.get? a=some o)->φ h2
def HOk(H:Hp)(h:Heap):Prop:=∀a o,H a=some o->O4 P w H h a o
end
section
theorem O4.lt(x:O4 P w H h a o):a<h.objs.size:=by
 cases o with
 |lst xs=>obtain⟨_,_,_,_,e⟩:=x;exact zt e
 |tup xs=>obtain⟨_,_,_,p⟩:=x;exact(P4.tup p).lt
 |dK rb=>obtain⟨_,_,_,_,o,_,_,e,_⟩:=x;exact zt e
 |dT rb=>obtain⟨_,_,_,_,o,_,_,e,_⟩:=x;exact zt e
 |set S n=>obtain⟨o,_,_,_,e,_⟩:=x;exact zt e
 |ins C dx fs=>obtain⟨_,_,_,e,_⟩:=x;exact zt e
 |own y=>obtain⟨_,e⟩:=x;exact zt e
 |xd fs=>obtain⟨_,⟨_,_,_,e,_⟩,_⟩:=x;exact zt e
 |rng lo hi=>obtain⟨_,_,_,e⟩:=x;exact zt e
 |frz ob u=>obtain⟨e,_⟩:=x;exact zt e
 |tbl ps=>exact zt (show h.get? a=some _ from x)
 |met f y=>exact zt (show h.get? a=some _ from x)
 |ext φ=>obtain⟨_,⟨_,e⟩,_⟩:=x;exact zt e
theorem Paired.mapP(h:Paired F l₁ l₂)(f:∀a b,F a b->G a b):Paired G l₁ l₂:=by
 induction h with
 |nil=>exact .nil
 |cons r t ih=>exact .cons (f _ _ r) ih
theorem O4.stay(x:O4 P w H h a o)(k:∀b u,(b=a\/H b=some (.own a))->h.get? b=some u->h'.get? b=some u)
 (ho:∀b,H b=some (.own a)->H' b=some (.own a)) (ht:∀b xs,H b=some (.tup xs)->H' b=some (.tup xs)):O4 P w H' h' a o:=by
 induction o with
 |lst xs=>obtain⟨z,qu,n,r,e⟩:=x;exact⟨z,qu,n,r,k _ _ (.inl rfl) e⟩
 |tup xs=>obtain⟨z,qu,r,ob,e,c⟩:=x;exact⟨z,qu,r,ob,k _ _ (.inl rfl) e,c⟩
 |dK rb=>obtain⟨z,y,vs,r,ob,es,ep,e,c⟩:=x;exact⟨z,y,vs,r,ob,es,ep,k _ _ (.inl rfl) e,c⟩
 |dT rb=>
   obtain⟨z,y,xs,r,ob,es,ep,e,c⟩:=x;exact⟨z,y,xs,Paired.mapP r λp q z=>⟨z.1,ht _ _ z.2.1,z.2.2⟩,ob,es,ep,k _ _ (.inl rfl) e,c⟩
 |set S n=>obtain⟨ob,es,ep,t,e,c⟩:=x;exact⟨ob,es,ep,t,k _ _ (.inl rfl) e,c⟩
 |ins C dx fs=>
   obtain⟨d,z,ne,e,mA,⟨od,es,ep,e2,c⟩,r⟩:=x;exact⟨ho _ d,z,ne,k _ _ (.inl rfl) e,mA,⟨od,es,ep,k _ _ (.inr d) e2,c⟩,r⟩
 |own y=>obtain⟨ob,e⟩:=x;exact⟨ob,k _ _ (.inl rfl) e⟩
 |xd fs=>obtain⟨mA,⟨od,es,ep,e,c⟩,r⟩:=x;exact⟨mA,⟨od,es,ep,k _ _ (.inl rfl) e,c⟩,r⟩
 |rng lo hi=>obtain⟨t,u,v,e⟩:=x;exact⟨t,u,v,k _ _ (.inl rfl) e⟩
 |frz ob u ih=>obtain⟨e,q⟩:=x;exact⟨k _ _ (.inl rfl) e,ih q⟩
 |tbl ps=>
   have e:h.get? a=some {cls:=.none,data:=.fields ps}:=x;show h'.get? a=some {cls:=.none,data:=.fields ps};exact k a _ (.inl rfl) e
 |met f y=>
   have e:h.get? a=some (Xi (.ref f) (.ref y)):=x;show h'.get? a=some (Xi (.ref f) (.ref y));exact k a _ (.inl rfl) e
 |ext φ=>obtain⟨p,⟨o,e⟩,st⟩:=x;exact⟨st _ _ p λo q=>k _ _ (.inl rfl) q,⟨o,k _ _ (.inl rfl) e⟩,st⟩
theorem HOk.lt(x:HOk P w H h)(e:H a=some o):a<h.objs.size:=(x a o e).lt
theorem HOk.fresh(x:HOk P w H h)(e:h.objs.size<=a):H a=none:=by
 cases q:H a with
 |none=>rfl
 |some u=>exact absurd (jc (x.lt q) e) (yU _)
theorem HOk.kept(x:HOk P w H h)(k:∀b u,h.get? b=some u->h'.get? b=some u):HOk P w H h':=λa o e=>
 (x a o e).stay (λb u _ q=>k b u q) (λ_ q=>q) λ_ _ q=>q
theorem HOk.laid(x:HOk P w H h)(k:∀b u,h.get? b=some u->h'.get? b=some u)(hp:h.objs.size<=a)(new:O4 P w (upd H a o) h' a o):HOk P w (upd H a o) h':=λb u e=>by
 have hn:=x.fresh hp;by_cases hb:b=a
 ·subst hb;rw[K7]at e;cases e;exact new
 ·rw[o5 hb]at e;exact(x b u e).stay (λc v _ q=>k c v q) (λc q=>by rw[o5 (o7 q hn)];exact q) λc xs q=>by rw[o5 (o7 q hn)];exact q
end
def Rd(H:Hp)(a:Addr)(u:HO):Prop:=H a=some u\/∃o,H a=some (.frz o u)
theorem Rd.ok(r:Rd H a u)(x:HOk P w H h):O4 P w H h a u:=by
 rcases r with r|⟨o,r⟩
 ·exact x a u r
 ·obtain⟨_,q⟩:=x a _ r;exact q
def Mut:Option HO->Prop
 |some (.lst _)=>True
 |some (.dK _)=>True
 |some (.dT _)=>True
 |some (.set _ _)=>True
 |some (.ins _ _ _)=>True
 |some (.ext _)=>True
 |_=>False
section
theorem HOk.write(ok:HOk P w H h)(mu:Mut (H x))(he:e=x\/H e=some (.own x))(k:∀b u,b≠e->h.get? b=some u->h'.get? b=some u)(heo:∃u,h'.get? e=some u)
 (new:O4 P w (upd H x o') h' x o'):HOk P w (upd H x o') h':=λb u q=>by
 have nown:∀c y,H c=some (.own y)->c≠x:=λc y r z=>by subst z;rw[r]at mu;exact mu
 have ntup:∀c xs,H c=some (.tup xs)->c≠x:=λc xs r z=>by subst z;rw[r]at mu;exact mu
 by_cases hb:b=x
 ·subst hb;rw[K7]at q;cases q;exact new
 · rw[o5 hb]at q;by_cases hbe:b=e
   · have q':H b=some (.own x):=by
      rcases he with z|z
      ·exact absurd (hbe.trans z) hb
      ·rw[hbe];exact z
     rw[q]at q';cases q';obtain⟨v,hv⟩:=heo;exact⟨v,by rw[hbe];exact hv⟩
   · refine(ok b u q).stay (λc v hc r=>k c v ?_ r) (λc r=>by rw[o5 (nown c b r)];exact r) λc xs r=>by rw[o5 (ntup c xs r)];exact r
     rcases hc with rfl|hc
     ·exact hbe
     · rintro rfl;rcases he with z|z
       ·exact nown c b hc z
       ·rw[hc]at z;cases z;exact hb rfl
end
structure Un(fs ex:List Addr)(H H':Hp)(h h':Heap):Prop where
 keep:∀b o,h.get? b=some o->H b=none->b∉fs->b∉ex->h'.get? b=some o
 slot:∀b o,h.get? b=some o->H b=none->b∈fs->b∉ex->∃sl,h'.get? b=some {o with slots:=sl}
 free:∀b o,h.get? b=some o->H b=none->b∉ex->H' b=none
 there:∀b o,h.get? b=some o->b∉ex->∃o',h'.get? b=some o'
 tups:∀b xs,H b=some (.tup xs)->H' b=some (.tup xs)
 frzs:∀b o u,H b=some (.frz o u)->H' b=some (.frz o u)
 tbls:∀b ps,H b=some (.tbl ps)->∃more,H' b=some (.tbl (ps++more))
section
theorem Un.any(u:Un fs ex H H1 h h1)(q:h.get? b=some ob)(n:H b=none)(hx:b∉ex):∃sl,h1.get? b=some {ob with slots:=sl}:=by
 by_cases hb:b∈fs
 ·exact u.slot b ob q n hb hx
 ·exact⟨ob.slots,u.keep b ob q n hb hx⟩
theorem Un.kept(k:∀b u,h.get? b=some u->h'.get? b=some u):Un fs ex H H h h':=
 ⟨λb ob q _ _ _=>k b ob q,λb ob q _ _ _=>⟨ob.slots,k b ob q⟩,λ_ _ _ n _=>n,λb ob q _=>⟨ob,k b ob q⟩,λ_ _ q=>q,λ_ _ _ q=>q,λ_ ps q=>⟨#[],by rw[q];simp⟩⟩
theorem Un.refl:Un fs ex H H h h:=Un.kept λ_ _ q=>q
theorem Un.laid(k:∀b u,h.get? b=some u->h'.get? b=some u)(hp:h.objs.size<=a)(hn:H a=none):Un fs ex H (upd H a o) h h' where
 keep:=λb u q _ _ _=>k b u q
 slot:=λb u q _ _ _=>⟨u.slots,k b u q⟩
 free:=λb u q n _=>by rw[o5 (zC (jc (zt q) hp))];exact n
 there:=λb u q _=>⟨u,k b u q⟩
 tups:=λb xs q=>by rw[o5 (o7 q hn)];exact q
 frzs:=λb u xs q=>by rw[o5 (o7 q hn)];exact q
 tbls:=λb ps q=>⟨#[],by rw[o5 (o7 q hn),q];simp⟩
theorem Un.write(mu:Mut (H x))(he:e=x\/H e=some (.own x))(k:∀b u,b≠e->h.get? b=some u->h'.get? b=some u)(heo:∃u,h'.get? e=some u):Un fs ex H (upd H x o) h h':=by
 have hx:∀b,H b=none->b≠x:=λb n z=>by subst z;rw[n]at mu;exact mu
 have hb:∀b,H b=none->b≠e:=λb n z=>by
  subst z;rcases he with r|r
  ·exact hx b n r
  ·rw[n]at r;cases r
 have hm:∀b u,H b=some u->¬Mut (some u)->b≠x:=λb u q nm z=>by subst z;rw[q]at mu;exact nm mu
 refine⟨λb u q n _ _=>k b u (hb b n) q,λb u q n _ _=>⟨u.slots,k b u (hb b n) q⟩,λb u q n _=>by rw[o5 (hx b n)];exact n,λb u q _=>?_,
  λb xs q=>by rw[o5 (hm b _ q λz=>z)];exact q,λb u xs q=>by rw[o5 (hm b _ q λz=>z)];exact q,λb ps q=>⟨#[],by rw[o5 (hm b _ q λz=>z),q];simp⟩⟩
 by_cases hbe:b=e
 ·subst hbe;exact heo
 ·exact⟨u,k b u hbe q⟩
end
def trk(h:Heap)(H:Hp):List Addr:=(zE h.objs.size).filter λa=>(H a).isSome
def c9(h:Heap)(H:Hp):Heap:=PySem.W.hideAll h (trk h H)
theorem ki(h:Heap)(H:Hp):(c9 h H).objs.size=h.objs.size:=PySem.W.hideAll_size _ _
theorem gn(e:h.get? b=some o)(n:H b=none):(c9 h H).get? b=some o:=
 PySem.W.hideAll_get _ e λhm=>by have q:(H b).isSome=true:=(yL.mp hm).2;rw[n]at q;simp at q
theorem Wq(e:(c9 h H).get? b=some o):h.get? b=some o/\H b=none:=by
 have e':h.get? b=some o:=PySem.W.of_hideAll (trk h H) e;refine⟨e',?_⟩
 cases q:H b with
 |none=>rfl
 |some x=>
   have hm:b∈trk h H:=yL.mpr ⟨jn.mpr (zt e'),by simp[q]⟩;have z:(c9 h H).get? b=none:=PySem.W.hideAll_none (trk h H) hm;rw[z]at e;cases e
def aa(g h:Heap)(L:Addr):PNS:=(zE h.objs.size).filterMap λa=>if a=L\/(g.get? a).isSome=true then none else (h.get? a).map λo=>(a,o)
def rest(g h:Heap)(L d:Addr):PNS:=(aa g h L).filter λp=>decide (p.1≠d)
structure Mod(K:zj)(mg:Str->Option zg)(base:Heap):Prop where
 kin:K.In base
 glob:base.Ns jA mg
 blt:∃mb,base.Ns builtinsNs mb/\∀x:Str,x≠ "__name__"->mb x=jb x
 nolimit:base.NoLimit
structure Cx where
 prog:zV
 w:je
 K:zj
 mg:Str->Option zg
 base:Heap
 A:jm
 N:List Str
 WW:zw
 H₀:Hp
 env:Env
 outer:List Env
 stack:List Env
 ex:List Addr
 fn:Str->Bool
 calm:Bool
 pn:PNS
 xe:VSP
def frs(l:List Env):List Addr:=l.filterMap (·.frame)
abbrev Cx.fs(X:Cx):List Addr:=frs X.outer
def Vis(sc:Scope)(x:Str):Prop:=sc.names.lookup x=some .local\/sc.names.lookup x=some .cell\/sc.names.lookup x=some .free
def Loc(sc:Scope)(x:Str):Prop:=sc.names.lookup x=some .local\/sc.names.lookup x=some .cell
def IY(env:Env)(h:Heap)(m:Str->Option zg)(x:Str)(u:zg):Prop:=
 (env.kindOf x=some .local/\m x=some u)\/((env.kindOf x=some .cell\/env.kindOf x=some .free)/\∃c,env.cells.lookup x=some c/\h.IsCell c (some u))
structure Cx.Ok(X:Cx):Prop where
 mod:Mod X.K X.mg X.base
 kind:X.env.scope.kind= .function
 glob:X.env.globals=jA
 blt:X.env.builtins=builtinsNs
 above:X.WW.heap.objs.size<=X.env.locals
 inj:∀x y c,X.env.cells.lookup x=some c->X.env.cells.lookup y=some c->x=y
 has:∀x,(X.env.kindOf x=some .cell\/X.env.kindOf x=some .free)->∃c,X.env.cells.lookup x=some c
 cab:∀x c,X.fn x=true->X.env.cells.lookup x=some c->X.WW.heap.objs.size<=c
 hd:X.calm=true->X.A.handled=none
 frames:X.A.frames=some X.stack
 stk:X.stack=X.outer\/(X.stack=X.env::X.outer/\X.env.frame=some X.env.locals)
 exf:∀b∈X.ex,b≠X.env.locals/\∀x c,X.env.cells.lookup x=some c->c≠b
 bs:∀b o,X.base.get? b=some o->X.WW.heap.get? b=some o/\X.H₀ b=none
 bsz:X.base.objs.size<=X.WW.heap.objs.size
 noex:∀b o,X.base.get? b=some o->b∉X.ex
 exfs:∀b∈X.ex,b∉X.fs
 funs:X.WW.heap.FunFrames X.base X.outer
 frf:∀b∈X.fs,X.H₀ b=none
 gd:X.A.guards=some []
structure Inv(X:Cx)(pins:PNS)(σ:List (Option V))(H:Hp)(s:zw):Prop where
 ok:X.Ok
 os:s.os=X.WW.os
 bare:XG s.gens
 base:Un X.fs X.ex X.H₀ H X.WW.heap s.heap
 loc:∃m,s.heap.Ns X.env.locals m/\∀(i:Nat) (x:Str) (v:V),X.N[i]? =some x->σ[i]? =some (some v)->Vis X.env.scope x->∃u,t6 v u/\IY X.env s.heap m x u
 cell:∀x c,X.env.cells.lookup x=some c->∃v,s.heap.IsCell c v
 free:H X.env.locals=none
 freeC:∀x c,X.env.cells.lookup x=some c->H c=none
 pin:∀p∈X.pn++pins,s.heap.get? p.1=some p.2/\H p.1=none/\p.1≠X.env.locals/\p.1∉X.fs/\∀v,p.2.data≠ .cell v
 hok:HOk X.prog X.w H s.heap
 len:σ.length=X.N.length
section
variable{X:Cx}{pins:PNS}{σ:List (Option V)}{H H':Hp}{s:zw}
theorem Cx.Ok.nofr(ok:X.Ok)(e:X.base.get? b=some o):b∉X.fs:=λhb=>by have:=(ok.funs.mem hb).1;rw[e]at this;cases this
theorem Inv.bs(I:Inv X pins σ H s):∀b o,X.base.get? b=some o->s.heap.get? b=some o/\H b=none:=λb o e=>
 ⟨I.base.keep b o (I.ok.bs b o e).1 (I.ok.bs b o e).2 (I.ok.nofr e) (I.ok.noex b o e),I.base.free b o (I.ok.bs b o e).1 (I.ok.bs b o e).2 (I.ok.noex b o e)⟩
theorem Inv.bk(I:Inv X pins σ H s):∀b o,X.base.get? b=some o->s.heap.get? b=some o:=λb o e=>(I.bs b o e).1
theorem Inv.mod(I:Inv X pins σ H s):Mod X.K X.mg X.base:=I.ok.mod
theorem Inv.kIn(I:Inv X pins σ H s):X.K.In s.heap:=I.ok.mod.kin.keeps I.bk
theorem Inv.lt(I:Inv X pins σ H s):X.env.locals<s.heap.objs.size:=let ⟨_,hn,_⟩:=I.loc;hn.lt
theorem Inv.sz(I:Inv X pins σ H s):X.WW.heap.objs.size<=s.heap.objs.size:=zS I.ok.above (yT I.lt)
theorem Inv.nofs(I:Inv X pins σ H s)(h:s.heap.objs.size<=a):a∉X.fs:=λhb=>by obtain⟨_,o,ho,_⟩:=I.ok.funs.mem hb;exact absurd (jc (zt ho) (zS I.sz h)) (yU _)
theorem Inv.cne(I:Inv X pins σ H s):∀x c,X.env.cells.lookup x=some c->c≠X.env.locals:=λx c e z=>by obtain⟨v,o,ho,hd⟩:=I.cell x c e;obtain⟨m,⟨o',es,ep,ho',ui,_⟩,_⟩:=I.loc;rw[z,ho']at ho;cases ho;rw[ui]at hd;cases hd
theorem Inv.funs(I:Inv X pins σ H s):s.heap.FunFrames X.base X.outer:=by
 have all:∀(l:List Env),(∀b∈frs l,b∈X.fs)->X.WW.heap.FunFrames X.base l->s.heap.FunFrames X.base l:=by
  intro l
  induction l with
  |nil=>intro _ _;trivial
  |cons env r ih=>
    intro hs hl;obtain⟨hk,⟨L,o,hf,hn,ho,hd⟩,hr⟩:=hl;have hL:L∈X.fs:=hs L (by unfold frs;rw[jF,hf];exact zv);obtain⟨sl,e⟩:=I.base.slot L o ho (I.ok.frf L hL) hL λz=>I.ok.exfs L z hL;exact⟨hk,⟨L,_,hf,hn,e,hd⟩,ih (λb hb=>hs b (by unfold frs;rw[jF,hf];exact zl _ hb)) hr⟩
 exact all X.outer (λ_ hb=>hb) I.ok.funs
theorem Inv.stack(I:Inv X pins σ H s):s.heap.FunFrames X.base X.stack:=by
 rcases I.ok.stk with e|⟨e,hf⟩
 ·rw[e];exact I.funs
 ·rw[e];obtain⟨m,hn,_⟩:=I.loc;refine .cons (by rw[I.ok.kind];decide) hf hn ?_ I.funs;exact Heap.get?_none_of_le (zS I.ok.bsz I.ok.above)
theorem Inv.stkSub(I:Inv X pins σ H s):∀b∈frs X.stack,b∈X.env.locals::X.fs:=λb hb=>by
 rcases I.ok.stk with e|⟨e,hf⟩
 ·rw[e]at hb;exact zl _ hb
 ·rw[e]at hb;unfold frs at hb;rw[jF,hf]at hb;exact hb
theorem Inv.stkFree(I:Inv X pins σ H s):∀b∈frs X.stack,H b=none:=λb hb=>by
 rcases zr.mp (I.stkSub b hb)with e|hb
 ·rw[e];exact I.free
 ·obtain⟨_,o,ho,_⟩:=I.ok.funs.mem hb;exact I.base.free b o ho (I.ok.frf b hb) λz=>I.ok.exfs b z hb
theorem Inv.step{t':Nat}{d':Drawn}{ch:List Addr}(I:Inv X pins σ H s)
 (hch:∀b∈ch,(b∈X.ex\/X.WW.heap.objs.size<=b)/\b≠X.env.locals/\(∀x c,X.env.cells.lookup x=some c->c≠b)/\∀p∈X.pn++pins,p.1≠b)
 (keep:∀b o,b≠X.env.locals->b∉X.fs->b∉ch->s.heap.get? b=some o->H b=none->h'.get? b=some o)
 (slot:∀b o,b≠X.env.locals->b∈X.fs->b∉ch->s.heap.get? b=some o->H b=none->∃sl,h'.get? b=some {o with slots:=sl}) (free:∀b o,b∉ch->s.heap.get? b=some o->H b=none->H' b=none)
 (there:∀b o,b∉ch->s.heap.get? b=some o->∃o',h'.get? b=some o')
 (tups:∀b xs,H b=some (.tup xs)->H' b=some (.tup xs)) (frzs:∀b o u,H b=some (.frz o u)->H' b=some (.frz o u)) (tbls:∀b ps,H b=some (.tbl ps)->∃more,H' b=some (.tbl (ps++more)))
 (ns:∀m,s.heap.Ns X.env.locals m->h'.Ns X.env.locals m) (hok:HOk X.prog X.w H' h') (hg:XG g'):
 Inv X pins σ H' {s with heap:=h',gens:=g',drawn:=d',toks:=t'}:=by
 have neL:∀b o,X.WW.heap.get? b=some o->b≠X.env.locals:=λb o e=>zC (jc (zt e) I.ok.above);have neC:∀b o,X.WW.heap.get? b=some o->b∉X.ex->b∉ch:=λb o e hx hb=>by
  rcases (hch b hb).1 with z|z
  ·exact hx z
  ·exact absurd (jc (zt e) z) (yU _)
 have cellK:∀x c,X.env.cells.lookup x=some c->∀v,s.heap.IsCell c v->h'.IsCell c v:=λx c e v ⟨o,ho,hd⟩=>by
  have nch:c∉ch:=λz=>(hch c z).2.2.1 x c e rfl;by_cases hc:c∈X.fs
  ·obtain⟨sl,q⟩:=slot c o (I.cne x c e) hc nch ho (I.freeC x c e);exact⟨_,q,hd⟩
  ·exact⟨o,keep c o (I.cne x c e) hc nch ho (I.freeC x c e),hd⟩
 refine⟨I.ok,I.os,hg,⟨λb o e n hb hx=>?_,λb o e n hb hx=>?_,λb o e n hx=>?_,λb o e hx=>?_,λb xs e=>tups b xs (I.base.tups b xs e),λb o xs e=>frzs b o xs (I.base.frzs b o xs e),λb ps e=>?_⟩,?_,λx c e=>?_,?_,λx c e=>?_,λp hp=>?_,hok,I.len⟩
 ·exact keep b o (neL b o e) hb (neC b o e hx) (I.base.keep b o e n hb hx) (I.base.free b o e n hx)
 ·obtain⟨sl,e1⟩:=I.base.slot b o e n hb hx;obtain⟨sl',e2⟩:=slot b _ (neL b o e) hb (neC b o e hx) e1 (I.base.free b o e n hx);exact⟨sl',e2⟩
 ·obtain⟨o',e1⟩:=I.base.there b o e hx;exact free b o' (neC b o e hx) e1 (I.base.free b o e n hx)
 ·obtain⟨o',e1⟩:=I.base.there b o e hx;exact there b o' (neC b o e hx) e1
 ·obtain⟨m1,e1⟩:=I.base.tbls b ps e;obtain⟨m2,e2⟩:=tbls b _ e1;exact⟨m1++m2,by rw[e2,Array.append_assoc]⟩
 · obtain⟨m,hn,hl⟩:=I.loc;refine⟨m,ns m hn,λi x v e1 e2 e3=>?_⟩;obtain⟨u,r,l⟩:=hl i x v e1 e2 e3;refine⟨u,r,?_⟩;rcases l with l|⟨k,c,e,z⟩
   ·exact .inl l
   ·exact .inr ⟨k,c,e,cellK x c e _ z⟩
 ·obtain⟨v,z⟩:=I.cell x c e;exact⟨v,cellK x c e v z⟩
 ·obtain⟨m,⟨o,_,_,ho,_⟩,_⟩:=I.loc;exact free _ o (λz=>(hch _ z).2.1 rfl) ho I.free
 ·obtain⟨v,o,ho,hd⟩:=I.cell x c e;exact free c o (λz=>(hch c z).2.2.1 x c e rfl) ho (I.freeC x c e)
 ·obtain⟨e,n,ne,nf,d⟩:=I.pin p hp;have nch:p.1∉ch:=λz=>(hch p.1 z).2.2.2 p hp rfl;exact⟨keep p.1 p.2 ne nf nch e n,free p.1 p.2 nch e n,ne,nf,d⟩
theorem Inv.un(I:Inv X pins σ H s)(u:Un X.fs [] H H' s.heap h')(hok:HOk X.prog X.w H' h'):Inv X pins σ H' {s with heap:=h',toks:=t'}:=by
 obtain⟨m,⟨o,es,ep,ho,r⟩,_⟩:=id I.loc;obtain⟨sl,hL⟩:=u.any ho I.free (by simp);exact I.step (g':=s.gens) (d':=s.drawn) (ch:= []) (λ_ z=>nomatch z) (λb o _ hb _ e n=>u.keep b o e n hb (by simp)) (λb o _ hb _ e n=>u.slot b o e n hb (by simp)) (λb o _ e n=>u.free b o e n (by simp)) (λb o _ e=>u.there b o e (by simp)) u.tups u.frzs u.tbls (λm' hm=>by obtain⟨o',uh,ep',ho',r'⟩:=hm;rw[ho]at ho';cases ho';exact⟨_,uh,ep',hL,r'⟩) hok I.bare
theorem Inv.call{t':Nat}{d':Drawn}{ch:List Addr}(I:Inv X pins σ H s)(u:Un (frs X.stack) ch H H' s.heap h')(hok:HOk X.prog X.w H' h')(hg:XG g')
 (hch:∀b∈ch,(b∈X.ex\/X.WW.heap.objs.size<=b)/\b≠X.env.locals/\(∀x c,X.env.cells.lookup x=some c->c≠b)/\∀p∈X.pn++pins,p.1≠b):
 Inv X pins σ H' {s with heap:=h',gens:=g',drawn:=d',toks:=t'}:=by
 obtain⟨m,⟨o,es,ep,ho,r⟩,_⟩:=id I.loc;obtain⟨sl,hL⟩:=u.any ho I.free λz=>(hch _ z).2.1 rfl;exact I.step (ch:=ch) hch (λb o hL hb hc e n=>u.keep b o e n (λz=>(zr.mp (I.stkSub b z)).elim hL hb) hc) (λb o _ _ hc e n=>u.any e n hc) (λb o hc e n=>u.free b o e n hc) (λb o hc e=>u.there b o e hc) u.tups u.frzs u.tbls (λm' hm=>by obtain⟨o',uh,ep',ho',r'⟩:=hm;rw[ho]at ho';cases ho';exact⟨_,uh,ep',hL,r'⟩) hok hg
theorem Inv.turned{t':Nat}(I:Inv X pins σ H s)(k:∀b o,b≠it->s.heap.get? b=some o->h'.get? b=some o)(hn:H it=none)(hL:it≠X.env.locals)
 (h1:it∈X.ex\/X.WW.heap.objs.size<=it) (h2:∀x c,X.env.cells.lookup x=some c->c≠it) (h3:∀p∈X.pn++pins,p.1≠it):Inv X pins σ H {s with heap:=h',toks:=t'}:=by
 have nit:∀b u,H b=some u->b≠it:=λb u e z=>by rw[z,hn]at e;cases e
 refine I.step (g':=s.gens) (d':=s.drawn) (ch:= [it]) (λb hb=>?_) (λb o _ _ hc e _=>k b o (λz=>hc (by simp[z])) e) (λb o _ _ hc e _=>⟨o.slots,k b o (λz=>hc (by simp[z])) e⟩) (λ_ _ _ _ n=>n)
  (λb o hc e=>⟨o,k b o (λz=>hc (by simp[z])) e⟩) (λ_ _ e=>e) (λ_ _ _ e=>e) (λb ps e=>⟨#[],by rw[e];simp⟩) (λm hm=>?_) (λb u e=>?_) I.bare
 · have e:b=it:=by simpa using hb
   subst e;exact⟨h1,hL,h2,h3⟩
 ·obtain⟨o,es,ep,ho,r⟩:=hm;exact⟨o,es,ep,k _ o (Ne.symm hL) ho,r⟩
 · refine(I.hok b u e).stay (λc v hc q=>k c v ?_ q) (λ_ q=>q) λ_ _ q=>q;rcases hc with z|z
   ·rw[z];exact nit b u e
   ·exact nit c _ z
theorem Inv.tok(I:Inv X pins σ H s)(t:Nat):Inv X pins σ H {s with toks:=t}:=I.un (h':=s.heap) (t':=t) Un.refl I.hok
theorem Inv.kept(I:Inv X pins σ H s)(k:∀b u,s.heap.get? b=some u->h'.get? b=some u):Inv X pins σ H {s with heap:=h',toks:=t'}:=I.un (Un.kept k) (I.hok.kept k)
theorem Inv.laid(I:Inv X pins σ H s)(k:∀b u,s.heap.get? b=some u->h'.get? b=some u)(hp:s.heap.objs.size<=a)(new:O4 X.prog X.w (upd H a o) h' a o):
 Inv X pins σ (upd H a o) {s with heap:=h',toks:=t'}:=I.un (Un.laid k hp (I.hok.fresh hp)) (I.hok.laid k hp new)
theorem Inv.write(I:Inv X pins σ H s)(mu:Mut (H x))(he:e=x\/H e=some (.own x))(k:∀b u,b≠e->s.heap.get? b=some u->h'.get? b=some u)(heo:∃u,h'.get? e=some u)
 (new:O4 X.prog X.w (upd H x o) h' x o):Inv X pins σ (upd H x o) {s with heap:=h',toks:=t'}:=I.un (Un.write mu he k heo) (I.hok.write mu he k heo new)
theorem Inv.pins_of(I:Inv X pins σ H s)(h:∀p∈pins',s.heap.get? p.1=some p.2/\H p.1=none/\p.1≠X.env.locals/\p.1∉X.fs/\∀v,p.2.data≠ .cell v):Inv X pins' σ H s:=
 ⟨I.ok,I.os,I.bare,I.base,I.loc,I.cell,I.free,I.freeC,λp hp=>(zR.mp hp).elim (λz=>I.pin p (yf _ z)) (h p),I.hok,I.len⟩
theorem mS{N:List Str}(hN:N.Nodup){i j:Nat}{x:Str}(a:N[i]? =some x)(b:N[j]? =some x):i=j:=by obtain⟨h1,e1⟩:=xb.mp a;obtain⟨h2,e2⟩:=xb.mp b;exact(Jf hN).mp (e1.trans e2.symm)
theorem gY{M:Model}{A:jm}{E:VSP}{i:Nat}{x:Str}{v:V}{u:zg}{Q:Unit->zw->Prop}(I:Inv X pins σ H s)(hN:X.N.Nodup)(hi:X.N[i]? =some x)(hx:Loc X.env.scope x)(r:t6 v u)
 (h:∀s',Inv X pins (σ.set i (some v)) H s'->(∃a,yA a s.heap s'.heap/\(a=X.env.locals\/X.env.cells.lookup x=some a))->Q () s') (hf:X.fn x=true\/X.env.scope.names.lookup x=some .local):zo M A (storeName X.env x u) Q E s:=by
 obtain⟨m,hn,hl⟩:=id I.loc;have hcls:(X.env.scope.kind == .class||(X.env.scope.kind == .module&&X.env.locals != X.env.globals))=false:=by rw[I.ok.kind];rfl
 have hiσ:i<σ.length:=by rw[I.len];exact(xb.mp hi).1
 have cne:=I.cne;have tracked:∀ {a:Addr} {h':Heap},(∃o,s.heap.get? a=some o/\H a=none)->yA a s.heap h'->HOk X.prog X.w H h':=λ{a h'} ha hs b ob e=>by
  obtain⟨_,_,hfree⟩:=ha;refine(I.hok b ob e).stay (λc w' hc q=>(hs.2 c ?_).trans q) (λ_ q=>q) λ_ _ q=>q;rintro rfl;rcases hc with rfl|hc
  ·rw[hfree]at e;cases e
  ·rw[hfree]at hc;cases hc
 rcases hx with hk|hk
 · refine wpAny_storeName_local hk hn (λh' hn' hs=>?_) hcls;obtain⟨oL,_,_,hoL,_⟩:=id hn;refine h _ ⟨I.ok,I.os,I.bare,⟨λb o e n hb hx=>?_,λb o e n hb hx=>?_,I.base.free,λb o e hx=>?_,I.base.tups,I.base.frzs,I.base.tbls⟩,⟨_,hn',λj y v' e1 e2 e3=>?_⟩,λy c e=>?_,I.free,I.freeC,λp hp=>?_,tracked ⟨oL,hoL,I.free⟩ hs,by simpa using I.len⟩ ⟨_,hs,.inl rfl⟩
   ·exact(hs.2 b (zC (jc (zt e) I.ok.above))).trans (I.base.keep b o e n hb hx)
   ·obtain⟨sl,e1⟩:=I.base.slot b o e n hb hx;exact⟨sl,(hs.2 b (zC (jc (zt e) I.ok.above))).trans e1⟩
   ·obtain⟨o',e1⟩:=I.base.there b o e hx;exact⟨o',(hs.2 b (zC (jc (zt e) I.ok.above))).trans e1⟩
   · by_cases hj:j=i
     · subst hj;rw[hi]at e1;cases e1;rw[jo hiσ]at e2
       cases e2
       exact⟨u,r,.inl ⟨hk,by simp⟩⟩
     · rw[jL (Ne.symm hj)]at e2;obtain⟨u',r',q⟩:=hl j y v' e1 e2 e3;refine⟨u',r',?_⟩;rcases q with⟨k,e⟩|⟨k,c,e,z⟩
       ·refine .inl ⟨k,?_⟩;have:y≠x:=λe=>hj (mS hN e1 (e▸hi));simp[this,e]
       ·exact .inr ⟨k,c,e,z.sameBut hs (cne y c e)⟩
   ·obtain⟨w',z⟩:=I.cell y c e;exact⟨w',z.sameBut hs (cne y c e)⟩
   ·obtain⟨e,n,ne,nf,d⟩:=I.pin p hp;exact⟨(hs.2 p.1 ne).trans e,n,ne,nf,d⟩
 · have hfn:X.fn x=true:=by
    rcases hf with z|z
    ·exact z
    ·rw[z]at hk;cases hk
   obtain⟨c,hc⟩:=I.ok.has x (.inl hk);obtain⟨w',z⟩:=I.cell x c hc;refine wpAny_storeName_cell I.ok.kind hk hc z (λh' hc' hs=>?_);obtain⟨oc,hoc,hocd⟩:=id z;refine h {s with heap:=h'} ⟨I.ok,I.os,I.bare,⟨λb o e n hb hx=>?_,λb o e n hb hx=>?_,I.base.free,λb o e hx=>?_,I.base.tups,I.base.frzs,I.base.tbls⟩,⟨m,hn.sameBut hs (Ne.symm (cne x c hc)),λj y v' e1 e2 e3=>?_⟩,λy c' e=>?_,I.free,I.freeC,λp hp=>?_,tracked ⟨oc,hoc,I.freeC x c hc⟩ hs,by simpa using I.len⟩ ⟨c,hs,.inr hc⟩
   ·exact(hs.2 b (zC (jc (zt e) (I.ok.cab x c hfn hc)))).trans (I.base.keep b o e n hb hx)
   ·obtain⟨sl,e1⟩:=I.base.slot b o e n hb hx;exact⟨sl,(hs.2 b (zC (jc (zt e) (I.ok.cab x c hfn hc)))).trans e1⟩
   ·obtain⟨o',e1⟩:=I.base.there b o e hx;exact⟨o',(hs.2 b (zC (jc (zt e) (I.ok.cab x c hfn hc)))).trans e1⟩
   · by_cases hj:j=i
     · subst hj;rw[hi]at e1;cases e1;rw[jo hiσ]at e2
       cases e2
       exact⟨u,r,.inr ⟨.inl hk,c,hc,hc'⟩⟩
     · rw[jL (Ne.symm hj)]at e2;obtain⟨u',r',q⟩:=hl j y v' e1 e2 e3;refine⟨u',r',?_⟩;rcases q with q|⟨k,c',e,z'⟩
       ·exact .inl q
       ·refine .inr ⟨k,c',e,z'.sameBut hs ?_⟩;rintro rfl;exact hj (mS hN e1 (I.ok.inj _ _ _ e hc▸hi))
   · by_cases hcc:c'=c
     ·subst hcc;exact⟨_,hc'⟩
     ·obtain⟨w2,z2⟩:=I.cell y c' e;exact⟨w2,z2.sameBut hs hcc⟩
   ·obtain⟨e,n,ne,nf,d⟩:=I.pin p hp;refine⟨(hs.2 p.1 ?_).trans e,n,ne,nf,d⟩;intro q;rw[q,hoc]at e;have q':oc=p.2:=js e;exact d w' (by rw[<-q'];exact hocd)
theorem Nd(I:Inv X pins σ H s)(hN:X.N.Nodup)(hi:X.N[i]? =some x)(hx:Loc X.env.scope x)(r:t6 v u)
 (h:∀s',Inv X pins (σ.set i (some v)) H s'->Q () s') (hf:X.fn x=true\/X.env.scope.names.lookup x=some .local):zo M A (storeName X.env x u) Q E s:=
 gY I hN hi hx r (λs' I' _=>h s' I') hf
end
abbrev XK:=zg->Option Addr->Hp->Prop
abbrev St:=List (Option V)
abbrev VK:=V->Hp->Prop
abbrev TE:=St->Hp->VK->Prop
abbrev TT:=St->Hp->(Bool->Hp->Prop)->Prop
abbrev TA:=St->Hp->(List V->Hp->Prop)->Prop
structure fA where
 nx:St->Hp->Prop
 rt:VK
 bk:St->Hp->Prop:=λ_ _=>False
 ct:St->Hp->Prop:=λ_ _=>False
abbrev TS:=fA->St->Hp->Prop
def EP(X:Cx)(pins:PNS)(σ:St)(Q:VK)(u:zg)(s':zw):Prop:=∃v H',Inv X pins σ H' s'/\t6 v u/\Q v H'
def TP(X:Cx)(pins:PNS)(σ:St)(Q:Bool->Hp->Prop)(b:Bool)(s':zw):Prop:=∃H',Inv X pins σ H' s'/\Q b H'
def AP(X:Cx)(pins:PNS)(σ:St)(Q:List V->Hp->Prop)(us:List zg)(s':zw):Prop:=∃vs H',Inv X pins σ H' s'/\m7 vs us/\Q vs H'
theorem EP.elim{X:Cx}{σ:St}{Q:VK}{u:zg}{P:Prop}(h:EP X pins σ Q u s)(k:∀v H,Inv X pins σ H s->t6 v u->Q v H->P):P:=by obtain⟨a,b,c,d,e⟩:=h;exact k a b c d e
theorem TP.elim{X:Cx}{σ:St}{u:Bool}{s:zw}{P:Prop}(h:TP X pins σ Q u s)(k:∀H,Inv X pins σ H s->Q u H->P):P:=by obtain⟨b,c,e⟩:=h;exact k b c e
theorem AP.elim{X:Cx}{σ:St}{u:List zg}{s:zw}{P:Prop}(h:AP X pins σ Q u s)(k:∀v H,Inv X pins σ H s->m7 v u->Q v H->P):P:=by obtain⟨a,b,c,d,e⟩:=h;exact k a b c d e
def SP(X:Cx)(pins:PNS)(D:fA)(f:Flow)(s':zw):Prop:=
 match f with
 | .next=>∃ X1 H',Inv X pins X1 H' s'/\D.nx X1 H'
 | .brk=>∃ X1 H',Inv X pins X1 H' s'/\D.bk X1 H'
 | .cont=>∃ X1 H',Inv X pins X1 H' s'/\D.ct X1 H'
 | .ret u=>∃v X1 H',Inv X pins X1 H' s'/\t6 v u/\D.rt v H'
def PE(X:Cx)(e:Expr)(t:TE):Prop:=
 ∀(pins:PNS) (s:zw) (σ:St) (H:Hp) (Q:VK),Inv X pins σ H s->t σ H Q->zo (zA X.prog X.w) X.A (eval e X.env) (EP X pins σ Q) X.xe s
def PT(X:Cx)(e:Expr)(t:TT):Prop:=
 ∀(pins:PNS) (s:zw) (σ:St) (H:Hp) (Q:Bool->Hp->Prop),Inv X pins σ H s->t σ H Q->zo (zA X.prog X.w) X.A (isTrue e X.env (eval e X.env)) (TP X pins σ Q) X.xe s
def PW(X:Cx)(e:Expr)(t:TT):Prop:=
 ∀(whole:Sem zg) (pins:PNS) (s:zw) (σ:St) (H:Hp) (Q:Bool->Hp->Prop),Inv X pins σ H s->t σ H Q->zo (zA X.prog X.w) X.A (isTrue e X.env whole) (TP X pins σ Q) X.xe s
def PA(X:Cx)(es:List Expr)(t:TA):Prop:=
 ∀(pos:Pos) (pins:PNS) (s:zw) (σ:St) (H:Hp) (Q:List V->Hp->Prop),Inv X pins σ H s->t σ H Q->zo (zA X.prog X.w) X.A (spliced (xF pos (zX es X.env))) (AP X pins σ Q) X.xe s
def PS(X:Cx)(st:Stmt)(t:TS):Prop:=
 ∀(pins:PNS) (s:zw) (σ:St) (H:Hp) (D:fA),Inv X pins σ H s->t D σ H->zo (zA X.prog X.w) X.A (exec st X.env) (SP X pins D) X.xe s
def PSs(X:Cx)(st:List Stmt)(t:TS):Prop:=
 ∀(pins:PNS) (s:zw) (σ:St) (H:Hp) (D:fA),Inv X pins σ H s->t D σ H->zo (zA X.prog X.w) X.A (execs st X.env) (SP X pins D) X.xe s
theorem thn(h:zo M A t Q E s)(hQ:∀a s,Q a s->Q' a s):zo M A t Q' E s:=jE h hQ λ_ _ x=>x
section
variable{X:Cx}
def FO(i:Nat):TE:=λσ H Q=>∃v,σ[i]? =some (some v)/\Q v H
def tC(v:V):TE:=λ_ H Q=>Q v H
theorem MW(hN:X.N[i]? =some x)(hv:Vis X.env.scope x)(hd:(x==("__debug__" :Str))=false)(hcd:(x==("__classdict__" :Str))=false):PE X (.Name x pos) (FO i):=by
 intro pins s σ H Q I h;obtain⟨v,e,h⟩:=h;obtain⟨m,hn,hl⟩:=I.loc;obtain⟨u,r,l⟩:=hl i x v hN e hv;have fin:EP X pins σ Q u s:=⟨v,H,I,r,h⟩;rcases l with⟨hk,hm⟩|⟨hk,c,hc,hcell⟩
 ·exact wpAny_Name (wpAny_loadName_local I.ok.kind hk hn hm fin) hd
 · rcases hk with hk|hk
   ·exact wpAny_Name (wpAny_loadName_cell I.ok.kind hk hc hcell fin) hd
   ·exact wpAny_Name (wpAny_loadName_free I.ok.kind hk hc hcell fin hcd) hd
theorem pQ{i j pos}:PE X (.Constant (.int i) j pos) (tC (.int i)):=λ_ _ _ H _ I h=>wpAny_Constant_int ⟨.int i,H,I.tok _,⟨_,rfl⟩,h⟩
theorem Gp{b j pos}:PE X (.Constant (.bool b) j pos) (tC (.bl b)):=λ_ _ _ H _ I h=>Constant_bool ⟨.bl b,H,I,rfl,h⟩
theorem FT{j pos}:PE X (.Constant .none j pos) (tC .non):=λ_ _ _ H _ I h=>Constant_none ⟨.non,H,I,rfl,h⟩
theorem vv{x j pos}:PE X (.Constant (.str x) j pos) (tC (.str x)):=λ_ _ _ H _ I h=>Calls.Constant_str ⟨.str x,H,I.tok _,⟨_,rfl⟩,h⟩
def Gl(X:Cx)(x:Str):Prop:=X.env.kindOf x=some .globalImplicit
theorem pE(I:Inv X pins σ H s)(hg:Gl X x)(hm:X.mg x=some u)(h:Q u s)
 (hd:(x==("__debug__" :Str))=false):zo (zA X.prog X.w) X.A (eval (.Name x pos) X.env) Q E s:=
 JE I.ok.kind hg (Calls.loadGlobal_global (by rw[I.ok.glob];exact I.mod.glob.keeps I.bk) hm h) hd
theorem D6(I:Inv X pins σ H s)(hg:Gl X x)(hm:X.mg x=none)(hv:jb x=some u)(h:Q u s)
 (hn:x≠ "__name__":=by decide) (hd:(x==("__debug__" :Str))=false:=by decide):zo (zA X.prog X.w) X.A (eval (.Name x pos) X.env) Q E s:=by
 obtain⟨mb,h1,h2⟩:=I.mod.blt;exact JE I.ok.kind hg (Calls.loadGlobal_builtin (by rw[I.ok.glob];exact I.mod.glob.keeps I.bk) hm (by rw[I.ok.blt];exact h1.keeps I.bk) ((h2 x hn).trans hv) h) hd
theorem SV(hg:Gl X x)(hm:X.mg x=none)(hv:jb x=some u)(r:t6 v u)(hn:x≠ "__name__")(hd:(x==("__debug__" :Str))=false):PE X (.Name x pos) (tC v):=
 λ_ _ _ H _ I h=>D6 I hg hm hv ⟨v,H,I,r,h⟩ hn hd
variable{a b:Expr}{ta tb:TE}{pos:Pos}
def tB(t:TE):TT:=λσ H Q=>t σ H λx H1=>∃c,x= .bl c/\Q c H1
variable{tA tB':TT}{rest:List Expr}
def qW(t u:TT):TT:=λσ H Q=>t σ H λc H1=>if c=true then u σ H1 Q else Q false H1
def tOr(t u:TT):TT:=λσ H Q=>t σ H λc H1=>if c=true then Q true H1 else u σ H1 Q
def eY(t:TT):TT:=λσ H Q=>t σ H λc H1=>Q (!c) H1
theorem AV(ha:PT X a tA):PW X (.BoolOp .And [a] pos) tA:=by
 intro wh pins s σ H Q I h;refine isTrue_and (thn (ha pins s σ H Q I h) λc s1 e=>?_)
 cases c with
 |true=>exact isTrue_and_nil e
 |false=>exact e
theorem CW(ha:PT X a tA):PW X (.BoolOp .Or [a] pos) tA:=by
 intro wh pins s σ H Q I h;refine isTrue_or (thn (ha pins s σ H Q I h) λc s1 e=>?_)
 cases c with
 |false=>exact isTrue_or_nil e
 |true=>exact e
theorem SX(ha:PT X a tA)(hb:PW X (.BoolOp .And (b::rest) pos) tB'):PW X (.BoolOp .And (a::b::rest) pos) (qW tA tB'):=by
 intro wh pins s σ H Q I h;refine isTrue_and (thn (ha pins s σ H _ I h) λc s1 sg=>sg.elim λH1 I1 q1=>?_)
 cases c with
 |true=>exact hb wh pins s1 σ H1 Q I1 q1
 |false=>exact⟨H1,I1,q1⟩
theorem Rm(ha:PT X a tA)(hb:PW X (.BoolOp .Or (b::rest) pos) tB'):PW X (.BoolOp .Or (a::b::rest) pos) (tOr tA tB'):=by
 intro wh pins s σ H Q I h;refine isTrue_or (thn (ha pins s σ H _ I h) λc s1 sg=>sg.elim λH1 I1 q1=>?_)
 cases c with
 |true=>exact⟨H1,I1,q1⟩
 |false=>exact hb wh pins s1 σ H1 Q I1 q1
theorem TU(ha:PT X a tA):PT X (.UnaryOp .Not a pos) (eY tA):=by intro pins s σ H Q I h;exact isTrue_not (ha pins s σ H (λc H1=>Q (!c) H1) I h)
def bX(ta:TE):TE:=λσ H Q=>ta σ H λx H1=>∃c,x= .bl c/\Q (.bl (!c)) H1
theorem RU{op}(h:PE X a t):PE X (.BoolOp op [a] pos) t:=λpins s σ H Q I hw=>BoolOp_one (h pins s σ H Q I hw)
theorem ET(ha:PE X a ta):PE X (.UnaryOp .Not a pos) (bX ta):=by
 intro pins s σ H Q I h;refine UnaryOp_ (thn (ha pins s σ H _ I h) λv s1 sg=>sg.elim λx H1 I1 r1 q1=>?_);obtain⟨c,rfl,q1⟩:=q1
 cases r1
 exact not_of (xP ⟨.bl (!c),H1,I1,rfl,q1⟩)
def tIf(t:TT)(ta tb:TE):TE:=λσ H Q=>t σ H λc H1=>if c=true then ta σ H1 Q else tb σ H1 Q
theorem QY(hc:PT X c tA)(ha:PE X a ta)(hb:PE X b tb):PE X (.IfExp c a b pos) (tIf tA ta tb):=by
 intro pins s σ H Q I h;refine wpAny_IfExp (thn (hc pins s σ H _ I h) λd s1 sg=>sg.elim λH1 I1 q1=>?_)
 cases d with
 |true=>exact ha pins s1 σ H1 Q I1 q1
 |false=>exact hb pins s1 σ H1 Q I1 q1
end
def SqL(K:zj)(H:Hp)(a:Addr)(xs:List V):Prop:=
 Rd H a (.lst xs)\/
  ∃(o:Obj) (qu:Array zg) (n:Nat),K.lookup a=some o/\o.cls= .type "list"/\o.dict=none/\o.data= .seq qu n/\qu.size<=zi/\m7 xs qu.toList
def SqT(K:zj)(H:Hp)(a:Addr)(xs:List V):Prop:=
 Rd H a (.tup xs)\/
  ∃(o:Obj) (qu:Array zg) (n:Nat),K.lookup a=some o/\o.cls= .type "tuple"/\(o.data,o.dict)= (Data.seq qu n,none)/\qu.size<=zi/\m7 xs qu.toList
def kX:zg->Option V
 | .none=>some .non
 | .bool b=>some (.bl b)
 | .int i _=>some (.int i)
 | .str x _=>some (.str x)
 | .bytes b _=>some (.byt b)
 | .float b _=>some (.flt b)
 | .ref a=>some (.ref a)
 | .type n=>some (.ty n)
 |_=>none
theorem t6.abs(r:t6 x u):kX u=some x:=by
 cases x with
 |non=>cases r;rfl
 |bl _=>cases r;rfl
 |int _=>obtain⟨t,rfl⟩:=r;rfl
 |str _=>obtain⟨t,rfl⟩:=r;rfl
 |byt _=>obtain⟨t,rfl⟩:=r;rfl
 |flt _=>obtain⟨t,rfl⟩:=r;rfl
 |ref _=>cases r;rfl
 |ty _=>cases r;rfl
theorem t6.inj(r:t6 x u)(q:t6 y u):x=y:=js (r.abs.symm.trans q.abs)
theorem m7.inj(h:m7 xs us)(k:m7 ys us):xs=ys:=by
 induction h generalizing ys with
 |nil=>cases k;rfl
 |cons r t ih=>cases k with
   |cons r' t'=>rw[r.inj r',ih t']
section
theorem SqL.of{K:zj}(h:H a=some (.lst xs)):SqL K H a xs:=.inl (.inl h)
theorem SqT.of{K:zj}(h:H a=some (.tup xs)):SqT K H a xs:=.inl (.inl h)
theorem Inv.list(I:Inv X pins σ H s)(h:SqL X.K H a xs):∃qu:List zg,m7 xs qu/\PlainL s.heap a qu.toArray/\xs.length<=zi:=by
 rcases h with h|⟨o,qu,n,hk,hc,hd,hs,hz,r⟩
 ·obtain⟨z,qu,n,r,e⟩:=h.ok I.hok;exact⟨qu,r,⟨_,n,e,rfl,rfl,rfl⟩,z⟩
 ·refine⟨qu.toList,r,⟨o,n,I.kIn a o hk,hc,hd,by simpa using hs⟩,?_⟩;have e:=r.length;simp only[zF]at e;lia
theorem Inv.tuple(I:Inv X pins σ H s)(h:SqT X.K H a xs):∃qu:List zg,m7 xs qu/\xY s.heap a qu.toArray/\xs.length<=zi:=by
 rcases h with h|⟨o,qu,n,hk,hc,hs,hz,r⟩
 ·obtain⟨z,qu,r,p⟩:=h.ok I.hok;exact⟨qu,r,P4.tup p,z⟩
 ·refine⟨qu.toList,r,⟨o,I.kIn a o hk,hc,n,by simpa using (xI hs).1⟩,?_⟩;have e:=r.length;simp only[zF]at e;lia
theorem Inv.list_inj(I:Inv X pins σ H s)(h:SqL X.K H a xs)(h':SqL X.K H a ys):xs=ys:=by
 obtain⟨qu,r,⟨o,n,e,_,_,d⟩,_⟩:=I.list h;obtain⟨its',r',⟨o',n',e',_,_,d'⟩,_⟩:=I.list h';rw[e]at e';cases e';rw[d]at d';injection d' with d1 _;have:qu=its':=by simpa using congrArg Array.toList d1
 subst this;exact r.inj r'
theorem Inv.tuple_inj(I:Inv X pins σ H s)(h:SqT X.K H a xs)(h':SqT X.K H a ys):xs=ys:=by
 obtain⟨qu,r,⟨o,e,_,n,d⟩,_⟩:=I.tuple h;obtain⟨its',r',⟨o',e',_,n',d'⟩,_⟩:=I.tuple h';rw[e]at e';cases e';rw[d]at d';injection d' with d1 _;have:qu=its':=by simpa using congrArg Array.toList d1
 subst this;exact r.inj r'
end
abbrev Cx.wish(X:Cx)(E:VSP):Cx:={X with xe:=E}
abbrev Cx.nox(X:Cx):Cx:=X.wish λ_ _=>False
theorem Cx.Ok.wish{X:Cx}(ok:X.Ok)(E:VSP):(X.wish E).Ok:=
 ⟨ok.mod,ok.kind,ok.glob,ok.blt,ok.above,ok.inj,ok.has,ok.cab,ok.hd,ok.frames,ok.stk,ok.exf,ok.bs,ok.bsz,ok.noex,ok.exfs,ok.funs,ok.frf,ok.gd⟩
theorem Cx.Ok.unwish{X:Cx}(ok:(X.wish E).Ok):X.Ok:=
 ⟨ok.mod,ok.kind,ok.glob,ok.blt,ok.above,ok.inj,ok.has,ok.cab,ok.hd,ok.frames,ok.stk,ok.exf,ok.bs,ok.bsz,ok.noex,ok.exfs,ok.funs,ok.frf,ok.gd⟩
section
theorem Inv.wish(I:Inv X pins σ H s)(E:VSP):Inv (X.wish E) pins σ H s:=⟨I.ok.wish E,I.os,I.bare,I.base,I.loc,I.cell,I.free,I.freeC,I.pin,I.hok,I.len⟩
theorem Inv.unwish(I:Inv (X.wish E) pins σ H s):Inv X pins σ H s:=⟨I.ok.unwish,I.os,I.bare,I.base,I.loc,I.cell,I.free,I.freeC,I.pin,I.hok,I.len⟩
theorem SP.unwish(h:SP (X.wish E) pins D f s'):SP X pins D f s':=by
 cases f with
 |next=>obtain⟨X1,H',I,q⟩:=h;exact⟨X1,H',I.unwish,q⟩
 |brk=>obtain⟨X1,H',I,q⟩:=h;exact⟨X1,H',I.unwish,q⟩
 |cont=>obtain⟨X1,H',I,q⟩:=h;exact⟨X1,H',I.unwish,q⟩
 |ret u=>obtain⟨v,X1,H',I,r,q⟩:=h;exact⟨v,X1,H',I.unwish,r,q⟩
theorem PSs.nox{st:List Stmt}(h:PSs X.nox st t):PSs X st t:=λpins s σ H D I hw=>
 jE (h pins s σ H D (I.wish _) hw) (λ_ _ q=>q.unwish) λ_ _ z=>jU z
end
section
variable{X:Cx}{st:Stmt}{rest:List Stmt}{t u:TS}
def Nb:TS:=λD σ H=>D.nx σ H
def MV(t u:TS):TS:=λD σ H=>t {D with nx:=u D} σ H
theorem Bj:PSs X [] Nb:=λ_ _ σ H _ I h=>ZL ⟨σ,H,I,h⟩
theorem dl(h1:PS X st t)(h2:PSs X rest u):PSs X (st::rest) (MV t u):=by
 intro pins s σ H D I h;refine wpAny_execs_cons (thn (h1 pins s σ H {D with nx:=u D} I h) λf s1 q=>?_)
 cases f with
 |next=>
   obtain⟨X1,H',I',q⟩:=q;exact h2 pins s1 X1 H' D I' q
 |ret v=>exact q
 |brk=>exact q
 |cont=>exact q
theorem hX(h1:PS X st t):PSs X [st] t:=by
 intro pins s σ H D I h;refine wpAny_execs_cons (thn (h1 pins s σ H D I h) λf s1 q=>?_)
 cases f with
 |next=>exact ZL q
 |ret v=>exact q
 |brk=>exact q
 |cont=>exact q
theorem Inv.quiet(I:Inv X pins σ H s):interactive X.env=false:=by simp[interactive,I.ok.kind]
def Fj(te:TE):TS:=λD σ H=>te σ H λ_ H1=>D.nx σ H1
theorem oX(he:PE X e te)(hs:swapsWith e none pos.line X.env=pure false):PS X (.Expr e pos) (Fj te):=by intro pins s σ H D I h;exact wpAny_Expr_any (thn (he pins s σ H _ I h) λv s1 sg=>sg.elim λx H1 I1 r1 q1=>⟨σ,H1,I1,q1⟩) I.quiet hs
def Tq(te:TE):TS:=λD σ H=>te σ H D.rt
theorem GZ(he:PE X e te):PS X (.Return (some e) pos) (Tq te):=by intro pins s σ H D I h;exact wpAny_Return_some (thn (he pins s σ H _ I h) λv s1 sg=>sg.elim λx H1 I1 r1 q1=>⟨x,σ,H1,I1,r1,q1⟩)
def Dq(c:TT)(t u:TS):TS:=λD σ H=>c σ H λb H1=>if b=true then t D σ H1 else u D σ H1
theorem ii{tc:TT}(hc:PT X c tc)(ha:PSs X a t)(hb:PSs X b u):PS X (.If c a b pos) (Dq tc t u):=by
 intro pins s σ H D I h;refine wpAny_If (thn (hc pins s σ H _ I h) λd s1 sg=>sg.elim λH1 I1 q1=>?_)
 cases d with
 |true=>exact ha pins s1 σ H1 D I1 q1
 |false=>exact hb pins s1 σ H1 D I1 q1
end
abbrev TG:=V->St->Hp->(St->Hp->Prop)->Prop
abbrev TGs:=List V->St->Hp->(St->Hp->Prop)->Prop
def PG(X:Cx)(target:Expr)(t:TG):Prop:=
 ∀(pins:PNS) (s:zw) (σ:St) (H:Hp) (v:V) (u:zg) (Q:St->Hp->Prop),Inv X pins σ H s->t6 v u->t v σ H Q->
  zo (zA X.prog X.w) X.A (Xa target X.env u) (λ_ s'=>∃ X1 H',Inv X pins X1 H' s'/\Q X1 H') X.xe s
def PGs(X:Cx)(ts:List Expr)(t:TGs):Prop:=
 ∀(pins:PNS) (s:zw) (σ:St) (H:Hp) (vs:List V) (us:List zg) (Q:St->Hp->Prop),Inv X pins σ H s->m7 vs us->t vs σ H Q->
  zo (zA X.prog X.w) X.A (assignInOrder ((xG ts X.env).map (·.2)) us) (λ_ s'=>∃ X1 H',Inv X pins X1 H' s'/\Q X1 H') X.xe s
abbrev TSet:=V->V->V->Hp->(Hp->Prop)->Prop
def RH(X:Cx)(t:TSet):Prop:=
 ∀(pins:PNS) (s:zw) (σ:St) (H:Hp) (o i v:V) (ov iv u:zg) (Q:Hp->Prop),Inv X pins σ H s->t6 o ov->t6 i iv->t6 v u->t o i v H Q->
  zo (zA X.prog X.w) X.A (setItem ov iv u) (λ_ s'=>∃H',Inv X pins σ H' s'/\Q H') X.xe s
section
def Vw(i:Nat):TG:=λv σ H Q=>Q (σ.set i (some v)) H
theorem qV(hN:X.N.Nodup)(hi:X.N[i]? =some x)(hx:Loc X.env.scope x)(hf:X.fn x=true\/X.env.scope.names.lookup x=some .local):PG X (.Name x pos) (Vw i):=by intro pins s σ H v u Q I r h;exact wpAny_assign_Name (Nd I hN hi hx r (λs' I'=>⟨_,H,I',h⟩) hf)
def Vd:TGs:=λvs σ H Q=>vs= []/\Q σ H
def lg(t:TG)(u:TGs):TGs:=λvs σ H Q=>∃v r,vs=v::r/\t v σ H λX1 H'=>u r X1 H' Q
theorem mw:PGs X [] Vd:=by
 intro pins s σ H vs us Q I r h;obtain⟨e,h⟩:=h;subst e
 cases r
 exact assignInOrder_nil ⟨σ,H,I,h⟩
theorem cq(h1:PG X e t)(h2:PGs X es u)
 (hs:(xG (e::es) X.env).map (·.2)=Xa e X.env::(xG es X.env).map (·.2)):PGs X (e::es) (lg t u):=by
 intro pins s σ H vs us Q I r h;obtain⟨v,vr,e1,h⟩:=h;subst e1
 cases r with
 |cons r rr=>
   rw[hs];refine assignInOrder_cons (thn (h1 pins s σ H _ _ _ I r h) λ_ s1 ⟨WY,H1,I1,q1⟩=>?_);exact h2 pins s1 WY H1 _ _ Q I1 rr q1
def dz(K:zj)(n:Nat)(t:TGs):TG:=λv σ H Q=>∃a xs,v= .ref a/\SqT K H a xs/\xs.length=n/\t xs σ H Q
theorem nZ(hc:X.calm=true)(h:PGs X es t)
 (hn:(xG es X.env).length=n) (hst:(xG es X.env).findIdx? (·.1)=none):PG X (.Tuple es k pos) (dz X.K n t):=by
 intro pins s σ H v u Q I r hw;obtain⟨a,xs,e1,hq,hl,hw⟩:=hw;subst e1
 cases r
 obtain⟨qu,rv,ht,hz⟩:=I.tuple hq;refine assign_Tuple_tuple (I.ok.hd hc) ht (by simp[hn,<-hl,rv.length]) hst λh' hx=>?_;have I1:Inv X pins σ H {s with heap:=h'}:=I.kept (t':=s.toks) λb o e=>hx b o (zC (zt e)) e;exact h pins _ σ H xs _ Q I1 (by simpa using rv) hw
def EU(to ti:TE)(t:TSet):TG:=λv σ H Q=>to σ H λo H1=>ti σ H1 λi H2=>t o i v H2 λH3=>Q σ H3
theorem QT(ho:PE X o to)(hi:PE X i ti)(hs:RH X t)
 (ha:∀v,Xa (.Subscript o i pos) X.env v= (do
   let ov <-Yw [v] (eval o X.env)
   let iv <-Yw [v,ov] (eval i X.env)
   standAt pos
   Yw [v,ov,iv] (setItem ov iv v)
   release [v,ov,iv] [])):PG X (.Subscript o i pos) (EU to ti t):=by
 intro pins s σ H v u Q I r h;rw[ha];refine za (jt (thn (ho pins s σ H _ I h) λov s1 ⟨x,H1,I1,r1,q1⟩=>?_));refine za (jt (thn (hi pins s1 σ H1 _ I1 q1) λiv s2 ⟨y,H2,I2,r2,q2⟩=>?_));refine za (YB (za (jt (thn (hs pins s2 σ H2 x y v ov iv u _ I2 r1 r2 r q2) λ_ s3 ⟨H3,I3,q3⟩=>?_))));exact wpAny_release ⟨σ,H3,I3,q3⟩
def cm(te:TE)(g:TG):TS:=λD σ H=>te σ H λx H1=>g x σ H1 D.nx
theorem Dv{g:TG}(he:PE X e te)(hg:PG X tg g)(hs:swapsWithSole [tg] e pos.line X.env=pure false)(hw:swappedStores [tg] e X.env=pure none)
 (h1:(xG [tg] X.env).map (·.2)= [Xa tg X.env]):PS X (.Assign [tg] e pos) (cm te g):=by
 intro pins s σ H D I h;refine wpAny_Assign_stores (thn (he pins s σ H _ I h) λv s1 sg=>sg.elim λx H1 I1 r1 q1=>?_) hs hw;rw[h1];exact thn (hg pins s1 σ H1 x v _ I1 r1 q1) λ_ s2 q=>q
end
section
def Dk(c:TT)(tb:TS):TS:=λD σ H=>∃W:Nat->St->Hp->Prop,(∃m,W m σ H)/\∀m σ H,W m σ H->
 c σ H λb H1=>if b=true then ∃N:St->Hp->Prop,(∀ X1 H',N X1 H'->∃m',m'<m/\W m' X1 H')/\tb {D with nx:=N,ct:=N,bk:=D.nx} σ H1 else D.nx σ H1
theorem bW{tc:TT}{tb:TS}(hp:PassesOwn (zA X.prog X.w) X.A X.env X.xe)(hc:PT X c tc)(hb:PSs X body tb):PS X (.While c body [] pos) (Dk tc tb):=by
 intro pins s σ H D I h;obtain⟨W,⟨m0,w0⟩,turn⟩:=h;refine wpAny_While (codeAny_whileLoop (λn s'=>∃ X1 H',Inv X pins X1 H' s'/\W n X1 H') ?_ m0 ⟨σ,H,I,w0⟩);rintro n s1 ⟨WY,H1,I1,w1⟩;refine wpAny_passesOwn hp (thn (hc pins s1 WY H1 _ I1 (turn n WY H1 w1)) λb s2 sg=>sg.elim λH2 I2 q2=>?_)
 cases b with
 |true=>
   obtain⟨N,hN,q2⟩:=q2;rw[if_pos rfl];refine wpAny_passesOwn hp (thn (hb pins s2 WY H2 _ I2 q2) λf s3 q3=>?_)
   cases f with
   |next=>
     obtain⟨WJ,H3,I3,n3⟩:=q3;obtain⟨m',hm,w3⟩:=hN WJ H3 n3;exact⟨m',hm,WJ,H3,I3,w3⟩
   |cont=>
     obtain⟨WJ,H3,I3,n3⟩:=q3;obtain⟨m',hm,w3⟩:=hN WJ H3 n3;exact⟨m',hm,WJ,H3,I3,w3⟩
   |brk=>exact q3
   |ret v=>exact q3
 |false=>
   rw[if_neg zz];exact ZL ⟨WY,H2,I2,q2⟩
end
structure It where
 go:Nat->Hp->Prop
 yld:Nat->Hp->V->Hp->Prop
 stop:Nat->Hp->Prop
def A1(X:Cx)(pins:PNS)(H:Hp)(b:Addr):Prop:=
 H b=none/\b≠X.env.locals/\b∉X.fs/\(b∈X.ex\/X.WW.heap.objs.size<=b)/\(∀x c,X.env.cells.lookup x=some c->c≠b)/\∀p∈X.pn++pins,p.1≠b
theorem Inv.fpOk(I:Inv X pins σ H s)(hb:s.heap.objs.size<=b)(hn:H' b=none):A1 X pins H' b:=by
 refine⟨hn,xj (jc I.lt hb),I.nofs hb,.inr (zS I.sz hb),λx c e z=>?_,λp hp z=>?_⟩
 ·obtain⟨v,q⟩:=I.cell x c e;exact absurd (jc q.lt (by rw[z];exact hb)) (yU _)
 ·exact absurd (jc (zt (I.pin p hp).1) (by rw[z];exact hb)) (yU _)
inductive TIt(X:Cx)(pins:PNS)(σ:St)(J:It)(fp:List Addr)(tn:Nat->Heap->Prop)(i:Nat)(H:Hp)(u:zg)(s2:zw):Prop
 |mk (x:V) (H':Hp) (I:Inv X pins σ H' s2) (r:t6 x u) (y:J.yld i H x H') (st:tn (i+1) s2.heap) (fr:∀b∈fp,H' b=none)
structure f8(P:zV)(w:je)(K:zj)(tg:Expr)(J:It)(fp:List Addr)(it:Addr)(tn:Nat->Heap->Prop):Prop where
 mem:it∈fp
 obj:∀i h,tn i h->∀b∈fp,∃o,h.get? b=some o/\∀v,o.data≠ .cell v
 keep:∀i h h',tn i h->(∀b∈fp,∀o,h.get? b=some o->h'.get? b=some o)->tn i h'
 item:∀(X:Cx),X.prog=P->X.w=w->X.K=K->X.calm=true->∀(i:Nat) (pins:PNS) (s:zw) (σ:St) (H:Hp) (E:VSP),Inv X pins σ H s->(∀b∈fp,A1 X pins H b)->tn i s.heap->J.go i H->
  zo (zA P w) X.A (xf (.ref it)) (λr s1=>∃u,r=some u/\
   zo (zA P w) X.A (Zg tg (.ref it) u) (λ_ s2=>TIt X pins σ J fp tn i H u s2) E s1) E s
 done:∀(X:Cx),X.prog=P->X.w=w->X.K=K->X.calm=true->∀(i:Nat) (pins:PNS) (s:zw) (σ:St) (H:Hp) (E:VSP),Inv X pins σ H s->(∀b∈fp,A1 X pins H b)->tn i s.heap->J.stop i H->
  zo (zA P w) X.A (xf (.ref it)) (λr s1=>r=none/\Inv X pins σ H s1) E s
 self:∀(A:jm) (i:Nat) (s:zw) (Q:VSP) (E:VSP),tn i s.heap->Q (.ref it) s->zo (zA P w) A (Xw (.ref it)) Q E s
abbrev TI:=St->Hp->(It->Hp->Prop)->Prop
inductive PIE(X:Cx)(pins:PNS)(σ:St)(tg:Expr)(R:It->Hp->Prop)(itv:zg)(s2:zw):Prop
 |mk (it:Addr) (fp:List Addr) (tn:Nat->Heap->Prop) (J:It) (H':Hp) (e:itv= .ref it) (I:Inv X pins σ H' s2) (T:f8 X.prog X.w X.K tg J fp it tn) (st:tn 0 s2.heap) (f:∀b∈fp,A1 X pins H' b) (r:R J H')
def PI(X:Cx)(tg iter:Expr)(wi:TI):Prop:=
 ∀(pins:PNS) (s:zw) (σ:St) (H:Hp) (R:It->Hp->Prop),Inv X pins σ H s->wi σ H R->
  zo (zA X.prog X.w) X.A (eval iter X.env) (λv s1=>zo (zA X.prog X.w) X.A (Xw v) (PIE X pins σ tg R) X.xe s1) X.xe s
theorem nC(ho:s.heap.get? it=some o)(hc:o.cls= .type n)(hd:o.data= .fields vs)
 (hn: ["enumerate", "zip", "dict_itemiterator", "dict_reverseitemiterator", "odict_iterator", "itertools.zip_longest", "itertools.pairwise"].contains n=false) (hQ:Q () s):zo M A (Zg tg (.ref it) u) Q E s:=by
 unfold Zg
 cases tg<;>first
  |exact ze hQ
  | (cases u <;> first
      |exact ze hQ
      | (refine za (wpAny_load ho ?_)
         rw[hc,hd];show zo M A (if (["enumerate", "zip", "dict_itemiterator", "dict_reverseitemiterator", "odict_iterator", "itertools.zip_longest", "itertools.pairwise"].contains n&&vs[0]? == some (yC _))=true then _ else _) Q E s;rw[if_neg (by intro h;rw[hn,Bool.false_and]at h;cases h)];exact ze hQ))
def Itl(K:zj)(a:Addr):It:=
 ⟨λi H=>∃xs x,SqL K H a xs/\xs[i]? =some x,λi H x H'=>H'=H/\∀xs,SqL K H a xs->xs[i]? =some x,λi H=>∃xs,SqL K H a xs/\xs.length<=i⟩
def Itt(K:zj)(a:Addr):It:=
 ⟨λi H=>∃xs x,SqT K H a xs/\xs[i]? =some x,λi H x H'=>H'=H/\∀xs,SqT K H a xs->xs[i]? =some x,λi H=>∃xs,SqT K H a xs/\xs.length<=i⟩
def Itr(lo:Int)(n:Nat):It:=⟨λi _=>i<n,λi H x H'=>H'=H/\x= .int (lo+i),λi _=>n<=i⟩
theorem oz{w:je}{K:zj}{tg:Expr}(a it:Addr):f8 P w K tg (Itl K a) [it] it (λi h=>h.IsListIter it a i) where
 mem:=by simp
 obj:=λi h st b hb=>by
  have e:b=it:=by simpa using hb
  subst e;obtain⟨o,e,c,d⟩:=st;exact⟨o,e,λv z=>by rw[d]at z;cases z⟩
 keep:=λi h h' st k=>st.at λo e=>k it (by simp) o e
 item:=by intro X hP hw hK hc i pins s σ H E I hf st hg;subst hP hw hK;obtain⟨xs,x,hq,hx⟩:=hg;obtain⟨qu,rv,p,hz⟩:=I.list hq;obtain⟨u,hu,ru⟩:=rv.get hx;obtain⟨f0,f1,f2,f3,f4,f5⟩:=hf it (by simp);refine wpAny_pyNext_list_item st p.isList (x:=u) (by simpa using hu) λh' sh sb=>?_;have I1:Inv X pins σ H {s with heap:=h'}:=I.turned (t':=s.toks) (λb o hb e=>(sb.2 b hb).trans e) f0 f1 f3 f4 f5;obtain⟨o,e,c,d⟩:=id sh;exact⟨u,rfl,nC (s:={s with heap:=h'}) e c d (by decide) ⟨x,H,I1,ru,⟨rfl,λys hy=>by rw[I.list_inj hy hq];exact hx⟩,sh,λb hb=>(hf b hb).1⟩⟩
 done:=by intro X hP hw hK hc i pins s σ H E I hf st hg;subst hP hw hK;obtain⟨xs,hq,hx⟩:=hg;obtain⟨qu,rv,p,hz⟩:=I.list hq;obtain⟨f0,f1,f2,f3,f4,f5⟩:=hf it (by simp);have hl:=rv.length;exact wpAny_pyNext_list_end (I.ok.hd hc) st p.isList (by simp;lia) λh' eb=>⟨rfl,I.turned (t':=s.toks) (λb o hb e=>eb b o hb e) f0 f1 f3 f4 f5⟩
 self:=λ_ _ _ _ _ st h=>wpAny_pyIter_listiter st h
theorem ip{w:je}{K:zj}{tg:Expr}(a it:Addr):f8 P w K tg (Itt K a) [it] it (λi h=>h.IsTupleIter it a i) where
 mem:=by simp
 obj:=λi h st b hb=>by
  have e:b=it:=by simpa using hb
  subst e;obtain⟨o,e,c,d⟩:=st;exact⟨o,e,λv z=>by rw[d]at z;cases z⟩
 keep:=λi h h' st k=>st.at λo e=>k it (by simp) o e
 item:=by intro X hP hw hK hc i pins s σ H E I hf st hg;subst hP hw hK;obtain⟨xs,x,hq,hx⟩:=hg;obtain⟨qu,rv,p,hz⟩:=I.tuple hq;obtain⟨u,hu,ru⟩:=rv.get hx;obtain⟨f0,f1,f2,f3,f4,f5⟩:=hf it (by simp);refine wpAny_pyNext_tuple_item st (show s.heap.IsTuple a qu.toArray from p) (x:=u) (by simpa using hu) λh' sh sb=>?_;have I1:Inv X pins σ H {s with heap:=h'}:=I.turned (t':=s.toks) (λb o hb e=>(sb.2 b hb).trans e) f0 f1 f3 f4 f5;obtain⟨o,e,c,d⟩:=id sh;exact⟨u,rfl,nC (s:={s with heap:=h'}) e c d (by decide) ⟨x,H,I1,ru,⟨rfl,λys hy=>by rw[I.tuple_inj hy hq];exact hx⟩,sh,λb hb=>(hf b hb).1⟩⟩
 done:=by intro X hP hw hK hc i pins s σ H E I hf st hg;subst hP hw hK;obtain⟨xs,hq,hx⟩:=hg;obtain⟨qu,rv,p,hz⟩:=I.tuple hq;obtain⟨f0,f1,f2,f3,f4,f5⟩:=hf it (by simp);have hl:=rv.length;exact wpAny_pyNext_tuple_end (I.ok.hd hc) st (show s.heap.IsTuple a qu.toArray from p) (by simp;lia) λh' eb=>⟨rfl,I.turned (t':=s.toks) (λb o hb e=>eb b o hb e) f0 f1 f3 f4 f5⟩
 self:=λ_ _ _ _ _ st h=>wpAny_pyIter_tupleiter st h
theorem Bd{w:je}{K:zj}{tg:Expr}(it:Addr)(lo:Int)(n:Nat):f8 P w K tg (Itr lo n) [it] it (λi h=>IsRangeIter h it (lo+(i:Nat)*1) ((n:Int)-(i:Nat)) 1) where
 mem:=by simp
 obj:=λi h st b hb=>by
  have e:b=it:=by simpa using hb
  subst e;exact⟨_,st,λv z=>by
   have z':Data.fields _=Data.cell v:=z
   cases z'⟩
 keep:=λi h h' st k=>k it (by simp) _ st
 item:=by intro X hP hw hK hc i pins s σ H E I hf st hg;subst hP hw hK;obtain⟨f0,f1,f2,f3,f4,f5⟩:=hf it (by simp);have W:=Walks.range (prog:=X.prog) (w:=X.w) (I.ok.hd hc) it lo 1 n;refine W.item i s _ _ hg st λv h' tk hv sh kk=>?_;obtain⟨t,rfl⟩:=hv;have I1:Inv X pins σ H {s with heap:=h',toks:=tk}:=I.turned (λb o hb e=>kk b o (by simpa using hb) e) f0 f1 f3 f4 f5;refine⟨_,rfl,nC (s:={s with heap:=h',toks:=tk}) (n:= "range_iterator") sh rfl rfl (by decide) ⟨.int (lo+i),H,I1,⟨t,?_⟩,⟨rfl,rfl⟩,sh,λb hb=>(hf b hb).1⟩⟩;rw[Int.mul_one]
 done:=by intro X hP hw hK hc i pins s σ H E I hf st hg;subst hP hw hK;obtain⟨f0,f1,f2,f3,f4,f5⟩:=hf it (by simp);exact wpAny_pyNext_range_end (I.ok.hd hc) st (by have:n<=i:=hg;lia) λh' eb=>⟨rfl,I.turned (t':=s.toks) (λb o hb e=>eb b o hb e) f0 f1 f3 f4 f5⟩
 self:=λ_ _ _ _ _ st h=>wpAny_pyIter_rangeiter st h
section
theorem Pp{σ:St}{H:Hp}{s:zw}{R:It->Hp->Prop}{lo hi:Int}{t u v:Tok}{tk:Nat}(I:Inv X pins σ H s)(h1: -(2 ^ 62)<=lo)(h2:lo<2 ^ 62)(h3: -(2 ^ 62)<=hi)(h4:hi<2 ^ 62)
 (q:R (Itr lo (hi-lo).toNat) H):zo (zA X.prog X.w) X.A (Xw (.ref s.heap.objs.size)) (PIE X pins σ tg R) E {s with heap:=s.heap.push {cls:=.type "range",data:=.fields #[.int lo t,.int hi u,.int 1 v]},toks:=tk}:=by
 refine wpAny_pyIter_range (IsRange.new ..) (small_one h1 h2 h3 h4) ?_;have I1:Inv X pins σ H {s with heap:=s.heap.push {cls:=.type "range",data:=.fields #[.int lo t,.int hi u,.int 1 v]},toks:=tk}:=I.kept λb o e=>zc _ e;refine⟨(s.heap.push {cls:=.type "range",data:=.fields #[.int lo t,.int hi u,.int 1 v]}).objs.size, [(s.heap.push {cls:=.type "range",data:=.fields #[.int lo t,.int hi u,.int 1 v]}).objs.size],_,_,H,rfl,
  I1.kept (t':=tk) λb o e=>zc _ e,Bd _ lo (hi-lo).toNat,?_,λb hb=>?_,q⟩
 · have e1:lo+((0:Nat):Int)*1=lo:=by simp
   have e2:(((hi-lo).toNat:Nat):Int)-((0:Nat):Int)=Builtin.Range.rangeSize lo hi 1:=by rw[rangeSize_one];split<;>lia
   show IsRangeIter _ _ (lo+((0:Nat):Int)*1) ((((hi-lo).toNat:Nat):Int)-((0:Nat):Int)) 1;rw[e1,e2];exact zn _ rfl
 · have e:b= (s.heap.push {cls:=.type "range",data:=.fields #[.int lo t,.int hi u,.int 1 v]}).objs.size:=by simpa using hb
   subst e;exact I1.fpOk (zh _) (I1.hok.fresh (zh _))
def sZ(ta:TA):TI:=λσ H R=>ta σ H λvs H1=>∃j:Int,vs= [.int j]/\ -(2 ^ 62)<=j/\j<2 ^ 62/\R (Itr 0 j.toNat) H1
theorem dZ{ta:TA}(hg:Gl X "range")(hm:X.mg "range" =none)(ha:PA X [a] ta)(hs:zX [a] X.env= [(false,eval a X.env)]):PI X tg (.Call (.Name "range" p) [a] [] pos) (sZ ta):=by
 intro pins s σ H R I h;refine Call_ (D6 I hg hm boot_range (yI (thn (ha pos pins s σ H _ I h) λus s1 sg=>sg.elim λvs H1 I1 r1 q1=>?_) hs rfl));obtain⟨j,e,q1,q2,q⟩:=q1;subst e
 cases r1 with
 |cons r rr=>
   cases rr
   obtain⟨t,rfl⟩:=r;exact call_range_1 (Pp I1 (by lia) (by lia) q1 q2 (by simpa using q))
def fj(wi:TI)(g:TG)(tb:TS):TS:=λD σ H=>wi σ H λJ H1=>∃W:Nat->Nat->St->Hp->Prop,(∃m,W 0 m σ H1)/\∀i m σ H,W i m σ H->
 (J.stop i H/\D.nx σ H)\/(J.go i H/\∃N:St->Hp->Prop,(∀ X1 H',N X1 H'->∃m',m'<m/\W (i+1) m' X1 H')/\∀x H',J.yld i H x H'->g x σ H' λσ2 H2=>tb {D with nx:=N,ct:=N,bk:=D.nx} σ2 H2)
def WD(fp:List Addr)(h:Heap):PNS:=fp.filterMap λb=>(h.get? b).map λo=>(b,o)
theorem V9(hb:b∈fp)(e:h.get? b=some o):(b,o)∈WD fp h:=Xs.mpr ⟨b,hb,by rw[e];rfl⟩
theorem uV(hp:p∈WD fp h):p.1∈fp/\h.get? p.1=some p.2:=by
 obtain⟨b,hb,e⟩:=Xs.mp hp
 cases q:h.get? b with
 |none=>rw[q]at e;cases e
 |some o=>
   rw[q]at e;have e':(b,o)=p:=js e;subst e';exact⟨hb,q⟩
theorem Inv.pinned(I:Inv X pins σ H s)(hf:∀b∈fp,A1 X pins H b)(ho:∀b∈fp,∃o,s.heap.get? b=some o/\∀v,o.data≠ .cell v):Inv X (pins++WD fp s.heap) σ H s:=
 I.pins_of λp hp=>(zR.mp hp).elim (λz=>I.pin p (zN _ z)) λz=>by obtain⟨hb,e⟩:=uV z;obtain⟨f0,f1,f2,_⟩:=hf p.1 hb;obtain⟨o,e',d⟩:=ho p.1 hb;rw[e]at e';cases e';exact⟨e,f0,f1,f2,d⟩
theorem Inv.unpinned(I:Inv X (pins++pl) σ H s):Inv X pins σ H s:=I.pins_of λp hp=>I.pin p (zN _ (yf _ hp))
inductive PH(X:Cx)(pins:PNS)(fp:List Addr)(tn:Nat->Heap->Prop)(W:Nat->Nat->St->Hp->Prop)(n:Nat)(s':zw):Prop
 |mk (i:Nat) (X1:St) (H':Hp) (I:Inv X pins X1 H' s') (st:tn i s'.heap) (fr:∀b∈fp,H' b=none) (w:W i n X1 H')
theorem Lk{body:List Stmt}{g:TG}{tb:TS}{pins:PNS}{D:fA}{it:Addr}{fp:List Addr}{tn:Nat->Heap->Prop}{J:It}(hp:∀e s,X.xe e s->EE e s)(hc:X.calm=true)(hg:PG X tg g)(hb:PSs X body tb)
 (T:f8 X.prog X.w X.K tg J fp it tn) (stat:∀ {H':Hp},(∀b∈fp,H' b=none)->∀b∈fp,A1 X pins H' b)
 (turn:∀i m σ H,W i m σ H->
 (J.stop i H/\D.nx σ H)\/(J.go i H/\∃N:St->Hp->Prop,(∀ X1 H',N X1 H'->∃m',m'<m/\W (i+1) m' X1 H')/\∀x H',J.yld i H x H'->g x σ H' λσ2 H2=>tb {D with nx:=N,ct:=N,bk:=D.nx} σ2 H2))
   {n:Nat} {s3:zw} (h3:PH X pins fp tn W n s3) {NX:zw->Prop} (nx:∀m s,m<n->PH X pins fp tn W m s->NX s):
   zo (zA X.prog X.w) X.A (xf (.ref it)) (λr s1=>match r with
    |none=>zo (zA X.prog X.w) X.A (execs [] X.env) (λf s2=>SP X pins D f s2) EE s1
    | some v => zo (zA X.prog X.w) X.A (Zg tg (.ref it) v) (λ_ s2 => zo (zA X.prog X.w) X.A (Xa tg X.env v) (λ_ s4 => zo (zA X.prog X.w) X.A (execs body X.env) (λf s5 => match f with
       | .next| .cont=>NX s5
       | .brk=>SP X pins D .next s5
       | .ret v=>SP X pins D (.ret v) s5) EE s4) EE s2) EE s1) EE s3:=by
 obtain⟨i,WJ,H3,I3,st3,fr3,w3⟩:=h3;rcases turn i n WJ H3 w3 with⟨stop,qn⟩|⟨go,N,hN,step⟩
 ·refine jE (T.done X rfl rfl rfl hc i pins s3 WJ H3 X.xe I3 (stat fr3) st3 stop) (λr s4 z1=>?_) hp;obtain⟨hr,I4⟩:=z1;subst hr;exact ZL ⟨WJ,H3,I4,qn⟩
 · refine jE (T.item X rfl rfl rfl hc i pins s3 WJ H3 X.xe I3 (stat fr3) st3 go) (λr s4 z2=>?_) hp;obtain⟨u,hr,h4⟩:=z2;subst hr;refine jE h4 (λ_ s5 z3=>?_) hp;obtain⟨x,H5,I5,r5,y5,st5,fr5⟩:=z3;have I5':=I5.pinned (stat fr5) (T.obj _ _ st5);refine jE (hg _ s5 WJ H5 x u _ I5' r5 (step x H5 y5)) (λ_ s6 z4=>?_) hp;obtain⟨WQ,H6,I6,q6⟩:=z4;refine jE (hb _ s6 WQ H6 _ I6 q6) (λf s7 q7=>?_) hp;have again:∀ {WP:St} {H7:Hp},Inv X (pins++WD fp s5.heap) WP H7 s7->N WP H7->NX s7:=λ{WP H7} I7 n7=>by
    obtain⟨m',hm,w7⟩:=hN WP H7 n7;refine nx m' _ hm ⟨i+1,WP,H7,I7.unpinned,T.keep _ _ _ st5 λb hb o e=>(I7.pin (b,o) (zN _ (zN _ (V9 hb e)))).1,λb hb=>?_,w7⟩;obtain⟨o,e,d⟩:=T.obj _ _ st5 b hb;exact(I7.pin (b,o) (zN _ (zN _ (V9 hb e)))).2.1
   cases f with
   |next=>obtain⟨WP,H7,I7,n7⟩:=q7;exact again I7 n7
   |cont=>obtain⟨WP,H7,I7,n7⟩:=q7;exact again I7 n7
   |brk=>obtain⟨WP,H7,I7,q7⟩:=q7;exact⟨WP,H7,I7.unpinned,q7⟩
   |ret v=>obtain⟨x7,WP,H7,I7,r7,q7⟩:=q7;exact⟨x7,WP,H7,I7.unpinned,r7,q7⟩
theorem fm(hp:PassesOwn (zA X.prog X.w) X.A X.env X.xe)(hc:X.calm=true)(hi:PI X tg iter wi)(hg:PG X tg g)(hb:PSs X body tb)
 (hs:∀x,xm iter X.env x=pure x):PS X (.For tg iter body [] pos) (fj wi g tb):=by
 intro pins s σ H D I h;refine wpAny_For (thn (hi pins s σ H _ I h) λv s1 h1=>thn h1 λitv s2 h2=>?_) hs;obtain⟨it,fp,tn,J,H2,e,I2,T,st2,f2,W,⟨m0,w0⟩,turn⟩:=h2;subst e
 -- what stays true of the iterator's objects through the loop
 have stat:∀ {H':Hp},(∀b∈fp,H' b=none)->∀b∈fp,A1 X pins H' b:=λhn b hb=>⟨hn b hb,(f2 b hb).2⟩;exact codeAny_forLoop_any (PH X pins fp tn W) (λn s3 h3=>Lk hp hc hg hb T stat turn h3 λm s h1 h2=>⟨m,h1,h2⟩) m0 ⟨0,σ,H2,I2,st2,λb hb=>(f2 b hb).1,w0⟩
end
abbrev R2:=V->V->Hp->VK->Prop
def OpR(X:Cx)(f:zg->zg->Sem zg)(r:R2):Prop:=
 ∀(pins:PNS) (s:zw) (σ:St) (H:Hp) (x y:V) (v u:zg) (Q:VK),Inv X pins σ H s->t6 x v->t6 y u->r x y H Q->
  zo (zA X.prog X.w) X.A (f v u) (EP X pins σ Q) X.xe s
def UnR(X:Cx)(f:zg->Sem zg)(r:V->Hp->VK->Prop):Prop:=
 ∀(pins:PNS) (s:zw) (σ:St) (H:Hp) (x:V) (v:zg) (Q:VK),Inv X pins σ H s->t6 x v->r x H Q->
  zo (zA X.prog X.w) X.A (f v) (EP X pins σ Q) X.xe s
def T9(X:Cx)(f:zg)(r:List V->Hp->VK->Prop):Prop:=
 ∀(pins:PNS) (s:zw) (σ:St) (H:Hp) (xs:List V) (us:List zg) (Q:VK),Inv X pins σ H s->m7 xs us->r xs H Q->
  zo (zA X.prog X.w) X.A (call f us) (EP X pins σ Q) X.xe s
def vz(X:Cx)(r:V->Hp->(Bool->Hp->Prop)->Prop):Prop:=
 ∀(pins:PNS) (s:zw) (σ:St) (H:Hp) (x:V) (v:zg) (Q:Bool->Hp->Prop),Inv X pins σ H s->t6 x v->r x H Q->
  zo (zA X.prog X.w) X.A (truthy v) (TP X pins σ Q) X.xe s
def tOp(r:R2)(ta tb:TE):TE:=λσ H Q=>ta σ H λx H1=>tb σ H1 λy H2=>r x y H2 Q
def tUn(r:V->Hp->VK->Prop)(ta:TE):TE:=λσ H Q=>ta σ H λx H1=>r x H1 Q
def rI(C:Int->Int->Prop)(g:Int->Int->V):R2:=λx y H Q=>∃i j,x= .int i/\y= .int j/\C i j/\Q (g i j) H
def A9(g:Int->Int->V):R2:=λx y H Q=>∃i j,x= .int i/\y= .int j/\Q (g i j) H
def rU(g:Int->V):V->Hp->VK->Prop:=λx H Q=>∃i,x= .int i/\Q (g i) H
section
theorem BI(ha:PE X a ta)(hb:PE X b tb){pins:PNS}{s:zw}{σ:St}{H:Hp}{R:V->V->Hp->Prop}(I:Inv X pins σ H s)
 (h:ta σ H λx H1=>tb σ H1 λy H2=>R x y H2) {f:zg->zg->Sem zg}
 (hf:∀v u s2 x y H2,Inv X pins σ H2 s2->t6 x v->t6 y u->R x y H2->zo (zA X.prog X.w) X.A (f v u) Q X.xe s2):
 zo (zA X.prog X.w) X.A (eval a X.env) (λv W1=>zo (zA X.prog X.w) X.A (eval b X.env) (λu s₂=>zo (zA X.prog X.w) X.A (f v u) Q X.xe s₂) X.xe W1) X.xe s:=by
 refine thn (ha pins s σ H _ I h) λv s1 sg=>sg.elim λx H1 I1 r1 q1=>?_;refine thn (hb pins s1 σ H1 _ I1 q1) λu s2 sg=>sg.elim λy H2 I2 r2 q2=>?_;exact hf v u s2 x y H2 I2 r1 r2 q2
theorem TJ(ho:OpR X (yE op) r)(ha:PE X a ta)(hb:PE X b tb):PE X (.BinOp a op b pos) (tOp r ta tb):=by intro pins s σ H Q I h;exact wpAny_BinOp (BI ha hb I h λv u s2 x y H2 I2 rx ry q=>ho pins s2 σ H2 x y v u Q I2 rx ry q)
theorem vq(ho:UnR X (unaryOp op) r)(ha:PE X a ta):PE X (.UnaryOp op a pos) (tUn r ta):=by intro pins s σ H Q I h;exact UnaryOp_ (thn (ha pins s σ H _ I h) λv s1 sg=>sg.elim λx H1 I1 r1 q1=>ho pins s1 σ H1 x v Q I1 r1 q1)
theorem opI{C:Int->Int->Prop}{g:Int->Int->Int}
 (rule:∀(i j:Int) (t u:Tok) (s:zw) Q (E:VSP),C i j->Q (.int (g i j) s.toks) {s with toks:=s.toks+1}->zo (zA X.prog X.w) X.A (f (.int i t) (.int j u)) Q E s):
 OpR X f (rI C λi j=>.int (g i j)):=by
 intro pins s σ H x y v u Q I rx ry h;obtain⟨i,j,rfl,rfl,hc,q⟩:=h;obtain⟨t,rfl⟩:=rx;obtain⟨t',rfl⟩:=ry;exact rule i j t t' s _ _ hc ⟨.int (g i j),H,I.tok _,⟨_,rfl⟩,q⟩
theorem oP{g:Int->Int->Int}
 (rule:∀(i j:Int) (t u:Tok) (s:zw) Q (E:VSP),Q (.int (g i j) s.toks) {s with toks:=s.toks+1}->zo (zA X.prog X.w) X.A (f (.int i t) (.int j u)) Q E s):
 OpR X f (A9 λi j=>.int (g i j)):=by
 intro pins s σ H x y v u Q I rx ry h;obtain⟨i,j,rfl,rfl,q⟩:=h;obtain⟨t,rfl⟩:=rx;obtain⟨t',rfl⟩:=ry;exact rule i j t t' s _ _ ⟨.int (g i j),H,I.tok _,⟨_,rfl⟩,q⟩
theorem oI{g:Int->Int->Bool}
 (rule:∀(i j:Int) (t u:Tok) (s:zw) Q (E:VSP),Q (.bool (g i j)) s->zo (zA X.prog X.w) X.A (f (.int i t) (.int j u)) Q E s):
 OpR X f (A9 λi j=>.bl (g i j)):=by
 intro pins s σ H x y v u Q I rx ry h;obtain⟨i,j,rfl,rfl,q⟩:=h;obtain⟨t,rfl⟩:=rx;obtain⟨t',rfl⟩:=ry;exact rule i j t t' s _ _ ⟨.bl (g i j),H,I,rfl,q⟩
def i7(i j:Int):Prop:=0<=j/\j<=1000000/\i.natAbs<2 ^ 64
def E7(i j:Int):Prop:=(-(2 ^ 64)<i/\i<2 ^ 64)\/(-(2 ^ 64)<j/\j<2 ^ 64)
theorem E7.ok(h:E7 i j):IntMulOk i j:=by
 rcases h with⟨h1,h2⟩|⟨h1,h2⟩
 ·exact .of_left (intBits_le_64 h1 h2)
 ·exact .of_right (intBits_le_64 h1 h2)
theorem Cb:OpR X (yE .Add) (A9 λi j=>.int (i+j)):=oP λ_ _ _ _ _ _ _ q=>add_int q
theorem mQ:OpR X (yE .Sub) (A9 λi j=>.int (i-j)):=oP λ_ _ _ _ _ _ _ q=>sub_int q
theorem nq:OpR X (yE .Mult) (rI E7 λi j=>.int (i*j)):=opI λ_ _ _ _ _ _ _ hc q=>mul_int q hc.ok
theorem cy:OpR X (yE .Mod) (rI (λ_ j=>0<j) λi j=>.int (i % j)):=opI λi j _ _ _ _ _ hc q=>by have h1:(0:Int)<j:=hc;exact mod_int' (by lia) (by rw[Int.fmod_eq_emod_of_nonneg i (by lia)];exact q)
theorem mO:OpR X (yE .Pow) (rI i7 λi j=>.int (i ^ j.toNat)):=opI λ_ _ _ _ _ _ _ hc q=>pow_int_small hc.1 hc.2.1 hc.2.2 q
theorem unI{f:zg->Sem zg}{g:Int->Int}
 (rule:∀(i:Int) (t:Tok) (s:zw) Q E,Q (.int (g i) s.toks) {s with toks:=s.toks+1}->zo (zA X.prog X.w) X.A (f (.int i t)) Q E s):
 UnR X f (rU λi=>.int (g i)):=by
 intro pins s σ H x v Q I rx h;obtain⟨i,rfl,q⟩:=h;obtain⟨t,rfl⟩:=rx;exact rule i t s _ _ ⟨.int (g i),H,I.tok _,⟨_,rfl⟩,q⟩
theorem Sg:UnR X (unaryOp .USub) (rU λi=>.int (-i)):=unI λ_ _ _ _ _ q=>neg_int q
end
section
theorem AK(I:Inv X pins σ H s)(q:Q (.bl k) H)(e:k=k'):EP X pins σ Q (.bool k') s:=by subst e;exact⟨.bl k,H,I,rfl,q⟩
theorem cj:OpR X (ja .LtE) (A9 λi j=>.bl (decide (i<=j))):=oI λ_ _ _ _ _ _ _ q=>le_int q
theorem nY:OpR X (ja .Gt) (A9 λi j=>.bl (decide (j<i))):=oI λ_ _ _ _ _ _ _ q=>gt_int q
theorem AX:OpR X (ja .GtE) (A9 λi j=>.bl (decide (j<=i))):=oI λ_ _ _ _ _ _ _ q=>ge_int q
theorem qq:OpR X (ja .In) (λx y H Q=>∃i j,x= .str i/\y= .str j/\Q (.bl (!(ZD j i 0 j.length 1).isEmpty)) H):=by intro pins s σ H x y v u Q I rx ry h;obtain⟨i,j,rfl,rfl,q⟩:=h;obtain⟨t,rfl⟩:=rx;obtain⟨t',rfl⟩:=ry;exact in_str (AK I q rfl)
theorem oq:OpR X (ja .Is) (λx y H Q=>y= .non/\Q (.bl (decide (x= .non))) H):=by
 intro pins s σ H x y v u Q I rx ry h;obtain⟨rfl,q⟩:=h
 cases ry
 refine is_none_gen (AK I q ?_)
 cases x<;>first
  |(cases rx;rfl)
  |(obtain⟨t,rfl⟩:=rx;rfl)
theorem Bv:OpR X (ja .IsNot) (λx y H Q=>y= .non/\Q (.bl (!decide (x= .non))) H):=by
 intro pins s σ H x y v u Q I rx ry h;obtain⟨rfl,q⟩:=h
 cases ry
 refine isnot_none_gen (AK I q ?_)
 cases x<;>first
  |(cases rx;rfl)
  |(obtain⟨t,rfl⟩:=rx;rfl)
theorem OpR.or(h:OpR X f r)(h':OpR X f r'):OpR X f (λx y H Q=>r x y H Q\/r' x y H Q):=by
 intro pins s σ H x y v u Q I rx ry q;rcases q with q|q
 ·exact h pins s σ H x y v u Q I rx ry q
 ·exact h' pins s σ H x y v u Q I rx ry q
theorem tU(ho:OpR X (ja op) r)(ha:PE X a ta)(hb:PE X b tb)(hm:XY op b=false):PE X (.Compare a [op] [b] pos) (tOp r ta tb):=by intro pins s σ H Q I h;exact wpAny_Compare1 (BI ha hb I h λv u s2 x y H2 I2 rx ry q=>ho pins s2 σ H2 x y v u Q I2 rx ry q) hm
def GL(t:TE):TT:=λσ H Q=>t σ H λx H'=>∃k,x= .bl k/\Q k H'
theorem af(ho:OpR X (ja op) r)(ha:PE X a ta)(hb:PE X b tb)(hm:XY op b=false):PT X (.Compare a [op] [b] pos) (GL (tOp r ta tb)):=by
 intro pins s σ H Q I h;refine wpAny_isTrue_Compare1 (thn (ha pins s σ H _ I h) λv s1 sg=>sg.elim λx H1 I1 r1 q1=>thn (hb pins s1 σ H1 _ I1 q1) λu s2 sg=>sg.elim λy H2 I2 r2 q2=>
  thn (ho pins s2 σ H2 x y v u _ I2 r1 r2 q2) λc s3 ⟨z,H3,I3,r3,k,e,q3⟩=>?_) hm
 subst e
 cases r3
 exact xP ⟨H3,I3,q3⟩
def LN(r r':R2)(ta tb tc:TE):TE:=λσ H Q=>ta σ H λx H1=>tb σ H1 λy H2=>r x y H2 λz H3=>∃k,z= .bl k/\
 (if k=true then tc σ H3 λw' H4=>r' y w' H4 Q else Q (.bl false) H3)
theorem cg(ho:OpR X (ja op) r)(ho':OpR X (ja op') r')(ha:PE X a ta)(hb:PE X b tb)(hc:PE X c tc)
 (hm:lastMarks [op,op'] [b,c]=false):PT X (.Compare a [op,op'] [b,c] pos) (GL (LN r r' ta tb tc)):=by
 intro pins s σ H Q I h;refine isTrue_chain (thn (ha pins s σ H _ I h) λv s1 sg=>sg.elim λx H1 I1 r1 q1=>test_link (thn (hb pins s1 σ H1 _ I1 q1) λu s2 sg=>sg.elim λy H2 I2 r2 q2=>
  thn (ho pins s2 σ H2 x y v u _ I2 r1 r2 q2) λd s3 ⟨z,H3,I3,r3,k,e,q3⟩=>?_)) hm
 subst e
 cases r3
 refine xP ?_
 cases k with
 |false=>
   obtain⟨k',e',q'⟩:=q3
   cases e'
   exact ite_ff ⟨H3,I3,q'⟩
 |true=>
   refine ite_tt (test_last (thn (hc pins s3 σ H3 _ I3 q3) λw' s4 ⟨z',H4,I4,r4,q4⟩=>thn (ho' pins s4 σ H4 y z' u w' _ I4 r2 r4 q4) λd' s5 ⟨z2,H5,I5,r5,k2,e2,q5⟩=>?_));subst e2
   cases r5
   exact xP ⟨H5,I5,q5⟩
def aL(K:zj)(x:V)(H:Hp)(k:Bool):Prop:=
 match x with
 | .non=>k=false
 | .bl b=>k=b
 | .int i=>k= (i != 0)
 | .str y=>y.length<=zi/\k= ((y.length:Int) != 0)
 | .byt y=>y.size<=zi/\k= ((y.size:Int) != 0)
 | .ref p=>(∃xs,SqL K H p xs/\k= !xs.isEmpty)\/(∃xs,SqT K H p xs/\k= !xs.isEmpty)\/∃rb,H p=some (.dK rb)/\k= !rb.isEmpty
 |_=>False
theorem Wj(r:KV rb vs):(!vs.isEmpty)= !rb.isEmpty:=by
 cases r<;>rfl
theorem aQ(r:m7 xs qu):(!qu.toArray.isEmpty)= !xs.isEmpty:=by
 cases r<;>simp
theorem MA:(zi:Nat)<2 ^ 63:=by rw[jl];decide
theorem uI:vz X (λx H Q=>∃k,aL X.K x H k/\Q k H):=by
 intro pins s σ H x v Q I rx h;obtain⟨k,e,q⟩:=h;have hl:=MA;have hs:zi=16777216:=jl
 cases x with
 |non=>
   cases rx
   have e':k=false:=e;subst e';exact truthy_none ⟨H,I,q⟩
 |bl b=>
   cases rx
   have e':k=b:=e;subst e';exact xP ⟨H,I,q⟩
 |int i=>
   obtain⟨t,rfl⟩:=rx;have e':k= (i != 0):=e;subst e';exact PySem.P.truthy_int ⟨H,I,q⟩
 |str y=>
   obtain⟨t,rfl⟩:=rx;obtain⟨hy,e'⟩:y.length<=zi/\k= ((y.length:Int) != 0):=e;subst e';exact PySem.P.truthy_str (by lia) ⟨H,I.tok _,q⟩
 |byt y=>
   obtain⟨t,rfl⟩:=rx;obtain⟨hy,e'⟩:y.size<=zi/\k= ((y.size:Int) != 0):=e;subst e';exact PySem.W.truthy_bytes (by lia) ⟨H,I.tok _,q⟩
 |ref p=>
   cases rx
   have e':(∃xs,SqL X.K H p xs/\k= !xs.isEmpty)\/(∃xs,SqT X.K H p xs/\k= !xs.isEmpty)\/∃rb,H p=some (.dK rb)/\k= !rb.isEmpty:=e;rcases e' with⟨xs,hx,e'⟩|⟨xs,hx,e'⟩|⟨rb,hx,e'⟩
   ·subst e';obtain⟨qu,r,pl,hz⟩:=I.list hx;have re:=r.length;exact wpAny_truthy_list pl.isList (by simp only[zk];lia) ⟨H,I.tok _,by rw[aQ r];exact q⟩
   ·subst e';obtain⟨qu,r,pl,hz⟩:=I.tuple hx;have re:=r.length;exact truthy_tuple pl (by simp only[zk];lia) ⟨H,I.tok _,by rw[aQ r];exact q⟩
   ·subst e';obtain⟨hz,hS,vs,r,m⟩:rb.length<=zi/\(p==xU)=false/\∃vs,KV rb vs/\s.heap.DictOf (u5 X.prog X.w) p vs:=I.hok p _ hx;have re:rb.length=vs.length:=xy r;exact wpAny_truthy_dict hS m (by lia) ⟨H,I.tok _,by rw[Wj r];exact q⟩
 |_=>exact(show False from e).elim
theorem FV(ha:PE X a ta)(he:∀whole,isTrue a X.env whole= (do let v <-whole;standAt a.pos;Yw [v] (truthy v))):
 PT X a (λσ H Q=>ta σ H λx H'=>∃k,aL X.K x H' k/\Q k H'):=by
 intro pins s σ H Q I h;exact isTrue_plain (thn (ha pins s σ H _ I h) λv s1 sg=>sg.elim λx H1 I1 r1 q1=>uI pins s1 σ H1 x v Q I1 r1 q1) (he _)
theorem wb:OpR X (yE .Add) (λx y H Q=>∃i j,x= .str i/\y= .str j/\i.length+j.length<=zi/\Q (.str (i++j)) H):=by intro pins s σ H x y v u Q I rx ry h;obtain⟨i,j,rfl,rfl,hz,q⟩:=h;obtain⟨t,rfl⟩:=rx;obtain⟨t',rfl⟩:=ry;exact add_str (λt' tk=>⟨.str (i++j),H,I.tok _,⟨_,rfl⟩,q⟩) hz
theorem Z9(r:m7 [x] us):∃u,us= [u]/\t6 x u:=by
 cases r with
 |cons r1 r2=>cases r2;exact⟨_,rfl,r1⟩
theorem KC(r:m7 [x,y] us):∃u w',us= [u,w']/\t6 x u/\t6 y w':=by
 cases r with
 |cons r1 r2=>
   cases r2 with
   |cons r3 r4=>cases r4;exact⟨_,_,rfl,r1,r3⟩
theorem Hx:T9 X (.builtin "abs") (λxs H Q=>∃i,xs= [.int i]/\Q (.int (if i<0 then -i else i)) H):=by intro pins s σ H xs us Q I r h;obtain⟨i,rfl,q⟩:=h;obtain⟨u,rfl,t,rfl⟩:=Z9 r;exact call_abs_int λu tk=>⟨.int (if i<0 then -i else i),H,I.tok _,⟨_,rfl⟩,q⟩
theorem wX(hc:X.calm=true):T9 X (.builtin "max") (λxs H Q=>∃i j,xs= [.int i,.int j]/\Q (.int (if j>i then j else i)) H):=by
 intro pins s σ H xs us Q I r h;obtain⟨i,j,rfl,q⟩:=h;obtain⟨u,w',rfl,⟨t,rfl⟩,⟨t',rfl⟩⟩:=KC r;refine max_two_ints (I.ok.hd hc) λh' tk k=>⟨_,H,I.kept k,?_,q⟩;by_cases hj:j>i
 ·rw[if_pos hj,if_pos hj];exact⟨_,rfl⟩
 ·rw[if_neg hj,if_neg hj];exact⟨_,rfl⟩
theorem vT(hc:X.calm=true):T9 X (.builtin "min") (λxs H Q=>∃i j,xs= [.int i,.int j]/\Q (.int (if j<i then j else i)) H):=by
 intro pins s σ H xs us Q I r h;obtain⟨i,j,rfl,q⟩:=h;obtain⟨u,w',rfl,⟨t,rfl⟩,⟨t',rfl⟩⟩:=KC r;refine min_two_ints (I.ok.hd hc) λh' tk k=>⟨_,H,I.kept k,?_,q⟩;by_cases hj:j<i
 ·rw[if_pos hj,if_pos hj];exact⟨_,rfl⟩
 ·rw[if_neg hj,if_neg hj];exact⟨_,rfl⟩
theorem Sh:T9 X (.type "int") (λxs H Q=>(∃i,xs= [.int i]/\Q (.int i) H)\/∃k,xs= [.bl k]/\Q (.int (if k then 1 else 0)) H):=by
 intro pins s σ H xs us Q I r h;rcases h with⟨i,rfl,q⟩|⟨k,rfl,q⟩
 ·obtain⟨u,rfl,t,rfl⟩:=Z9 r;exact call_int_int ⟨.int i,H,I,⟨_,rfl⟩,q⟩
 · obtain⟨u,rfl,r1⟩:=Z9 r
   cases r1
   exact call_int_bool ⟨.int (if k then 1 else 0),H,I.tok _,⟨_,rfl⟩,q⟩
end
structure ObjM(h:Heap)(x dx C:Addr)(mA:Str->Option zg):Prop where
 obj:h.get? x=some (PySem.W.instObj C dx)
 ns:h.Ns1 dx mA
 ne:dx≠x
section
variable{prog:zV}{w:je}{A:jm}{E:VSP}{s:zw}{K:zj}{x dx C f:Addr}{mA:Str->Option zg}{name:Str}{v:zg}
end
section
end
structure Cls(K:zj)(C:Addr):Prop where
 pg:PySem.W.plainGet K C Str.empty=true
 hd:PySem.W.hasDictIn K C=true
 po:PySem.W.plainOver K C=true
 sa:Zu K (.ref C) "__setattr__" =some (some (.builtin "object.__setattr__"))
structure Con(K:zj)(C:Addr)(f:Str)(v:V)(u:zg):Prop where
 at_:Zu K (.ref C) f=some (some u)
 rel:t6 v u
 get:PySem.W.specialIn K u "__get__" =some none
 cp:PySem.W.copiedNames.contains f=false
structure Meth(K:zj)(C:Addr)(m:Str)(f:Addr):Prop where
 at_:Zu K (.ref C) m=some (some (.ref f))
 fn:PySem.W.isFn K (.ref f)=true
 kp:yS K (.ref f)=true
section
end
section
end
section
inductive r6(K:zj)(H:Hp):V->zg->Prop where
 |non:r6 K H .non (.type "NoneType")
 |bl (x:Bool):r6 K H (.bl x) (.type "bool")
 |int (i:Int):r6 K H (.int i) (.type "int")
 |str (x:Str):r6 K H (.str x) (.type "str")
 |flt (x:UInt64):r6 K H (.flt x) (.type "float")
 |lst {a:Addr} {xs:List V} (e:H a=some (.lst xs)):r6 K H (.ref a) (.type "list")
 |frz {a:Addr} {o:Obj} {xs:List V} (e:H a=some (.frz o (.lst xs))):r6 K H (.ref a) (.type "list")
 |tup {a:Addr} {xs:List V} (e:H a=some (.tup xs)):r6 K H (.ref a) (.type "tuple")
 |dK {a:Addr} {rb:List (Key×V)} (e:H a=some (.dK rb)):r6 K H (.ref a) (.type "dict")
 |dT {a:Addr} {rb:List (List Key×V)} (e:H a=some (.dT rb)):r6 K H (.ref a) (.type "dict")
 |ins {a C dx:Addr} {fs:List (Str×V)} (e:H a=some (.ins C dx fs)) (cl:Cls K C) (ha:Zu K (.ref C) "__class__" =some (some (.builtin "object.__class__")))
    (hn:PySem.W.specialIn K (.builtin "object.__class__") "__get__" =some (some (.builtin "getset_descriptor.__get__"))) (htk:PySem.W.takesIn K (.builtin "object.__class__")=some true)
    (hm:PySem.W.mroIn K C (.type "object")=some true):r6 K H (.ref a) (.ref C)
end
structure P0(k:Nat)(A:jm):Prop where
 hd:A.handled=none
 dp:A.depth+3*k+5<recursionLimit
 un:A.units+16*k+200<xh
 gd:A.guards=some []
theorem P0.mono(r:P0 k A)(h:j<=k):P0 j A:=⟨r.hd,by have:=r.dp;lia,by have:=r.un;lia,r.gd⟩
theorem P0.deeper(r:P0 (k+1) A)(env:Env):P0 k (A.deeper env):=
 ⟨r.hd,by have:=r.dp;show A.depth+1+3*k+5<_;lia,by have:=r.un;show A.units+3+16*k+200<_;lia,r.gd⟩
theorem P0.in1(r:P0 (k+1) A):P0 k A.in1:=
 ⟨r.hd,by have:=r.dp;show A.depth+3*k+5<_;lia,by have:=r.un;show A.units+1+16*k+200<_;lia,r.gd⟩
theorem P0.depth(r:P0 k A):A.depth<recursionLimit:=by have:=r.dp;lia
theorem P0.units(r:P0 k A):A.units+64<xh:=by have:=r.un;lia
def ah:TA:=λ_ H Q=>Q [] H
def pv(ta:TE)(tr:TA):TA:=λσ H Q=>ta σ H λx H1=>tr σ H1 λxs H2=>Q (x::xs) H2
section
theorem gU:PA X [] ah:=λ_ _ _ _ H Q I h=>Zf ⟨[],H,I,.nil,h⟩
theorem Lv(ha:PE X e te)(hr:PA X es t)(hs:zX (e::es) X.env= (false,eval e X.env)::zX es X.env):PA X (e::es) (pv te t):=by intro pos pins s σ H Q I h;rw[hs];show zo _ _ (spliced ((false,eval e X.env)::xF pos (zX es X.env))) _ _ s;refine Za (thn (ha pins s σ H _ I h) λu s1 sg=>sg.elim λx H1 I1 r1 q1=>?_);exact thn (hr pos pins s1 σ H1 _ I1 q1) λus s2 sg=>sg.elim λxs H2 I2 r2 q2=>⟨x::xs,H2,I2,.cons r1 r2,q2⟩
def oU(t:TA):TE:=λσ H Q=>t σ H λxs H1=>xs.length<=zi/\∀p,H1 p=none->Q (.ref p) (upd H1 p (.tup xs))
def Fh(t:TA):TE:=λσ H Q=>t σ H λxs H1=>xs.length<=zi/\∀p,H1 p=none->Q (.ref p) (upd H1 p (.lst xs))
theorem Rk{x1}(h:PA X es t):PE X (.Tuple es x1 pos) (oU t):=by intro pins s σ H Q I hq;refine wpAny_Tuple_spliced (thn (h pos pins s σ H _ I hq) λus s1 ⟨xs,H1,I1,r,z,q⟩=>⟨by rw[<-r.length];exact z,?_⟩);have hf:H1 s1.heap.objs.size=none:=I1.hok.fresh (zh _);refine⟨.ref s1.heap.objs.size,upd H1 s1.heap.objs.size (.tup xs),I1.laid (t':=s1.toks) (λb u e=>zc _ e) (zh _) ?_,rfl,q _ hf⟩;exact⟨z,us,r,⟨_,zn _ rfl,rfl,_,rfl⟩⟩
theorem gT(h:PA X es t):PE X (.List es pos) (Fh t):=by intro pins s σ H Q I hq;refine wpAny_List_spliced (thn (h pos pins s σ H _ I hq) λus s1 ⟨xs,H1,I1,r,z,q⟩=>⟨by rw[<-r.length];exact z,?_⟩);have hf:H1 s1.heap.objs.size=none:=I1.hok.fresh (zh _);refine⟨.ref s1.heap.objs.size,upd H1 s1.heap.objs.size (.lst xs),I1.laid (t':=s1.toks) (λb u e=>zc _ e) (zh _) ?_,rfl,q _ hf⟩;exact⟨z,us,0,r,zn _ rfl⟩
end
abbrev Sp:=List V->Hp->VK->XK->Prop
abbrev CXT:=List Env->Hp->zw->XK->VSP
structure iF(P:zV)(w:je)(K:zj)(mg:Str->Option zg)(base:Heap)(A:jm)(outer:List Env)(s:zw)(H:Hp):Prop where
 frames:A.frames=some outer
 mod:Mod K mg base
 bs:∀b o,base.get? b=some o->s.heap.get? b=some o/\H b=none
 bsz:base.objs.size<=s.heap.objs.size
 funs:s.heap.FunFrames base outer
 frf:∀b∈frs outer,H b=none
 hok:HOk P w H s.heap
 bare:XG s.gens
def CE(outer:List Env)(P:zV)(w:je)(H:Hp)(s:zw)(Q:VK)(u:zg)(s':zw):Prop:=
 ∃v H',s'.os=s.os/\XG s'.gens/\Un (frs outer) [] H H' s.heap s'.heap/\HOk P w H' s'.heap/\t6 v u/\Q v H'
def CR(CX:CXT)(outer:List Env)(P:zV)(w:je)(H:Hp)(s:zw)(Q:VK)(E:XK)(r:Result)(s':zw):Prop:=
 match r with
 | .ok (.ret u)=>CE outer P w H s Q u s'
 | .ok _=>False
 | .error e=>CX outer H s E e s'
structure F1(P:zV)(w:je)(K:zj)(mg:Str->Option zg)(base:Heap)(CX:CXT)(k:Nat)(f:Addr)(fd:xV)(ps:List Str)(sp:Sp):Prop where
 len:∀vs H Q E,sp vs H Q E->vs.length=ps.length
 run:∀(A:jm) (outer:List Env) (s:zw) (H:Hp) (args:Args) (us:List zg) (vs:List V) (Q:VK) (E:XK),P0 k A->iF P w K mg base A outer s H->Xb s fd args (ps.zip us)->m7 vs us->sp vs H Q E->
  xZ (zA P w) A (.call (.ref f) args) (CR CX outer P w H s Q E) s
theorem F1.imp{P:zV}{w:je}{K:zj}{base:Heap}{CX:CXT}{k:Nat}{f:Addr}{fd:xV}{ps:List Str}{sp sp':Sp}(F:F1 P w K mg base CX k f fd ps sp)
 (h:∀vs H Q E,sp' vs H Q E->sp vs H Q E):F1 P w K mg base CX k f fd ps sp':=
 ⟨λvs H Q E q=>F.len vs H Q E (h _ _ _ _ q),λA outer s H args us vs Q E hr he hb hv hs=>F.run A outer s H args us vs Q E hr he hb hv (h _ _ _ _ hs)⟩
section
theorem Inv.env0(I:Inv X pins σ H s):iF X.prog X.w X.K X.mg X.base X.A X.stack s H:=
 ⟨I.ok.frames,I.ok.mod,I.bs,zS I.ok.bsz I.sz,I.stack,I.stkFree,I.hok,I.bare⟩
theorem Inv.after(I:Inv X pins σ H s)(h:CE X.stack X.prog X.w H s Q u s'):EP X pins σ Q u s':=by obtain⟨v,H',os,bare,un,hok,r,q⟩:=h;obtain⟨hh,g,d,t,os'⟩:=s';obtain rfl:os'=s.os:=os;exact⟨v,H',I.call (h':=hh) (g':=g) (d':=d) (t':=t) (ch:= []) un hok bare (λb z=>absurd z (by simp)),r,q⟩
end
def cw(sp:Sp)(dvs:List V)(E:XK)(t:TA):TE:=λσ H Q=>t σ H λvs H1=>sp (vs++dvs) H1 Q E
def P3(K:zj)(fd:xV)(ps:List Str)(ds:List zg):Prop:=
 ∀(s:zw) (us:List zg),K.In s.heap->(us++ds).length=ps.length->Xb s fd ⟨us, []⟩ (ps.zip (us++ds))
theorem P3.all{K:zj}{ps:List Str}(h:∀us:List zg,us.length=ps.length->bindArgs fd ⟨us, []⟩=pure (ps.zip us)):P3 K fd ps []:=λs us _ hl=>by rw[jH]at hl ⊢;exact .of_eq (h us hl)
def cJ(CX:CXT)(X:Cx)(E:XK):Prop:=∀(pins:PNS) (σ:St) (H:Hp) (s:zw) (e:zg) (s':zw),Inv X pins σ H s->CX X.stack H s E e s'->X.xe e s'
section
theorem ML(F:F1 X.prog X.w X.K X.mg X.base CX k f fd ps sp)(hr:P0 k X.A)(hb:P3 X.K fd ps ds)(hd:m7 dvs ds)(hx:cJ CX X E)
 (I:Inv X pins σ H s) (r:m7 vs us) (h:sp (vs++dvs) H Q E):zo (zA X.prog X.w) X.A (call (.ref f) us) (EP X pins σ Q) X.xe s:=by
 have r2:m7 (vs++dvs) (us++ds):=r.append hd;have hl:(us++ds).length=ps.length:=by rw[<-r2.length];exact F.len _ _ _ _ h
 refine wpAny_call (ZX (F.run X.A X.stack s H ⟨us, []⟩ (us++ds) (vs++dvs) Q E hr I.env0 (hb s us I.kIn hl) r2 h) λr s' hq=>?_)
 cases r with
 |error e=>exact hx pins σ H s e s' I hq
 |ok fl=>
   cases fl with
   |ret u=>exact I.after hq
   |next=>exact jU hq
   |brk=>exact jU hq
   |cont=>exact jU hq
theorem uU(F:F1 X.prog X.w X.K X.mg X.base CX k f fd ps sp)(hr:P0 k X.A)(hg:Gl X x)(hm:X.mg x=some (.ref f))(hk:yS X.K (.ref f)=true)(hb:P3 X.K fd ps ds)(hd:m7 dvs ds)(hx:cJ CX X E)
 (ha:PA X (e::es) t) (hdb:(x==("__debug__" :Str))=false) (he:zX (e::es) X.env= (false,eval e X.env)::zX es X.env) (uf:(xF pos (zX es X.env)).any (·.1)=false):
 PE X (.Call (.Name x p) (e::es) [] pos) (cw sp dvs E t):=by
 intro pins s σ H Q I h;refine xc (pE I hg hm ?_ hdb);refine PySem.W.callWith_K (h₀:=X.base) I.ok.mod.kin hk (thn (ha pos pins s σ H _ I h) λus s1 sg=>sg.elim λvs H1 I1 r q=>⟨I1.kIn,?_⟩) he uf;exact ML F hr hb hd hx I1 r q
structure Mk(K:zj)(C f:Addr):Prop where
 makes:PySem.W.makesIn K C=true
 init:Zu K (.ref C) "__init__" =some (some (.ref f))
 fn:PySem.W.isFn K (.ref f)=true
 kp:yS K (.ref C)=true
end
def PK(X:Cx)(kws:List Keyword)(t:TA):Prop:=
 ∀(pos:Pos) (pins:PNS) (s:zw) (σ:St) (H:Hp) (Q:List V->Hp->Prop),Inv X pins σ H s->t σ H Q->zo (zA X.prog X.w) X.A (evalAll ((JC pos (Yv kws X.env)).map (·.2))) (AP X pins σ Q) X.xe s
section
structure KBinds(K:zj)(fd:xV)(ps ks:List Str)(g:List zg->List zg->List zg)(gV:List V->List V->List V):Prop where
 to:∀(s:zw) (us ws:List zg),K.In s.heap->(g us ws).length=ps.length->Xb s fd ⟨us,ks.zip ws⟩ (ps.zip (g us ws))
 rel:∀ {vs:List V} {us:List zg} {zs:List V} {ws:List zg},m7 vs us->m7 zs ws->m7 (gV vs zs) (g us ws)
end
structure V6(N P:List Str)(sc:Scope):Prop where
 kind:sc.kind= .function
 co:sc.isCoroutine=false
 gen:sc.isGenerator=false
 nd:N.Nodup
 pre:N.take P.length=P
 par:∀x∈P,sc.names.lookup x=some .local\/sc.names.lookup x=some .cell
 nofree:∀y∈sc.names,y.2≠ .free
theorem KL{Zh:Str->Option NameKind}{x:Str}:∀ {binds} {m:Str->Option zg},(∀v,(x,v)∉binds)->bindL Zh binds m x=m x
 |[],_,_=>rfl
 |(n,v)::r,m,h=>by
  unfold bindL;rw[KL λw hw=>h w (zl _ hw)];split
  · have:x≠n:=by rintro rfl;exact h v zv
    simp[this]
  ·rfl
theorem CN{Zh:Str->Option NameKind}{x:Str}:∀ {binds} {m:Str->Option zg},(∀v,(x,v)∉binds)->bindC Zh binds m x=m x
 |[],_,_=>rfl
 |(n,v)::r,m,h=>by
  unfold bindC;rw[CN λw hw=>h w (zl _ hw)];split
  ·rfl
  · have:x≠n:=by rintro rfl;exact h v zv
    simp[this]
theorem lO{Zh:Str->Option NameKind}{x:Str}{v:zg}:∀ {P:List Str} {vs:List zg} {i:Nat} {m},P.Nodup->P[i]? =some x->vs[i]? =some v->Zh x=some .local->
 bindL Zh (P.zip vs) m x=some v
 |[],_,_,_,_,h,_,_=>by simp at h
 |_::_, [],_,_,_,_,h,_=>by simp at h
 |p::P,w::vs,0,m,nd,h1,h2,hk=>by simp at h1 h2;subst h1;subst h2;show bindL Zh ((p,w)::P.zip vs) m p=_;unfold bindL;rw[KL λv hv=>(Zb.mp nd).1 (Jv hv).1,if_pos hk];simp
 |p::P,w::vs,i+1,m,nd,h1,h2,hk=>by show bindL Zh ((p,w)::P.zip vs) m x=_;unfold bindL;exact lO (i:=i) (Zb.mp nd).2 (by simpa using h1) (by simpa using h2) hk
theorem EN{Zh:Str->Option NameKind}{x:Str}{v:zg}:∀ {P:List Str} {vs:List zg} {i:Nat} {m},P.Nodup->P[i]? =some x->vs[i]? =some v->Zh x≠some .local->
 bindC Zh (P.zip vs) m x=some v
 |[],_,_,_,_,h,_,_=>by simp at h
 |_::_, [],_,_,_,_,h,_=>by simp at h
 |p::P,w::vs,0,m,nd,h1,h2,hk=>by simp at h1 h2;subst h1;subst h2;show bindC Zh ((p,w)::P.zip vs) m p=_;unfold bindC;rw[CN λv hv=>(Zb.mp nd).1 (Jv hv).1,if_neg hk];simp
 |p::P,w::vs,i+1,m,nd,h1,h2,hk=>by show bindC Zh ((p,w)::P.zip vs) m x=_;unfold bindC;exact EN (i:=i) (Zb.mp nd).2 (by simpa using h1) (by simpa using h2) hk
def start(N:List Str)(vs:List V):St:=vs.map some++jI (N.length-vs.length) none
def P7(CX:CXT)(P:zV)(w:je)(K:zj)(mg:Str->Option zg)(base:Heap)(N:List Str)(qual:Str)(scope:Scope)(f:Addr)(cd:zg)(A:jm)(outer:List Env)(s:zw)(H:Hp)(E:XK):Cx where
 prog:=P
 w:=w
 K:=K
 mg:=mg
 base:=base
 A:=A.deeper (YF qual scope s.heap.objs.size f cd)
 N:=N
 WW:=s
 H₀:=H
 env:=YF qual scope s.heap.objs.size f cd
 outer:=outer
 stack:=YF qual scope s.heap.objs.size f cd::outer
 ex:= []
 calm:=true
 fn:=λ_=>true
 pn:= []
 xe:=λe s'=>zo (zA P w) (A.deeper (YF qual scope s.heap.objs.size f cd)) (leaving (YF qual scope s.heap.objs.size f cd) e) (λ_ s''=>CX outer H s E e s'') (λe' s''=>CX outer H s E e' s'') s'
theorem FM{sc:Scope}{x:Str}(h:sc.names.lookup x=some .cell):∃c,(cellsFrom n sc.names []).lookup x=some c:=by have q:=JS sc.names n [] (.inl h);exact JL.mp q
theorem Vq{CX:CXT}{P:zV}{w:je}{K:zj}{mg:Str->Option zg}{base:Heap}{N ps:List Str}{qual:Str}{scope:Scope}{f:Addr}{cd:zg}{A:jm}{outer:List Env}{s s1:zw}{H:Hp}{E:XK}{us:List zg}{vs:List V}
 (S:V6 N ps scope) (hd:A.handled=none) (gd:A.guards=some []) (e0:iF P w K mg base A outer s H) (hl:vs.length=ps.length) (r:m7 vs us)
 (x:InCallC s s.heap.objs.size (bindL (YF qual scope s.heap.objs.size f cd).kindOf (ps.zip us) λ_=>none) (cellsFrom (s.heap.objs.size+1) scope.names []) (bindC (YF qual scope s.heap.objs.size f cd).kindOf (ps.zip us) λ_=>none) s1):
 Inv (P7 CX P w K mg base N qual scope f cd A outer s H E) [] (start N vs) H s1:=by
 have uf:ps.length<=N.length:=by have:=congrArg xv S.pre;rw[jW]at this;lia
 obtain⟨h1,tk,rfl,hk⟩:=x.done;have noA:∀b:Addr,b∉(P7 CX P w K mg base N qual scope f cd A outer s H E).ex:=λb z=>absurd (show b∈([]:List Addr)from z) (by simp);refine⟨⟨e0.mod,S.kind,rfl,rfl,zh _,λy z c h1 h2=>?_,λy hy=>?_,λy c _ h=>?_,λ_=>hd,Around.frames_deeper e0.frames,.inr ⟨rfl,rfl⟩,λb z=>absurd z (noA b),e0.bs,e0.bsz,λb _ _=>noA b,λb z=>absurd z (noA b),e0.funs,e0.frf,gd⟩,
  rfl,e0.bare,Un.kept hk,⟨_,x.toInCall.ns,λi y v h1 h2 h3=>?_⟩,λy c h=>⟨_,x.cell y c h⟩,e0.hok.fresh (zh _),λy c h=>?_,λp hp=>absurd (show p∈([]:PNS)from hp) (by simp),e0.hok.kept hk,?_⟩
 ·exact name_of_addr x.apart (xk h1) (xk h2)
 · have hy:scope.names.lookup y=some .cell\/scope.names.lookup y=some .free:=hy;rcases hy with hy|hy
   ·exact FM hy
   ·exact absurd rfl (S.nofree _ (xk hy))
 ·exact yT (x.above y c (xk h))
 · have hi:i<vs.length:=by
    unfold start at h2;by_cases hi:i<vs.length
    ·exact hi
    ·rw[yB (by simpa using hi)]at h2;rw[List.getElem?_replicate]at h2;split at h2<;>cases h2
   have ha:vs[i]? =some v:=by
    unfold start at h2;rw[zB (by simpa using hi),jp]at h2
    cases e:vs[i]? with
    |none=>rw[e]at h2;cases h2
    |some a=>rw[e]at h2;cases h2;rfl
   obtain⟨u,hu,rv⟩:=r.get ha;have hp:ps[i]? =some y:=by rw[<-S.pre,List.getElem?_take_of_lt (by lia)];exact h1
   have ndP:ps.Nodup:=by rw[<-S.pre];exact S.nd.sublist (List.take_sublist _ _)
   refine⟨u,rv,?_⟩;rcases S.par y (jK hp)with k|k
   ·exact .inl ⟨k,lO ndP hp hu k⟩
   ·obtain⟨c,e⟩:=FM (n:=s.heap.objs.size+1) k;refine .inr ⟨.inl k,c,e,?_⟩;have q:=x.cell y c e;rw[EN ndP hp hu (by show scope.names.lookup y≠_;rw[k];decide)]at q;exact q
 ·exact e0.hok.fresh (yT (x.above y c (xk h)))
 ·unfold start;show _=N.length;rw[zd,zf,List.length_replicate];lia
theorem Gd{CX:CXT}{P:zV}{w:je}{K:zj}{mg:Str->Option zg}{base:Heap}{k:Nat}{f:Addr}{name qual:Str}{params:Arguments}{body:List Stmt}{scope:Scope}{dV kV doc pm sn ct oc:zg}{an od:Option Addr}
 {N ps:List Str} {sp:Sp} (lk:K.lookup f=some ⟨oc,od,.func (yO name qual params body scope dV kV doc pm an sn ct),osl⟩) (hcd:Zv K sn qual=true) (S:V6 N ps scope)
 (len:∀vs H Q E,sp vs H Q E->vs.length=ps.length)
 (hbody:∀(A:jm) (outer:List Env) (s:zw) (H:Hp) (vs:List V) (Q:VK) (E:XK),P0 k (A.deeper (YF qual scope s.heap.objs.size f sn))->sp vs H Q E->
   ∃t,PSs (P7 CX P w K mg base N qual scope f sn A outer s H E) body t/\t {nx:=λ_ H'=>Q .non H',rt:=Q} (start N vs) H):
 F1 P w K mg base CX (k+1) f (yO name qual params body scope dV kV doc pm an sn ct) ps sp:=by
 refine⟨len,λA outer s H args us vs Q E hr e0 hb r hsp=>?_⟩;have hl:=len _ _ _ _ hsp;have KX:K.In s.heap:=e0.mod.kin.keeps λb o e=>(e0.bs b o e).1;have lim:s.heap.NoLimit:=e0.mod.nolimit.keeps λb o e=>(e0.bs b o e).1;have hkind:∀y∈ps.zip us,scope.names.lookup y.1=some .local\/(scope.names.lookup y.1=some .cell/\((cellsFrom (s.heap.objs.size+1) scope.names []).lookup y.1).isSome=true):=fun⟨n,v⟩ hy=>by
  rcases S.par n (Jv hy).1 with q|q
  ·exact .inl q
  ·exact .inr ⟨q,JS _ _ _ (.inl q)⟩
 refine codeAny_call_function hr.depth (KX _ _ lk) rfl S.co S.gen rfl (PySem.W.codeRec_of KX hcd) (hb _ _ _ _ ?_);refine wpAny_newFunctionEnv_cells S.kind hkind λenv he s1 x=>?_;subst he;refine⟨lim.keeps x.toInCall.keep,codeAny_func ?_⟩;obtain⟨t,ht,hq⟩:=hbody A outer s H vs Q E (hr.deeper _) hsp;have I:Inv (P7 CX P w K mg base N qual scope f sn A outer s H E) [] (start N vs) H s1:=Vq S hr.hd hr.gd e0 hl r x;refine jE (ht [] s1 (start N vs) H _ I hq) (λfl s' hs=>?_) λe s' hs=>hs;have fin:∀ {X1:St} {H':Hp} {v:V} {u:zg},Inv (P7 CX P w K mg base N qual scope f sn A outer s H E) [] X1 H' s'->t6 v u->Q v H'->CE outer P w H s Q u s':=
  λ{X1 H' v u} J rv q=>⟨v,H',J.os,J.bare,J.base,J.hok,rv,q⟩
 cases fl with
 |ret u=>
   obtain⟨v,X1,H',J,rv,q⟩:=hs;exact fin J rv q
 |next=>
   obtain⟨X1,H',J,q⟩:=hs;exact fin (v:=V.non) (u:=Value.none) J rfl q
 |brk=>
   obtain⟨_,_,_,q⟩:=hs;exact jU q
 |cont=>
   obtain⟨_,_,_,q⟩:=hs;exact jU q
section
variable{X:Cx}{x:Str}{p pos:Pos}{e:Expr}{es:List Expr}{t:TA}{id T:String}{r:List V->Hp->VK->Prop}
def tCB(r:List V->Hp->VK->Prop)(t:TA):TE:=λσ H Q=>t σ H λvs H1=>r vs H1 Q
theorem mf(hc:T9 X (.builtin id) r)(hg:Gl X x)(hm:X.mg x=none)(hv:jb x=some (.builtin id))(ha:PA X (e::es) t)(hn:x≠ "__name__")(hdb:(x==("__debug__" :Str))=false)
 (he:zX (e::es) X.env= (false,eval e X.env)::zX es X.env) (uf:(xF pos (zX es X.env)).any (·.1)=false):PE X (.Call (.Name x p) (e::es) [] pos) (tCB r t):=by
 intro pins s σ H Q I h;refine xc (D6 I hg hm hv ?_ hn hdb);exact PyProof.Rows.callWith_builtin1 (thn (ha pos pins s σ H _ I h) λus s1 sg=>sg.elim λvs H1 I1 r1 q1=>hc pins s1 σ H1 vs us Q I1 r1 q1) he uf
theorem bc(hc:T9 X (.type T) r)(hg:Gl X x)(hm:X.mg x=none)(hv:jb x=some (.type T))(ha:PA X (e::es) t)(hn:x≠ "__name__")(hdb:(x==("__debug__" :Str))=false)
 (he:zX (e::es) X.env= (false,eval e X.env)::zX es X.env) (uf:(xF pos (zX es X.env)).any (·.1)=false):PE X (.Call (.Name x p) (e::es) [] pos) (tCB r t):=by
 intro pins s σ H Q I h;refine xc (D6 I hg hm hv ?_ hn hdb);exact yI (thn (ha pos pins s σ H _ I h) λus s1 sg=>sg.elim λvs H1 I1 r1 q1=>hc pins s1 σ H1 vs us Q I1 r1 q1) he uf
end
end L2
namespace HT
open PySem PyProof.Rows
section
open PySem.SeqAt
open PySem.AutoSeq1 (wpAny_loadPart')
open PySem.MeetsSeq PySem.MeetsSeq2 PySem.MeetsSeq3
end
section
theorem cat_tup(ht:xY s.heap t vs.toArray)(hb:xY s.heap b ws.toArray)(hv:vs≠ [])
 (h1:ws= []->Q (.ref t) s) (h2:ws≠ []->Q (.ref s.heap.objs.size) {s with heap:=s.heap.push {cls:=.type "tuple",data:=.seq (vs++ws).toArray}})
 (hsz:vs.length+ws.length<=zi):zo (zA prog w) A (yE .Add (.ref t) (.ref b)) Q E s:=by
 obtain⟨⟨cls,dd,data,sl⟩,ho,hc,n,hd⟩:=id ht;obtain⟨⟨cls2,dd2,data2,sl2⟩,sj,hc2,n2,hd2⟩:=id hb;simp only at hc hd hc2 hd2;subst hc hd hc2 hd2;have e:vs.toArray++ws.toArray= (vs++ws).toArray:=by simp
 by_cases hw:ws= []
 · exact concat_meets ⟨_,ho,rfl⟩ ⟨_,sj,rfl⟩ JR seq_tuple_add Yg Yb (ZP _ _)
    (tuple_addW1 t b vs.toArray ws.toArray n n2 dd dd2 sl sl2 (by simpa using hv) (by simp[hw])) ⟨ho,sj,h1 hw⟩
 · refine concat_meets ⟨_,ho,rfl⟩ ⟨_,sj,rfl⟩ JR seq_tuple_add Yg Yb (ZP _ _)
    (tuple_addW2 t b vs.toArray ws.toArray n n2 dd dd2 sl sl2 (by simpa using hv) (by simpa using hw) (by rw[zk,zk];exact hsz)) ⟨ho,sj,?_⟩
   rw[e];exact h2 hw
def sIx(n d:Nat):Option Int->Nat
 |none=>d
 |some v=>if v<0 then (v+(n:Int)).toNat else min v.toNat n
theorem sIx_none(n d:Nat):sIx n d none=d:=rfl
theorem sIx_nat(n d k:Nat):sIx n d (some (k:Int))=min k n:=by show (if (k:Int)<0 then ((k:Int)+(n:Int)).toNat else min (k:Int).toNat n)=min k n;rw[if_neg (by lia),ya]
theorem qa(n d:Nat)(hd:d<=n)(o:Option Int):sIx n d o<=n:=by
 cases o with
 |none=>exact hd
 |some v=>
   show (if v<0 then (v+(n:Int)).toNat else min v.toNat n)<=n;by_cases hv:v<0
   ·rw[if_pos hv];lia
   ·rw[if_neg hv];exact Nat.min_le_right _ _
theorem HR(v:Int)(n d:Nat):(if v<0 then max (v+(n:Int)) 0 else min v (n:Int))= ((sIx n d (some v):Nat):Int):=by
 show (if v<0 then max (v+(n:Int)) 0 else min v (n:Int))= (((if v<0 then (v+(n:Int)).toNat else min v.toNat n):Nat):Int);by_cases hv:v<0
 ·simp only[if_pos hv];lia
 ·simp only[if_neg hv];lia
theorem VW(lo hi:Option Int)(n:Nat):Zo lo hi 1 (n:Int)= (((sIx n 0 lo:Nat):Int),((sIx n n hi:Nat):Int)):=by
 have h1:¬((1:Int)<0):=by lia
 unfold Zo;simp only[h1,if_false];refine Prod.ext ?_ ?_
 · cases lo with
   |none=>rfl
   |some v=>exact HR v n 0
 · cases hi with
   |none=>rfl
   |some v=>exact HR v n n
theorem Kj(i j:Nat):xA (i:Int) (j:Int) 1=j-i:=by
 unfold xA;have h1:(1:Int)>0:=by lia
 simp only[h1,if_true,Int.ediv_one];split<;>lia
theorem NP(p:IsPart v o)(h:Q o s):zo (zA prog w) A (Builtin.Slice.slicePartIndex v) Q E s:=by
 cases p with
 |none=>exact slicePart_none h
 |int i t=>exact slicePart_int h
theorem sliceApplied_gen{sl:Addr}{vl vu:zg}{lo hi:Option Int}{n:Nat}(hs:s.heap.IsSliceOf sl vl vu .none)(pl:IsPart vl lo)(pu:IsPart vu hi)
 (h:Q (((sIx n 0 lo:Nat):Int),1,sIx n n hi-sIx n 0 lo) s):zo (zA prog w) A (Xm (.ref sl) (pure (n:Int))) Q E s:=by
 obtain⟨os,hos,hcs,hds⟩:=id hs;unfold Xm Builtin.Slice.sliceFields;refine za (za (jG hos hds (x:=vl) rfl (za (jG hos hds (x:=vu) rfl (za (jG hos hds (x:=.none) rfl (ze ?_)))))));refine za (slicePart_none ?_);show zo _ _ (if ((1:Int)==0)=true then _ else _) _ _ s;rw[if_neg (by decide)];refine za (NP pl (za (NP pu (za (ze ?_)))));show zo _ _ (match Zo lo hi 1 (n:Int) with|(lo,hi)=>pure (lo,(1:Int),xA lo hi 1)) _ _ s;rw[VW lo hi n];show zo _ _ (pure (((sIx n 0 lo:Nat):Int),(1:Int),xA ((sIx n 0 lo:Nat):Int) ((sIx n n hi:Nat):Int) 1)) _ _ s;rw[Kj];exact ze h
theorem Pf(xs:Array zg)(i k:Nat):((zE k).filterMap fun(m:Nat)=>xs[((i:Int)+(m:Int)*1).toNat]?).toArray= ((xs.toList.drop i).take k).toArray:=by
 have e:(fun(m:Nat)=>xs[((i:Int)+(m:Int)*1).toNat]?)=λm=>xs[i+m]? :=by
  funext m;have:((i:Int)+(m:Int)*1).toNat=i+m:=by lia
  rw[this]
 rw[e];have:=pick_run xs i k;rw[yo]at this;have e2:((λx=>xs[x]?)∘λx=>i+x)=λm=>xs[i+m]? :=rfl;rw[e2]at this;rw[this]
theorem getItem_tuple_cut{t sl:Addr}{vl vu:zg}{lo hi:Option Int}(ht:xY s.heap t items)(hs:s.heap.IsSliceOf sl vl vu .none)(pl:IsPart vl lo)(pu:IsPart vu hi)
 (hw:¬(sIx items.size 0 lo=0/\sIx items.size items.size hi=items.size))
 (h:Q (.ref s.heap.objs.size) {s with heap:=s.heap.push {cls:=.type "tuple",data:=.seq ((items.toList.drop (sIx items.size 0 lo)).take (sIx items.size items.size hi-sIx items.size 0 lo)).toArray}})
 (hsz:items.size<=zi):zo (zA prog w) A (JA (.ref t) (.ref sl)) Q E s:=by
 have htake:sizeOk (.seq ((items.toList.drop (sIx items.size 0 lo)).take (sIx items.size items.size hi-sIx items.size 0 lo)).toArray):=by show ((items.toList.drop (sIx items.size 0 lo)).take (sIx items.size items.size hi-sIx items.size 0 lo)).toArray.size<=zi;rw[zk,jW,xp,zF];lia
 have hj:sIx items.size items.size hi<=items.size:=qa _ _ (zh _) hi;obtain⟨os,hos,hcs,hds⟩:=id hs;have hTs:s.TypeIs (.ref sl) "slice":=⟨os,hos,hcs⟩;unfold JA
 try with_reducible refine jt ?_
 first|refine za (ze ?_)|skip
 refine za (wpAny_sequenceKey ht.typeIs (by decide) ?_);refine za (ju (name:=jh "__getitem__") ht.typeIs jB
  (jk jB ht.typeIs entry_tuple_getitem ?_ (args_tuple_getitem _ _)))
 show zo _ _ (Xl (.ref t) >>= _) _ _ s;refine za (tupleItemsOf_ ht ?_);refine za (xD hTs ?_);rw[if_pos (by decide)];refine za (sliceApplied_gen hs pl pu ?_);have hno:¬((((sIx items.size 0 lo:Nat):Int)==0&&(1:Int)==1&&(sIx items.size items.size hi-sIx items.size 0 lo)==items.size)=true):=by intro q;rw[jy,jy]at q;have q1:((sIx items.size 0 lo:Nat):Int)=0:=eq_of_beq q.1.1;have q2:sIx items.size items.size hi-sIx items.size 0 lo=items.size:=eq_of_beq q.2;exact hw ⟨by lia,by lia⟩
 show zo _ _ (if (((sIx items.size 0 lo:Nat):Int)==0&&(1:Int)==1&&(sIx items.size items.size hi-sIx items.size 0 lo)==items.size)=true then _ else _) _ _ s;rw[if_neg hno,Pf]
 first
  |exact za (m:=xH _) (yd (ze ⟨_,rfl,ze h⟩) htake)
  |exact za (m:=xH _) (yd (za (ze (ze ⟨_,rfl,ze h⟩))) htake)
  |exact za (za (m:=xH _) (yd (ze (ze ⟨_,rfl,ze h⟩)) htake))
  |exact za (za (m:=xH _) (yd (ze ⟨_,rfl,ze h⟩) htake))
end
end HT
namespace L2
open PySem PySem.Spec PyProof.Rows
abbrev TO:=St->Hp->(Option Int->Hp->Prop)->Prop
def PO(X:Cx)(e:Option Expr)(t:TO):Prop:=
 ∀(pins:PNS) (s:zw) (σ:St) (H:Hp) (Q:Option Int->Hp->Prop),Inv X pins σ H s->t σ H Q->
  zo (zA X.prog X.w) X.A (evalPart e X.env) (λu s'=>∃o H',Inv X pins σ H' s'/\IsPart u o/\Q o H') X.xe s
def aW:TO:=λ_ H Q=>Q none H
def bz(t:TE):TO:=λσ H Q=>t σ H λx H1=>∃i,x= .int i/\Q (some i) H1
section
variable{X:Cx}{e:Expr}{te:TE}{lo hi:Option Expr}{tl th:TO}{pos p2:Pos}
theorem Hd:PO X none aW:=by intro pins s σ H Q I h;rw[evalPart_none];exact ze ⟨none,H,I,.none,h⟩
theorem Wb(h:PE X e te):PO X (some e) (bz te):=by intro pins s σ H Q I hw;rw[evalPart_some];refine thn (h pins s σ H _ I hw) λu s1 sg=>sg.elim λx H1 I1 r1 q1=>?_;obtain⟨i,rfl,q⟩:=q1;obtain⟨t,rfl⟩:=r1;exact⟨some i,H1,I1,.int i t,q⟩
def SlR(X:Cx)(r:V->Option Int->Option Int->Hp->VK->Prop):Prop:=
 ∀(pins:PNS) (s:zw) (σ:St) (H:Hp) (x:V) (v vl vu:zg) (lo hi:Option Int) (sl:Addr) (Q:VK),Inv X pins σ H s->t6 x v->s.heap.IsSliceOf sl vl vu .none->IsPart vl lo->IsPart vu hi->r x lo hi H Q->
  ∃T id,Ji (.type T) "__getitem__" =pure (some (.builtin id))/\s.TypeIs v T/\zo (zA X.prog X.w) X.A (JA v (.ref sl)) (EP X pins σ Q) X.xe s
theorem SlR.or(h:SlR X r)(h':SlR X r'):SlR X (λx lo hi H Q=>r x lo hi H Q\/r' x lo hi H Q):=by
 intro pins s σ H x v vl vu lo hi sl Q I rx hs pl pu q;rcases q with q|q
 ·exact h pins s σ H x v vl vu lo hi sl Q I rx hs pl pu q
 ·exact h' pins s σ H x v vl vu lo hi sl Q I rx hs pl pu q
def tSl(r:V->Option Int->Option Int->Hp->VK->Prop)(te:TE)(tl th:TO):TE:=λσ H Q=>te σ H λx H1=>tl σ H1 λl H2=>th σ H2 λu H3=>r x l u H3 Q
theorem iq(hr:SlR X r)(he:PE X e te)(hl:PO X lo tl)(hu:PO X hi th):PE X (.Subscript e (.Slice lo hi none p2) pos) (tSl r te tl th):=by intro pins s σ H Q I h;refine Subscript_ (thn (he pins s σ H _ I h) λv s1 sg=>sg.elim λx H1 I1 r1 q1=>?_);refine wpAny_Slice (thn (hl pins s1 σ H1 _ I1 q1) λvl s2 ⟨l,H2,I2,pl,q2⟩=>thn (hu pins s2 σ H2 _ I2 q2) λvu s3 ⟨u,H3,I3,pu,q3⟩=>?_);rw[evalPart_none];refine ze ?_;have I4:Inv X pins σ H3 {s3 with heap:=s3.heap.push {cls:=.type "slice",data:=.fields #[vl,vu,.none]}}:=I3.kept (t':=s3.toks) λb ob q=>zc _ q;obtain⟨T,id,hT,ht,hg⟩:=hr pins {s3 with heap:=s3.heap.push {cls:=.type "slice",data:=.fields #[vl,vu,.none]}} σ H3 x v vl vu l u s3.heap.objs.size Q I4 r1 (Js ..) pl pu q3;show zo (zA X.prog X.w) X.A (subscriptTail e (.Slice lo hi none p2) v (.ref s3.heap.objs.size)) (EP X pins σ Q) X.xe {s3 with heap:=s3.heap.push {cls:=.type "slice",data:=.fields #[vl,vu,.none]}};exact tail_any (ops:= [.ref s3.heap.objs.size,v]) ht hT hg (by with_unfolding_all rfl)
def f7(xs:List V)(lo hi:Option Int):List V:=(xs.drop (HT.sIx xs.length 0 lo)).take (HT.sIx xs.length xs.length hi-HT.sIx xs.length 0 lo)
theorem oR(xs:List V)(lo hi:Option Int):(f7 xs lo hi).length<=xs.length:=by unfold f7;rw[jW,xp];lia
def Lg(K:zj):V->Option Int->Option Int->Hp->VK->Prop:=λx lo hi H Q=>∃a xs,x= .ref a/\SqT K H a xs/\
 ¬(HT.sIx xs.length 0 lo=0/\HT.sIx xs.length xs.length hi=xs.length)/\∀p,H p=none->Q (.ref p) (upd H p (.tup (f7 xs lo hi)))
theorem sl_tup:SlR X (Lg X.K):=by
 intro pins s σ H x v vl vu lo hi sl Q I rx hs pl pu h;obtain⟨a,xs,rfl,hx,hw,q⟩:=h
 cases rx
 obtain⟨qu,r,ht,hz⟩:=I.tuple hx;have re:qu.toArray.size=xs.length:=by rw[zk];exact r.length.symm
 refine⟨"tuple",_,jB.lookup,ht.typeIs,?_⟩;refine HT.getItem_tuple_cut ht hs pl pu (by rw[re];exact hw) ?_ (by rw[re];exact hz);rw[re];refine⟨.ref s.heap.objs.size,_,I.laid (t':=s.toks) (o:=.tup (f7 xs lo hi)) (λb ob q=>zc _ q) (zh _) ?_,rfl,q _ (I.hok.fresh (zh _))⟩;exact⟨zS (oR xs lo hi) hz,_,(r.drop (HT.sIx xs.length 0 lo)).take (HT.sIx xs.length xs.length hi-HT.sIx xs.length 0 lo),P4.new _ _⟩
def wd(K:zj):R2:=λx y H Q=>∃a b xs ys,x= .ref a/\y= .ref b/\SqT K H a xs/\SqT K H b ys/\xs≠ []/\xs.length+ys.length<=zi/\
 (ys= []->Q (.ref a) H)/\(ys≠ []->∀p,H p=none->Q (.ref p) (upd H p (.tup (xs++ys))))
theorem m7.nil_iff(r:m7 xs us):us= []↔xs= []:=by
 cases r with
 |nil=>simp
 |cons _ _=>simp
theorem Md:OpR X (yE .Add) (wd X.K):=by
 intro pins s σ H x y v u Q I rx ry h;obtain⟨a,b,xs,ys,rfl,rfl,ha,hb,hx,hz,q1,q2⟩:=h
 cases rx
 cases ry
 obtain⟨qu,r1,p1,_⟩:=I.tuple ha;obtain⟨ug,r2,p2,_⟩:=I.tuple hb;refine HT.cat_tup p1 p2 (λz=>hx (r1.nil_iff.mp z)) (λz=>⟨.ref a,H,I,rfl,q1 (r2.nil_iff.mp z)⟩) (λz=>?_) (by rw[<-r1.length,<-r2.length];exact hz);refine⟨.ref s.heap.objs.size,_,I.laid (t':=s.toks) (o:=.tup (xs++ys)) (λb ob q=>zc _ q) (zh _) ?_,rfl,q2 (λw=>z (r2.nil_iff.mpr w)) _ (I.hok.fresh (zh _))⟩;exact⟨by rw[zd];exact hz,_,r1.append r2,P4.new _ _⟩
end
def ixN(n:Nat)(i:Int):Option Nat:=if 0<=i then (if i<n then some i.toNat else none)else if -(n:Int)<=i then some (i+n).toNat else none
def atI{α:Type}(xs:List α)(i:Int):Option α:=(ixN xs.length i).bind λj=>xs[j]?
theorem MO(h:ixN n i=some j):JQ i n=some j/\j<n/\ -(n:Int)<=i/\i<n:=by
 unfold ixN at h;by_cases h0:0<=i
 · rw[if_pos h0]at h;by_cases h1:i<n
   ·rw[if_pos h1]at h;have e:i.toNat=j:=js h;exact⟨by rw[seqIndex_of h0 h1,e],by lia,by lia,h1⟩
   ·rw[if_neg h1]at h;cases h
 · rw[if_neg h0]at h;by_cases h1: -(n:Int)<=i
   ·rw[if_pos h1]at h;have e:(i+n).toNat=j:=js h;exact⟨by rw[seqIndex_neg (by lia) h1,e],by lia,h1,by lia⟩
   ·rw[if_neg h1]at h;cases h
theorem CJ(h:atI xs i=some v):∃j,JQ i xs.length=some j/\xs[j]? =some v/\j<xs.length/\ -(xs.length:Int)<=i/\i<xs.length:=by
 unfold atI at h
 cases e:ixN xs.length i with
 |none=>rw[e]at h;cases h
 |some j=>
   rw[e]at h;obtain⟨h1,h2,h3,h4⟩:=MO e;exact⟨j,h1,h,h2,h3,h4⟩
theorem atI_nat{xs:List α}{j:Nat}{v:α}(h:xs[j]? =some v):atI xs (j:Int)=some v:=by
 have hj:j<xs.length:=(xb.mp h).1;have e:ixN xs.length (j:Int)=some j:=by unfold ixN;rw[if_pos (by lia),if_pos (by lia)];simp
 unfold atI;rw[e];exact h
theorem HL(xs:List α)(v:α):atI (xs++[v]) (-1)=some v:=by
 have hl:(xs++[v]).length=xs.length+1:=by simp
 have e:ixN (xs++[v]).length (-1)=some xs.length:=by unfold ixN;rw[hl,if_neg (by decide),if_pos (by lia)];congr 1;lia
 unfold atI;rw[e];show (xs++[v])[xs.length]? =some v;simp
def aF(b:Expr):Prop:=∀o i,subscripted b false o i=operate [o,i] (JA o i)
def IxR(X:Cx)(r:R2):Prop:=
 ∀(value slice:Expr) (pins:PNS) (s:zw) (σ:St) (H:Hp) (x y:V) (v u:zg) (Q:VK),Inv X pins σ H s->t6 x v->t6 y u->r x y H Q->
  subscripted slice false v u=operate [v,u] (JA v u)->zo (zA X.prog X.w) X.A (subscriptTail value slice v u) (EP X pins σ Q) X.xe s
def MtR(X:Cx)(id:String)(r:V->List V->Hp->VK->Prop):Prop:=
 ∀(pins:PNS) (s:zw) (σ:St) (H:Hp) (x:V) (xs:List V) (v:zg) (us:List zg) (Q:VK),Inv X pins σ H s->t6 x v->m7 xs us->r x xs H Q->
  zo (zA X.prog X.w) X.A (call (.builtin id) (v::us)) (EP X pins σ Q) X.xe s
section
variable{X:Cx}
theorem IxR.or(h:IxR X r)(h':IxR X r'):IxR X (λx y H Q=>r x y H Q\/r' x y H Q):=by
 intro value slice pins s σ H x y v u Q I rx ry q hs;rcases q with q|q
 ·exact h value slice pins s σ H x y v u Q I rx ry q hs
 ·exact h' value slice pins s σ H x y v u Q I rx ry q hs
theorem Hh(hr:IxR X r)(ha:PE X a ta)(hb:PE X b tb)(hs:aF b):PE X (.Subscript a b pos) (tOp r ta tb):=by intro pins s σ H Q I h;exact Subscript_ (BI ha hb I h λv u s2 x y H2 I2 rx ry q=>hr a b pins s2 σ H2 x y v u Q I2 rx ry q (hs _ _))
def Pk(K:zj):R2:=λx y H Q=>∃p xs i v,x= .ref p/\y= .int i/\SqL K H p xs/\atI xs i=some v/\Q v H
def Pm(K:zj):R2:=λx y H Q=>∃p xs i v,x= .ref p/\y= .int i/\SqT K H p xs/\atI xs i=some v/\Q v H
def Nm:R2:=λx y H Q=>∃z i c,x= .str z/\y= .int i/\z.length<=zi/\atI z.cps.toList i=some c/\Q (.str ⟨#[c]⟩) H
theorem Px:IxR X (Pk X.K):=by
 intro value slice pins s σ H x y v u Q I rx ry h hs;obtain⟨p,xs,i,z,rfl,rfl,hq,he,q⟩:=h
 cases rx
 obtain⟨t,rfl⟩:=ry;obtain⟨qu,r,pl,hz⟩:=I.list hq;obtain⟨j,h1,h2,h3,h4,h5⟩:=CJ he;obtain⟨w,ew,rw'⟩:=r.get h2;have hl:=r.length;have hn:=MA;have fin:EP X pins σ Q w s:=⟨z,H,I,rw',q⟩;by_cases h0:0<=i
 · have hj:i.toNat=j:=by
    rw[seqIndex_of h0 h5]at h1;exact js h1
   exact item_listR pl.isList h0 (by lia) (by rw[hj];simpa using ew) fin hs
 · have hj:(i+(qu.toArray.size:Int)).toNat=j:=by
    rw[seqIndex_neg (by lia) h4]at h1;rw[zk,<-hl];exact js h1
   exact Xc (x:=w) pl.isList.typeIs Jy.lookup
    (wpAny_getItem_list_neg (Q:=λr s'=>r=w/\EP X pins σ Q r s') pl.isList (by lia) (by rw[zk]<;>lia) (by lia) (by rw[hj];simpa using ew) ⟨rfl,fin⟩) hs
theorem ix_tup:IxR X (Pm X.K):=by
 intro value slice pins s σ H x y v u Q I rx ry h hs;obtain⟨p,xs,i,z,rfl,rfl,hq,he,q⟩:=h
 cases rx
 obtain⟨t,rfl⟩:=ry;obtain⟨qu,r,pl,hz⟩:=I.tuple hq;obtain⟨j,h1,h2,h3,h4,h5⟩:=CJ he;obtain⟨w,ew,rw'⟩:=r.get h2;have hl:=r.length;have hn:=MA;have fin:EP X pins σ Q w s:=⟨z,H,I,rw',q⟩;exact Xc (x:=w) pl.typeIs jB.lookup
  (getItem_tuple (j:=j) (Q:=λr s'=>r=w/\EP X pins σ Q r s') pl (by lia) (by lia) (by rw[zk,<-hl];exact h1) (by simpa using ew) ⟨rfl,fin⟩) hs
theorem Hj:IxR X Nm:=by
 intro value slice pins s σ H x y v u Q I rx ry h hs;obtain⟨z,i,c,rfl,rfl,hz,he,q⟩:=h;obtain⟨t,rfl⟩:=rx;obtain⟨t',rfl⟩:=ry;obtain⟨j,h1,h2,h3,h4,h5⟩:=CJ he;have hl:z.cps.toList.length=z.length:=by simp[Str.length]
 rw[hl]at h1 h4 h5;have hn:=MA;exact tail_any (typeIs_str s z t) slot_str_getitem.lookup (getItem_str (c:=c) (by have e1:decide (i < -(2 ^ 63:Int))=false:=decide_eq_false (by lia);have e2:decide (i>=2 ^ 63)=false:=decide_eq_false (by lia);rw[e1,e2,Xo]) (by rw[h1];simpa using h2) ⟨.str ⟨#[c]⟩,H,I.tok _,⟨_,rfl⟩,q⟩) hs
theorem Tv(qu:List zg)(n j:Nat)(u:zg):zP (·.setIfInBounds j u) {cls:=.type "list",data:=.seq qu.toArray n}= {cls:=.type "list",data:=.seq (qu.set j u).toArray n}:=by simp[zP]
theorem Inv.lst(I:Inv X pins σ H s)(h:H p=some (.lst xs)):
 ∃(qu:List zg) (n:Nat),m7 xs qu/\s.heap.get? p=some {cls:=.type "list",data:=.seq qu.toArray n}/\xs.length<=zi:=by
 obtain⟨z,qu,n,r,e⟩:=I.hok p _ h;exact⟨qu,n,r,e,z⟩
theorem Inv.lstUpd{σ:St}{H:Hp}{s:zw}{p:Addr}{xs ys:List V}{qu its':List zg}{n n':Nat}{f:Obj->Obj}(I:Inv X pins σ H s)(h:H p=some (.lst xs))
 (ho:s.heap.get? p=some {cls:=.type "list",data:=.seq qu.toArray n}) (hf:f {cls:=.type "list",data:=.seq qu.toArray n}= {cls:=.type "list",data:=.seq its'.toArray n'}) (r:m7 ys its') (hz:ys.length<=zi) (t:Nat):
 Inv X pins σ (upd H p (.lst ys)) {s with heap:=s.heap.update p f,toks:=t}:=by
 have e:(s.heap.update p f).get? p=some {cls:=.type "list",data:=.seq its'.toArray n'}:=by rw[jM f ho (by rw[hf]<;>rfl),hf]
 refine I.write (x:=p) (e:=p) (by rw[h];trivial) (.inl rfl) (λb u hb q=>(yz _ _ (Ne.symm hb)).trans q) ⟨_,e⟩ ?_;exact⟨hz,its',n',r,e⟩
def AT:V->V->V->Hp->(Hp->Prop)->Prop:=λo i v H Q=>∃p xs k j,o= .ref p/\i= .int k/\H p=some (.lst xs)/\ixN xs.length k=some j/\Q (upd H p (.lst (xs.set j v)))
theorem Qj:RH X AT:=by
 intro pins s σ H o i v ov iv u Q I ro ri rv h;obtain⟨p,xs,k,j,rfl,rfl,hp,hj,q⟩:=h
 cases ro
 obtain⟨t,rfl⟩:=ri;obtain⟨qu,n,r,ho,hz⟩:=I.lst hp;obtain⟨h1,h2,h3,h4⟩:=MO hj;have hl:=r.length;have hn:=MA;have I':Inv X pins σ (upd H p (.lst (xs.set j v))) {s with heap:=s.heap.update p (zP (·.setIfInBounds j u))}:=
  I.lstUpd hp ho (Tv qu n j u) (r.set rv j) (by rw[Zc];exact hz) s.toks
 by_cases h0:0<=k
 · have hk:k.toNat=j:=by
    rw[seqIndex_of h0 h4]at h1;exact js h1
   exact PySem.W.ki_setAt ho h0 (by lia) (by rw[zk,<-hl];exact h4) (by rw[hk];exact⟨_,I',q⟩)
 · have hk:(k+(qu.toArray.size:Int)).toNat=j:=by
    rw[seqIndex_neg (by lia) h3]at h1;rw[zk,<-hl];exact js h1
   exact PySem.W.ki_setBack ho (by lia) (by rw[zk,<-hl];exact h3) (by lia) (by rw[hk];exact⟨_,I',q⟩)
theorem Fz(lo hi:Option Int)(n:Nat):(yZ lo hi none n).1= ((HT.sIx n 0 lo:Nat):Int)/\(yZ lo hi none n).2.1= ((HT.sIx n n hi:Nat):Int)/\(yZ lo hi none n).2.2=1:=by
 refine⟨?_,?_,rfl⟩
 · cases lo with
   |none=>simp[yZ,HT.sIx]
   |some i=>
     simp only[yZ,HT.sIx,Option.getD_none,show (1:Int)>0 by decide,if_true];by_cases h:i<0
     ·simp only[h,if_true]<;>lia
     ·simp only[h,if_false]<;>lia
 · cases hi with
   |none=>simp[yZ,HT.sIx]
   |some i=>
     simp only[yZ,HT.sIx,Option.getD_none,show (1:Int)>0 by decide,if_true];by_cases h:i<0
     ·simp only[h,if_true]<;>lia
     ·simp only[h,if_false]<;>lia
theorem Qp(qu:List zg)(lo hi:Option Int):slicePick qu.toArray lo hi none= ((qu.drop (HT.sIx qu.length 0 lo)).take (HT.sIx qu.length qu.length hi-HT.sIx qu.length 0 lo)).toArray:=by obtain⟨h1,h2,h3⟩:=Fz lo hi qu.toArray.size;unfold slicePick;rw[h1,h2,h3];simp only[sliceRange_one,pick_run,zk]<;>rfl
def br(K:zj):V->Option Int->Option Int->Hp->VK->Prop:=λx lo hi H Q=>∃a xs,x= .ref a/\SqL K H a xs/\∀p,H p=none->Q (.ref p) (upd H p (.lst (f7 xs lo hi)))
theorem GV:SlR X (br X.K):=by
 intro pins s σ H x v vl vu lo hi sl Q I rx hs pl pu h;obtain⟨a,xs,rfl,hx,q⟩:=h
 cases rx
 obtain⟨qu,r,ht,hz⟩:=I.list hx;have re:=r.length;refine⟨"list",_,Jy.lookup,ht.isList.typeIs,?_⟩;refine wpAny_getItem_list_slice ht.isList hs pl pu .none (by simp) ?_ (by rw[zk]<;>lia);rw[Qp,<-re];refine⟨.ref s.heap.objs.size,_,I.laid (t':=s.toks) (o:=.lst (f7 xs lo hi)) (λb ob q=>zc _ q) (zh _) ?_,rfl,q _ (I.hok.fresh (zh _))⟩;exact⟨zS (oR xs lo hi) hz,_,0,(r.drop (HT.sIx xs.length 0 lo)).take (HT.sIx xs.length xs.length hi-HT.sIx xs.length 0 lo),zn _ rfl⟩
def P6:V->Bool
 | .non=>true
 | .bl _=>true
 | .int _=>true
 | .str _=>true
 |_=>false
def eqV:V->V->Bool
 | .non,.non=>true
 | .bl a,.bl b=>a==b
 | .bl a,.int b=>(if a then 1 else 0)==b
 | .int a,.bl b=>a==(if b then 1 else 0)
 | .int a,.int b=>a==b
 | .str a,.str b=>a==b
 |_,_=>false
theorem cz(ry:t6 y u)(rx:t6 x v)(fy:P6 y=true)(fx:P6 x=true):yj A s u v (eqV y x):=by
 cases y with
 |non=>
   cases ry
   cases x with
   |non=>cases rx;exact Xq _
   |bl b=>cases rx;exact JH b
   |int b=>obtain⟨t,rfl⟩:=rx;exact JW b t
   |str b=>obtain⟨t,rfl⟩:=rx;exact JV b t
   |_=>exact absurd (show false=true from fx) zz
 |bl a=>
   cases ry
   cases x with
   |non=>cases rx;exact JI a
   |bl b=>cases rx;exact JJ a b
   |int b=>obtain⟨t,rfl⟩:=rx;exact SeqAt.EqAt.bool_int a b t
   |str b=>obtain⟨t,rfl⟩:=rx;exact JZ a b t
   |_=>exact absurd (show false=true from fx) zz
 |int a=>
   obtain⟨t',rfl⟩:=ry
   cases x with
   |non=>cases rx;exact JX a t'
   |bl b=>cases rx;exact JY a t' b
   |int b=>obtain⟨t,rfl⟩:=rx;exact SeqAt.EqAt.int_int a t' b t
   |str b=>obtain⟨t,rfl⟩:=rx;exact YL a t' b t
   |_=>exact absurd (show false=true from fx) zz
 |str a=>
   obtain⟨t',rfl⟩:=ry
   cases x with
   |non=>cases rx;exact JT a t'
   |bl b=>cases rx;exact JU a t' b
   |int b=>obtain⟨t,rfl⟩:=rx;exact YK a t' b t
   |str b=>obtain⟨t,rfl⟩:=rx;exact SeqAt.EqAt.str_str a t' b t
   |_=>exact absurd (show false=true from fx) zz
 |_=>exact absurd (show false=true from fy) zz
def eqU(x:V)(u:zg):Bool:=match u with
 | .none=>eqV .non x
 | .bool b=>eqV (.bl b) x
 | .int i _=>eqV (.int i) x
 | .str z _=>eqV (.str z) x
 |_=>false
theorem mR(r:t6 y u)(f:P6 y=true):eqU x u=eqV y x:=by
 cases y with
 |non=>cases r;rfl
 |bl b=>cases r;rfl
 |int i=>obtain⟨t,rfl⟩:=r;rfl
 |str z=>obtain⟨t,rfl⟩:=r;rfl
 |_=>exact absurd (show false=true from f) zz
theorem SG(h:m7 xs us)(f:xs.all P6=true):us.any (eqU x)=xs.any λy=>eqV y x:=by
 induction h with
 |nil=>rfl
 |cons r t ih=>
   rw[jX,jy]at f;rw[jw,jw,mR r f.1,ih f.2]
theorem fD(rx:t6 x v)(fx:P6 x=true):∀ {xs} {us},m7 xs us->xs.all P6=true->∀u∈us,yj A s u v (eqU x u)
 |_,_,.nil,_=>λu hu=>by cases hu
 |y::xs,u::us,.cons r t,f=>λu' hu=>by
   rw[jX,jy]at f;rcases zr.mp hu with rfl|hu
   ·rw[mR r f.1];exact cz r rx f.1 fx
   ·exact fD rx fx t f.2 u' hu
def inV(x:V)(xs:List V):Bool:=xs.any λy=>eqV y x
def rIn(K:zj)(neg:Bool):R2:=λx y H Q=>∃p xs,y= .ref p/\(SqL K H p xs\/SqT K H p xs)/\P6 x=true/\xs.all P6=true/\Q (.bl (if neg then !inV x xs else inV x xs)) H
theorem mW:OpR X (ja .In) (rIn X.K false):=by
 intro pins s σ H x y v u Q I rx ry h;obtain⟨p,xs,rfl,hq,fx,fs,q⟩:=h
 cases ry
 rcases hq with hq|hq
 ·obtain⟨qu,r,pl,hz⟩:=I.list hq;refine SeqAt.in_listAt (eqU x) pl.isList (λw hw=>fD rx fx r fs w (by simpa using hw)) ⟨.bl _,H,I,rfl,?_⟩;rw[show qu.toArray.any (eqU x)=qu.any (eqU x) by simp,SG r fs];exact q
 ·obtain⟨qu,r,pl,hz⟩:=I.tuple hq;refine SeqAt.in_tupleAt (eqU x) pl (λw hw=>fD rx fx r fs w (by simpa using hw)) ⟨.bl _,H,I,rfl,?_⟩;rw[show qu.toArray.any (eqU x)=qu.any (eqU x) by simp,SG r fs];exact q
theorem Dx:OpR X (ja .NotIn) (rIn X.K true):=by
 intro pins s σ H x y v u Q I rx ry h;obtain⟨p,xs,rfl,hq,fx,fs,q⟩:=h
 cases ry
 rcases hq with hq|hq
 ·obtain⟨qu,r,pl,hz⟩:=I.list hq;refine SeqAt.notIn_listAt (eqU x) pl.isList (λw hw=>fD rx fx r fs w (by simpa using hw)) ⟨.bl _,H,I,rfl,?_⟩;rw[show qu.toArray.any (eqU x)=qu.any (eqU x) by simp,SG r fs];exact q
 ·obtain⟨qu,r,pl,hz⟩:=I.tuple hq;refine SeqAt.notIn_tupleAt (eqU x) pl (λw hw=>fD rx fx r fs w (by simpa using hw)) ⟨.bl _,H,I,rfl,?_⟩;rw[show qu.toArray.any (eqU x)=qu.any (eqU x) by simp,SG r fs];exact q
theorem OX:OpR X (ja .NotIn) (λx y H Q=>∃i j,x= .str i/\y= .str j/\Q (.bl (!(!(ZD j i 0 j.length 1).isEmpty))) H):=by intro pins s σ H x y v u Q I rx ry h;obtain⟨i,j,rfl,rfl,q⟩:=h;obtain⟨t,rfl⟩:=rx;obtain⟨t',rfl⟩:=ry;exact notIn_str ⟨.bl _,H,I,rfl,q⟩
theorem Cc:T9 X (.builtin "len") (λxs H Q=>∃p ys,xs= [.ref p]/\(SqL X.K H p ys\/SqT X.K H p ys)/\Q (.int ys.length) H):=by
 intro pins s σ H xs us Q I r h;obtain⟨p,ys,rfl,hq,q⟩:=h;obtain⟨u,rfl,rx⟩:=Z9 r
 cases rx
 have hn:=MA;rcases hq with hq|hq
 ·obtain⟨qu,r',pl,hz⟩:=I.list hq;have re:=r'.length;exact Calls.call_len_list pl.isList (by simp only[zk]<;>lia) ⟨.int ys.length,H,I.tok _,⟨s.toks+1,by rw[zk,re]⟩,q⟩
 ·obtain⟨qu,r',pl,hz⟩:=I.tuple hq;have re:=r'.length;exact len_tuple pl (by simp only[zk]<;>lia) ⟨.int ys.length,H,I.tok _,⟨s.toks+1,by rw[zk,re]⟩,q⟩
theorem lW:T9 X (.builtin "len") (λxs H Q=>∃z,xs= [.str z]/\z.length<=zi/\Q (.int z.length) H):=by intro pins s σ H xs us Q I r h;obtain⟨z,rfl,hz,q⟩:=h;obtain⟨u,rfl,t,rfl⟩:=Z9 r;have hn:=MA;exact len_str (by lia) ⟨.int z.length,H,I.tok _,⟨_,rfl⟩,q⟩
theorem T9.or(h:T9 X f r)(h':T9 X f r'):T9 X f (λxs H Q=>r xs H Q\/r' xs H Q):=by
 intro pins s σ H xs us Q I rs q;rcases q with q|q
 ·exact h pins s σ H xs us Q I rs q
 ·exact h' pins s σ H xs us Q I rs q
theorem fY:T9 X (.type "list") (λxs H Q=>∃p ys,xs= [.ref p]/\(SqL X.K H p ys\/SqT X.K H p ys)/\∀l,H l=none->Q (.ref l) (upd H l (.lst ys))):=by
 intro pins s σ H xs us Q I r h;obtain⟨p,ys,rfl,hq,q⟩:=h;obtain⟨u,rfl,rx⟩:=Z9 r
 cases rx
 have fin:∀(qu:List zg),m7 ys qu->ys.length<=zi->∀(h':Heap) (c':Nat),(∀b o',s.heap.get? b=some o'->h'.get? b=some o')->
  h'.get? s.heap.objs.size=some {cls:=.type "list",dict:=none,data:=.seq qu.toArray c',slots:= #[]}->EP X pins σ Q (.ref s.heap.objs.size) {s with heap:=h'}:=λqu r' hz h' c' kp e=>
  ⟨.ref s.heap.objs.size,_,I.laid (t':=s.toks) kp (zh _) (show O4 X.prog X.w _ h' _ (.lst ys) from⟨hz,qu,c',r',e⟩),rfl,q _ (I.hok.fresh (zh _))⟩
 rcases hq with hq|hq
 ·obtain⟨qu,r',pl,hz⟩:=I.list hq;have re:=r'.length;obtain⟨o,ho,hc,n,hd⟩:=pl.isList;exact call_list_seq p (.inl rfl) ho hc hd (λh' c' kp e=>fin qu r' hz h' c' kp e) (by simp only[zk]<;>lia)
 ·obtain⟨qu,r',pl,hz⟩:=I.tuple hq;have re:=r'.length;obtain⟨o,ho,hc,n,hd⟩:=pl;exact call_list_seq p (.inr rfl) ho hc hd (λh' c' kp e=>fin qu r' hz h' c' kp e) (by simp only[zk]<;>lia)
theorem wv:T9 X (.type "tuple") (λxs H Q=>∃p ys,xs= [.ref p]/\((SqL X.K H p ys/\∀l,H l=none->Q (.ref l) (upd H l (.tup ys)))\/(SqT X.K H p ys/\Q (.ref p) H))):=by
 intro pins s σ H xs us Q I r h;obtain⟨p,ys,rfl,h⟩:=h;obtain⟨u,rfl,rx⟩:=Z9 r
 cases rx
 rcases h with⟨hq,q⟩|⟨hq,q⟩
 · obtain⟨qu,r',pl,hz⟩:=I.list hq;have re:=r'.length;refine call_tuple_list pl.isList (λh' kp=>?_) (by simp only[zk]<;>lia);have I1:Inv X pins σ H {s with heap:=h'}:=I.kept (t':=s.toks) kp;have I2:Inv X pins σ (upd H h'.objs.size (.tup ys)) {s with heap:=h'.push {cls:=.type "tuple",data:=.seq qu.toArray}}:=
    I1.laid (t':=s.toks) (λb o e=>zc _ e) (zh _) (show O4 X.prog X.w _ _ _ (.tup ys) from⟨hz,qu,r',P4.new _ _⟩)
   exact⟨.ref h'.objs.size,_,I2,rfl,q _ (I1.hok.fresh (zh _))⟩
 ·obtain⟨qu,r',pl,hz⟩:=I.tuple hq;exact call_tuple_same pl ⟨.ref p,H,I,rfl,q⟩
def tyV(K:zj)(T:String)(x:V)(H:Hp):Prop:=match x with
 | .str _=>T= "str"
 | .int _=>T= "int"
 | .ref p=>(T= "list"/\∃xs,SqL K H p xs)\/(T= "tuple"/\∃o,K.lookup p=some o/\o.cls= .type "tuple"/\o.dict=none)\/
    (T= "dict"/\((∃rb,H p=some (.dK rb))\/∃rb,H p=some (.dT rb)))\/(T= "set"/\∃S n,H p=some (.set S n))
 |_=>False
theorem iU(I:Inv X pins σ H s)(r:t6 x v)(ty:tyV X.K T x H):
 s.TypeIs v T/\∀a,v= .ref a->∃ob,s.heap.get? a=some ob/\ob.dict=none:=by
 cases x with
 |str z=>
   obtain⟨t,rfl⟩:=r
   cases (show T= "str" from ty)
   exact⟨typeIs_str s z t,λ_ e=>nomatch e⟩
 |int i=>
   obtain⟨t,rfl⟩:=r
   cases (show T= "int" from ty)
   exact⟨typeIs_int s i t,λ_ e=>nomatch e⟩
 |ref p=>
   cases r
   rcases ty with⟨rfl,xs,hq⟩|⟨rfl,o,hk,hc,hd⟩|⟨rfl,hk⟩|⟨rfl,S,n,hk⟩
   · obtain⟨qu,_,pl,_⟩:=I.list hq;refine⟨pl.isList.typeIs,λa e=>?_⟩
     cases e
     obtain⟨o,n,e,c,hd,_⟩:=pl;exact⟨o,e,hd⟩
   · refine⟨⟨o,I.kIn p o hk,hc⟩,λa e=>?_⟩
     cases e
     exact⟨o,I.kIn _ o hk,hd⟩
   · have z:∃o,s.heap.get? p=some o/\o.ExactDict:=by
      rcases hk with⟨rb,hk⟩|⟨rb,hk⟩
      ·obtain⟨_,_,_,_,o,_,_,e,ex,_⟩:=I.hok p _ hk;exact⟨o,e,ex⟩
      ·obtain⟨_,_,_,_,o,_,_,e,ex,_⟩:=I.hok p _ hk;exact⟨o,e,ex⟩
     obtain⟨o,e,ex⟩:=z;refine⟨⟨o,e,ex.1⟩,λa e2=>?_⟩
     cases e2
     exact⟨o,e,ex.2.1⟩
   · obtain⟨o,_,_,_,e,ex,_⟩:=I.hok p _ hk;refine⟨⟨o,e,ex.1⟩,λa e2=>?_⟩
     cases e2
     exact⟨o,e,ex.2.1⟩
 |_=>exact jU ty
def tBM(K:zj)(T:String)(r:V->List V->Hp->VK->Prop)(to:TE)(t:TA):TE:=λσ H Q=>to σ H λx H1=>tyV K T x H1/\t σ H1 λxs H2=>r x xs H2 Q
variable{o e:Expr}{es:List Expr}{to:TE}{t:TA}{name:Str}{tj se:Pos}{T id:String}{r:V->List V->Hp->VK->Prop}
theorem vN(pa:PlainAttrs T)(slot:Slot T name id)(hty:typeOf (.builtin id)=pure (.type "method_descriptor"))(hm:MtR X id r)(ho:PE X o to)(ha:PA X (e::es) t)
 (hbase:YC o name X.env (eval o X.env)=eval o X.env)
 (hfew:((xF se (zX (e::es) X.env)).all (λx=> !x.1)&&(JC se (Yv [] X.env)).all (λx=>x.1.isSome)
   && decide ((e::es).length+([]:List Keyword).length+(if ([]:List Keyword).isEmpty then 0 else 1)<30))=true)
 (hline:(tj.endLine==se.line)=true) (hs:zX (e::es) X.env= (false,eval e X.env)::zX es X.env) (ua:(xF se (zX es X.env)).any (·.1)=false):
 PE X (.Call (.Attribute o name tj) (e::es) [] se) (tBM X.K T r to t):=by
 intro pins s σ H Q I h;refine wpAny_Call_method_late hbase hfew hline rfl (thn (ho pins s σ H _ I h) λv s1 ⟨x,H1,I1,r1,ty,q1⟩=>?_);obtain⟨h1,h2⟩:=iU I1 r1 ty;refine⟨T,id,pa,slot,hty,h1,h2,?_⟩;have hA:=ha se pins s1 σ H1 _ I1 q1;rw[hs]at hA ⊢;refine Calls.callWith_builtin (by show (false||(xF se (zX es X.env)).any (·.1))=false;rw[ua]<;>rfl) (Calls.evalArgs_plain ?_);exact thn hA λus s2 sg=>sg.elim λvs H2 I2 r2 q2=>hm pins s2 σ H2 x vs v us Q I2 r1 r2 q2
end
def MtM(X:Cx)(id:String)(r:V->List V->Hp->VK->Prop):Prop:=
 ∀(pins:PNS) (s:zw) (σ:St) (H:Hp) (x:V) (xs:List V) (v:zg) (us:List zg) (Q:VK),Inv X pins σ H s->t6 x v->m7 xs us->r x xs H Q->
  zo (zA X.prog X.w) X.A (call (.builtin id) (v::us)) (EP X pins σ Q) X.xe s
theorem m7.one(h:m7 [x] us):∃u,us= [u]/\t6 x u:=by
 cases h with
 |cons r t=>cases t;exact⟨_,rfl,r⟩
theorem m7.eraseIdx:∀ {xs} {us} i,m7 xs us->m7 (xs.eraseIdx i) (us.eraseIdx i)
 |_,_,_,.nil=>.nil
 |_,_,0,.cons _ t=>t
 |_,_,i+1,.cons r t=>.cons r (m7.eraseIdx i t)
theorem m7.reverse(h:m7 xs us):m7 xs.reverse us.reverse:=by
 induction h with
 |nil=>exact .nil
 |cons r t ih=>rw[XH,XH];exact m7.append ih (.cons r .nil)
theorem GR:∀(l:List α) (i:Nat),(l.eraseIdx i).length<=l.length
 |[],_=>zh _
 |_::_,0=>Ju _
 |_::r,i+1=>Nat.succ_le_succ (GR r i)
section
theorem Inv.lset{qu its':List zg}{n:Nat}{t':Nat}(I:Inv X pins σ H s)(hH:H l=some (.lst xs))
 (e:s.heap.get? l=some {cls:=.type "list",data:=.seq qu.toArray n}) (hf:f qu.toArray=its'.toArray) (hv:m7 ys its') (hz:ys.length<=zi):
 Inv X pins σ (upd H l (.lst ys)) {s with heap:=s.heap.update l (zP f),toks:=t'}:=by
 have q:=PySem.IsL.update e f;rw[hf]at q;refine I.write (x:=l) (e:=l) (by rw[hH];exact trivial) (.inl rfl) (λb' u hb hu=>(yz s.heap (zP f) (Ne.symm hb)).trans hu) ⟨_,q⟩ ?_;exact⟨hz,its',_,hv,q⟩
theorem Inv.lnew(I:Inv X pins σ H s)(hv:m7 ys qu)(hz:ys.length<=zi):
 Inv X pins σ (upd H s.heap.objs.size (.lst ys)) {s with heap:=s.heap.push {cls:=.type "list",data:=.seq qu.toArray},toks:=t'}:=
 I.laid (λ_ _ q=>zc _ q) (zh _) ⟨hz,qu,0,hv,zn _ rfl⟩
theorem Inv.fresh(I:Inv X pins σ H s):H s.heap.objs.size=none:=I.hok.fresh (zh _)
theorem Inv.lstM(I:Inv X pins σ H s)(hH:H l=some (.lst xs)):xs.length<=zi/\∃(qu:List zg) (n:Nat),m7 xs qu/\xs.length=qu.length/\s.heap.get? l=some {cls:=.type "list",data:=.seq qu.toArray n}:=by obtain⟨z,qu,n,r,e⟩:=I.hok l _ hH;exact⟨z,qu,n,r,r.length,e⟩
end
section
def qk:V->List V->Hp->VK->Prop:=λx vs H Q=>∃l xs y,x= .ref l/\vs= [y]/\H l=some (.lst xs)/\xs.length<zi/\Q .non (upd H l (.lst (xs++[y])))
theorem NM:MtM X "list.append" qk:=by
 intro pins s σ H x vs v us Q I rx rv h;obtain⟨l,xs,y,rfl,rfl,hH,hz,q⟩:=h
 cases rx
 obtain⟨u,rfl,ru⟩:=rv.one;obtain⟨z,qu,n,r,hl,e⟩:=I.lstM hH;refine call_meets F.slot_list_append ⟨_,e,rfl⟩ F.entry_list_append (F.args_list_append_2 _ _) (PySem.list_append l qu.toArray n u (by rw[zk];lia)) ⟨e,?_⟩;refine⟨.non,_,I.lset (its':=qu++[u]) hH e (by simp) (r.append (.cons ru .nil)) ?_,rfl,q⟩;rw[zd,jY];lia
def DV:V->List V->Hp->VK->Prop:=λx vs H Q=>∃l xs i k y,x= .ref l/\vs= [.int i]/\H l=some (.lst xs)/\ -(2 ^ 63)<=i/\i<2 ^ 63/\JQ i xs.length=some k/\xs[k]? =some y/\Q y (upd H l (.lst (xs.eraseIdx k)))
theorem fq:MtM X "list.pop" DV:=by
 intro pins s σ H x vs v us Q I rx rv h;obtain⟨l,xs,i,k,y,rfl,rfl,hH,h1,h2,hk,hy,q⟩:=h
 cases rx
 obtain⟨u,rfl,ru⟩:=rv.one;obtain⟨t,rfl⟩:=ru;obtain⟨z,qu,n,r,hl,e⟩:=I.lstM hH;obtain⟨w,hw,rw'⟩:=r.get hy;refine call_meets F.slot_list_pop ⟨_,e,rfl⟩ F.entry_list_pop (F.args_list_pop_2 _ _)
  (MeetsSeq.list_pop_at l qu.toArray n i t k w (fitsIndex_both h1 h2) (by rw[zk,<-hl];exact hk) (by rw[<-zK];exact hw) (by rw[zk];lia)) ⟨e,?_⟩
 refine⟨y,_,I.lset (its':=qu.eraseIdx k) hH e ?_ (r.eraseIdx k) ?_,rw',q⟩
 ·show qu.toArray.eraseIdxIfInBounds k= (qu.eraseIdx k).toArray;rw[List.eraseIdxIfInBounds_toArray]
 ·have:=GR xs k;lia
def aT:R2:=λx y H Q=>∃l b xs zs,x= .ref l/\y= .ref b/\H l=some (.lst xs)/\H b=some (.lst zs)/\xs.length+zs.length<=zi/\∀p,H p=none->Q (.ref p) (upd H p (.lst (xs++zs)))
theorem MU:OpR X (yE .Add) aT:=by
 intro pins s σ H x y v u Q I rx ry h;obtain⟨l,b,xs,zs,rfl,rfl,hH,hB,hz,q⟩:=h
 cases rx
 cases ry
 obtain⟨z,qu,n,r,hl,e⟩:=I.lstM hH;obtain⟨z2,ug,n2,r2,ub,e2⟩:=I.lstM hB;refine PySem.P.add_list e e2 ?_ (by rw[zk,zk];lia);have ea:qu.toArray++ug.toArray= (qu++ug).toArray:=by simp
 rw[ea];exact⟨.ref _,_,I.lnew (t':=s.toks) (r.append r2) (by rw[zd];lia),rfl,q _ I.fresh⟩
end
section
end
section
end
end L2
namespace Att
open PySem PySem.W PySem.Calls PyProof.Rows
theorem oh:∀ns vs,WellAll P h vs (ns.map WData.int)->IntsAre vs ns:=by
 intro ns
 induction ns with
 |nil=>
   intro vs w;rw[Zy]at w
   cases w
   exact .nil
 |cons n ns ih=>
   intro vs w;rw[zH]at w
   cases w with
   |cons a b=>
     cases a
     exact .cons _ _ (ih _ b)
theorem Cf{l:OpenLaw}{n:Nat}(hn:l.most=some n){P:Params}{h:Heap}
 (hpre:l.row.toRowW.claim.pre args=true) (hwl:WellAll P h vals args):
 ∃a vs ns,vals= [Value.ref a]/\args= [WData.list (ns.map WData.int)]/\h.get? a=some {cls:=.type "list",data:=.seq vs.toArray}/\IntsAre vs ns/\ns.length<=n:=by
 have hsh:WShape.hasAll [] args [.list .int]=true:=(pre_splitW hpre).1;have hc:l.pre.holds [] {args:=args}=true:=(pre_splitW hpre).2;obtain⟨d,r,rfl,h1,h2⟩:=hasAllW_cons hsh;obtain rfl:=hasAllW_nil h2;obtain⟨xs,rfl,h3⟩:=hasW_list h1;obtain⟨ns,rfl⟩:=items_int h3;have re:ns.length<=n:=by
  unfold OpenLaw.pre at hc;have h4:(WTm.not (.lt (.lit (.int (n:Int))) (.len (.arg 0)))).holds [] {args:= [.list (ns.map .int)]}=true:=by have h4:=(holds_andW hc).1;rw[hn]at h4;exact h4
  have h5:=condW_of h4 (w_not (w_lt w_lit (w_len_list (w_arg rfl))));rw[zf]at h5;refine Nat.le_of_not_lt λq=>?_;have q':(n:Int)<((ns.length:Nat):Int):=by lia
  first
   |(rw[decide_eq_true q']at h5;exact absurd h5 (by decide))
   |(simp at h5;lia)
 cases hwl with
 |cons w1 w2=>
   cases w2
   cases w1 with
   |list ho hall=>exact⟨_,_,ns,rfl,rfl,ho,oh ns _ hall,re⟩
theorem au(l:OpenLaw)(args:List WData):l.row.toRowW.claim.post args (.bool true) args=true:=
 postW_of (r:=l.row.toRowW) (X:=(true==true))
  (show WShape.has [] (.bool true) .bool=true by first|rfl|decide|simp[WShape.has,WShape.arms,WShape.armsAll])
  (show (WTm.eq .res (.lit (.bool true))).value [] {args:=args,res:=some (.bool true),after:=args}=some (.bool (true==true))from w_eq_bool (w_res rfl) w_lit) rfl
theorem attach_call{l:OpenLaw}{n:Nat}{q:zV}{loose:List Str}{d:DefRec}
 (hn:l.most=some n) (hdf:d.params.defaults= [])
 (call:∀(w:je) (WW W1:zw) (mg mb:Str->Option zg) (fa:Addr) (o:Obj) (pm cd doc:zg) (a:Addr) (vs:List zg) (ns:List Int),
   Ground q loose [] XP w WW mg mb W1.heap->YP w W1.heap->
   W1.heap.get? fa=some o->o.data= .func (docDef d.name d.params d.body d.scope pm cd doc)->W1.heap.CodeRec cd d.name->mg d.name=some (.ref fa)->
   W1.heap.get? a=some {cls:=.type "list",data:=.seq vs.toArray}->IntsAre vs ns->ns.length<=n->W1.gens= #[]->
   xZ (zA l.prog w) XF (.call (.ref fa) ⟨[.ref a], []⟩) (λr s'=>r= .ok (.ret (.bool true))/\OldK W1.heap s'.heap/\s'.os=W1.os/\XG s'.gens) W1):
 WalkO q loose XP YP l.row.toRowW d [] (λf vs=>PySem.call f vs):=by
 intro w WW W1 mg mb G Y fa o pm cd doc dV kV ho hd hcd hD hmg hg args vals as hpre hlay hrd hwl hlo;obtain rfl:dV= .none:=Dflts.none hD hdf;obtain rfl:kV= .none:=Dflts.noKw hD;obtain⟨a,vs,ns,rfl,rfl,hobj,hints,re⟩:=Cf hn hpre hwl;refine enter_call (ZX (call w WW W1 mg mb fa o pm cd doc a vs ns G Y ho (fd_plain hd) hcd hmg hobj hints re hg) λr s' hq=>?_);obtain⟨rfl,h2,h3,h4⟩:=hq;exact⟨.inl ⟨.bool true,.bool true, [],rfl,λ_=>rfl,.bool true,au l _,λ_=>⟨List.Pairwise.nil,λ_ hm=>(nomatch hm)⟩⟩,h2,h3,h4⟩
section
variable{prog:zV}{w:je}{A:jm}{s:zw}{K:Frag}
end
end Att
namespace L2
open PySem PySem.Spec PyProof.Rows
theorem QR:∀ {vs} {ns},IntsAre vs ns->m7 (ns.map V.int) vs
 |_,_,.nil=>.nil
 |_,_,.cons n t h=>.cons ⟨t,rfl⟩ (QR h)
def UG(H:Hp):Prop:=∀b,H b=none\/∃o xs,H b=some (.frz o (.lst xs))
theorem Qm{P:zV}{w:je}{K:zj}{CX:CXT}{k:Nat}{fa a:Addr}{fd:xV}{x:Str}{sp:Sp}{W1:zw}{vs:List zg}{ns:List Int}
 (KX:K.In W1.heap) (hns:W1.heap.Ns jA mg) (hb:W1.heap.Ns builtinsNs mb) (hbb:∀x:Str,x≠ "__name__"->mb x=jb x) (hlim:W1.heap.NoLimit) (hg:W1.gens= #[])
 (ha:W1.heap.get? a=some {cls:=.type "list",data:=.seq vs.toArray}) (hi:IntsAre vs ns) (hl:ns.length<=zi) (hr:P0 k XF)
 (F:∀base:Heap,K.In base->base.Ns jA mg->F1 P w K mg base CX k fa fd [x] sp) (hbind:∀(s:zw) (u:zg),Xb s fd ⟨[u], []⟩ [(x,u)])
 (hsp:∀H:Hp,UG H->SqL K H a (ns.map V.int)->sp [.ref a] H (λv _=>v= .bl true) λ_ _ _=>False)
 (hCX:∀H e s',CX [] H W1 (λ_ _ _=>False) e s'->False):
 xZ (zA P w) XF (.call (.ref fa) ⟨[.ref a], []⟩) (λr s'=>r= .ok (.ret (.bool true))/\OldK W1.heap s'.heap/\s'.os=W1.os/\XG s'.gens) W1:=by
 have rv:=QR hi;have lenV:=hi.length
 -- from an abstract heap in which nothing but the script may be tracked
 have core:∀H:Hp,UG H->SqL K H a (ns.map V.int)->HOk P w H W1.heap->(∀b,H b≠none->b=a)->(H a≠none->K.lookup a=none)->
  xZ (zA P w) XF (.call (.ref fa) ⟨[.ref a], []⟩) (λr s'=>r= .ok (.ret (.bool true))/\OldK W1.heap s'.heap/\s'.os=W1.os/\XG s'.gens) W1:=by
  intro H hO hS hok hA hK;have base_of:∀ {b:Addr} {o:Obj},W1.heap.get? b=some o->H b=none->(c9 W1.heap H).get? b=some o:=λe n=>gn e n;have noA:∀ {b:Addr} {o:Obj} {es:Array DictEntry} {ep:Nat},W1.heap.get? b=some o->o.data= .dict es ep->H b=none:=λ{b o es ep} e d=>by
   cases q:H b with
   |none=>rfl
   |some u=>
     have e':b=a:=hA b (by rw[q];simp);subst e';rw[ha]at e;cases e;have d':Data.seq vs.toArray _=Data.dict es ep:=d
     cases d'
  have nsK:∀ {b:Addr} {m:Str->Option zg},W1.heap.Ns b m->(c9 W1.heap H).Ns b m:=λ{b m} ⟨o,es,ep,e,d,r⟩=>⟨o,es,ep,base_of e (noA e d),d,r⟩;have hKb:K.In (c9 W1.heap H):=λb o e=>base_of (KX b o e) (by
   cases q:H b with
   |none=>rfl
   |some u=>
     have e':b=a:=hA b (by rw[q];simp);subst e';rw[hK (by rw[q];simp)]at e;cases e)
  have hM:Mod K mg (c9 W1.heap H):=⟨hKb,nsK hns,⟨mb,nsK hb,hbb⟩,let ⟨mc,h1,h2⟩:=hlim;⟨mc,nsK h1,h2⟩⟩;have e0:iF P w K mg (c9 W1.heap H) XF [] W1 H:=⟨rfl,hM,λb o e=>Wq e,XT (ki _ _),trivial,λb hb=>absurd (show b∈([]:List Addr)from hb) (by simp),hok,.of_eq hg⟩;refine ZX ((F _ hKb (nsK hns)).run XF [] W1 H ⟨[.ref a], []⟩ [.ref a] [.ref a] _ _ hr e0 (hbind W1 (.ref a)) (.cons rfl .nil) (hsp H hO hS)) λr s' h=>?_
  cases r with
  |error e=>exact(hCX H e s' h).elim
  |ok fl=>
    cases fl with
    |next=>exact jU h
    |brk=>exact jU h
    |cont=>exact jU h
    |ret u=>
      obtain⟨v,H',os,bare,un,hok',r',q⟩:=h;have q':v= .bl true:=q;subst q';obtain rfl:u=Value.bool true:=r';refine⟨rfl,OldK.of_keep λb o e=>?_,os,bare⟩
      cases q:H b with
      |none=>exact un.keep b o e q (by intro z;exact absurd (show b∈([]:List Addr)from z) (by simp)) (by simp)
      |some u=>
        rcases hO b with z|⟨ob,xs,z⟩
        ·rw[q]at z;cases z
        ·have z2:=un.frzs b ob _ z;obtain⟨e1,_⟩:=hok b _ z;obtain⟨e2,_⟩:=hok' b _ z2;rw[e]at e1;cases e1;exact e2
 cases hk:K.lookup a with
 |some o=>
   -- the script is one of the module's own objects
   have e:=KX a o hk;rw[ha]at e
   cases e
   refine core (λ_=>none) (λ_=>.inl rfl) (.inr ⟨_,vs.toArray,_,hk,rfl,rfl,rfl,by rw[zk,lenV];exact hl,by simpa using rv⟩) (λb u z=>by have z':(none:Option HO)=some u:=z;cases z') (λb z=>absurd rfl z) λz=>absurd rfl z
 |none=>
   refine core (λb=>if b=a then some (.frz {cls:=.type "list",data:=.seq vs.toArray} (.lst (ns.map V.int)))else none) (λb=>?_) (.inl (.inr ⟨{cls:=.type "list",data:=.seq vs.toArray},if_pos rfl⟩)) (λb u z=>?_) (λb z=>?_) λ_=>hk
   · by_cases hb:b=a
     ·exact .inr ⟨_,_,if_pos hb⟩
     ·exact .inl (if_neg hb)
   · by_cases hb:b=a
     · have z':=(if_pos hb).symm.trans z
       cases z'
       subst hb;exact⟨ha,by rw[zf];exact hl,vs,_,rv,ha⟩
     · have z':=(if_neg hb).symm.trans z
       cases z'
   · by_cases hb:b=a
     ·exact hb
     ·exact absurd (if_neg hb) z
theorem walk_of{l:PySem.W.OpenLaw}{n k:Nat}{q:zV}{loose:List Str}{YP:je->Heap->Prop}{d:DefRec}{K:Params->zj}{CX:je->CXT}{sp:je->Sp}{x:Str}
 (hn:l.most=some n) (hn2:n<=zi) (hdf:d.params.defaults= []) (hr:P0 k XF)
 (hY:∀(w:je) (h:Heap),YP w h->(K w.params).In h)
 (F:∀(w:je) (mg:Str->Option zg) (fa:Addr) (h:Heap),(K w.params).In h->h.Ns jA mg->mg d.name=some (.ref fa)->
   ∃fd:xV,(∀(s:zw) (u:zg),Xb s fd ⟨[u], []⟩ [(x,u)])/\
    ∀base:Heap,(K w.params).In base->base.Ns jA mg->F1 l.prog w (K w.params) mg base (CX w) k fa fd [x] (sp w))
 (hsp:∀(w:je) (H:Hp) (a:Addr) (ns:List Int),ns.length<=n->UG H->SqL (K w.params) H a (ns.map V.int)->sp w [.ref a] H (λv _=>v= .bl true) λ_ _ _=>False)
 (hCX:∀(w:je) (H:Hp) (s:zw) (e:zg) (s':zw),CX w [] H s (λ_ _ _=>False) e s'->False):
 PySem.W.WalkO q loose XP YP l.row.toRowW d [] (λf vs=>PySem.call f vs):=by
 refine Att.attach_call hn hdf λw WW W1 mg mb fa o pm cd doc a vs ns G Y ho hd hcd hmg hobj hints re hg=>?_;have KX:=hY w _ Y;obtain⟨fd,hb,hF⟩:=F w mg fa _ KX G.T.g hmg;exact Qm KX G.T.g G.T.b G.T.builtins G.T.nolimit hg hobj hints (zS re hn2) hr hF hb (λH hO hS=>hsp w H a ns re hO hS) λH e s'=>hCX w H W1 e s'
def L8(s:Stmt):Arguments:=match s with
 | .FunctionDef _ a _ _ _ _ _ _ _ _=>a
 |_=>{posonlyargs:= [],args:= [],vararg:=none,kwonlyargs:= [],kw_defaults:= [],kwarg:=none,defaults:= []}
def U4(s:Stmt):List Stmt:=match s with
 | .FunctionDef _ _ b _ _ _ _ _ _ _=>b
 |_=> []
def v4(s:Stmt):Scope:=match s with
 | .FunctionDef _ _ _ _ _ _ sc _ _ _=>sc
 |_=>{kind:=.function,names:= [],isGenerator:=false,isCoroutine:=false}
abbrev CX0:CXT:=λ_ _ _ _ _ _=>False
abbrev E0:XK:=λ_ _ _=>False
theorem UN:cJ CX0 X E0:=λ_ _ _ _ _ _ _ h=>h.elim
structure Fun(K:zj)(x qual:Str)(st:Stmt)(f:Addr)(fd:xV):Prop where
 ex:∃(oc:zg) (od:Option Addr) (kV doc pm:zg) (an:Option Addr) (sn ct:zg) (osl:Array (Option zg)),
  fd=yO x qual (L8 st) (U4 st) (v4 st) .none kV doc pm an sn ct/\K.lookup f=some ⟨oc,od,.func fd,osl⟩/\Zv K sn qual=true
 kp:yS K (.ref f)=true
section
variable{P:zV}{w:je}{K:zj}{mg:Str->Option zg}{base:Heap}
theorem Fun.ok{x qual:Str}{st:Stmt}{f:Addr}{k:Nat}{sp:Sp}(F:Fun K x qual st f fd)(S:V6 N ps (v4 st))(len:∀vs H Q E,sp vs H Q E->vs.length=ps.length)
 (hbody:∀(sn:zg) (A:jm) (outer:List Env) (s:zw) (H:Hp) (vs:List V) (Q:VK) (E:XK),P0 k (A.deeper (YF qual (v4 st) s.heap.objs.size f sn))->sp vs H Q E->
   ∃t,PSs (P7 CX0 P w K mg base N qual (v4 st) f sn A outer s H E).nox (U4 st) t/\t {nx:=λ_ H'=>Q .non H',rt:=Q} (start N vs) H):F1 P w K mg base CX0 (k+1) f fd ps sp:=by
 obtain⟨oc,od,kV,doc,pm,an,sn,ct,osl,rfl,lk,hcd⟩:=F.ex;refine Gd lk hcd S len λA outer s H vs Q E hr hsp=>?_;obtain⟨t,h,q⟩:=hbody sn A outer s H vs Q E hr hsp;exact⟨t,h.nox,q⟩
theorem Fun.binds{x qual:Str}{st:Stmt}{f:Addr}(F:Fun K x qual st f fd)
 (h:∀(kV doc pm:zg) (an:Option Addr) (sn ct:zg) (us:List zg),us.length=ps.length->bindArgs (yO x qual (L8 st) (U4 st) (v4 st) .none kV doc pm an sn ct) ⟨us, []⟩=pure (ps.zip us)):P3 K fd ps []:=by
 obtain⟨oc,od,kV,doc,pm,an,sn,ct,osl,rfl,lk,hcd⟩:=F.ex;exact .all (h kV doc pm an sn ct)
theorem HF{x qual:Str}{st:Stmt}{f:Addr}{oc:zg}{od an:Option Addr}{kV doc pm sn ct:zg}(l:K.lookup f=some ⟨oc,od,.func (yO x qual (L8 st) (U4 st) (v4 st) .none kV doc pm an sn ct),osl⟩)
 (c:Zv K sn qual=true) (k:yS K (.ref f)=true):Fun K x qual st f (yO x qual (L8 st) (U4 st) (v4 st) .none kV doc pm an sn ct):=⟨⟨oc,od,kV,doc,pm,an,sn,ct,osl,rfl,l,c⟩,k⟩
end
section
end
section
variable[DecidableEq κ]
def L3(rb:List (κ×V))(k:κ):Option V:=(rb.find? λkv=>decide (kv.1=k)).map (·.2)
def v3(rb:List (κ×V))(k:κ)(v:V):List (κ×V):=
 if (rb.any λkv=>decide (kv.1=k))=true then rb.map (λkv=>if kv.1=k then (kv.1,v)else kv)else rb++[(k,v)]
theorem LF{k:κ}(e:p.1=k):L3 (p::r) k=some p.2:=by simp[L3,yN,e]
theorem nH{k:κ}(e:¬p.1=k):L3 (p::r) k=L3 r k:=by simp[L3,yN,e]
theorem TR(k:κ):∀rb:List (κ×V),(rb.any λkv=>decide (kv.1=k))= (L3 rb k).isSome
 |[]=>rfl
 |p::r=>by
   rw[jw];by_cases e:p.1=k
   ·simp only[LF e,decide_eq_true e,Bool.true_or,Option.isSome_some]
   ·rw[nH e,decide_eq_false e,Bool.false_or];exact TR k r
theorem HN(rb:List (κ×V))(k:κ)(v:V):(v3 rb k v).length<=rb.length+1:=by
 unfold v3;split
 ·rw[zf];lia
 ·rw[zd,zu,yM];lia
theorem kC.isSome_eq(r:kC o u):o.isSome=u.isSome:=by
 cases o with
 |none=>cases u with
   |none=>rfl
   |some _=>exact(show False from r).elim
 |some _=>cases u with
   |none=>exact(show False from r).elim
   |some _=>rfl
theorem KV.val(r:KV rb vs)(k:κ):kC (L3 rb k) (YZ vs k):=by
 unfold KV at r
 induction r with
 |nil=>exact True.intro
 |@cons p q ps qs h t ih=>
   obtain⟨h1,h2⟩:=h;by_cases e:p.1=k
   · have e':q.1=k:=h1.symm.trans e;have b:YZ (q::qs) k=some q.2:=by simp[YZ,yN,e']
     rw[LF e,b];exact h2
   · have e':¬q.1=k:=λz=>e (h1.trans z);have b:YZ (q::qs) k=YZ qs k:=by simp[YZ,yN,e']
     rw[nH e,b];exact ih
theorem KV.any(r:KV rb vs)(k:κ):(rb.any λkv=>decide (kv.1=k))=vs.any λkv=>decide (kv.1=k):=by
 unfold KV at r
 induction r with
 |nil=>rfl
 |cons h t ih=>rw[jw,jw,ih,h.1]
theorem KV.repl(r:KV rb vs)(k:κ)(ry:t6 y u):
 KV (rb.map λkv=>if kv.1=k then (kv.1,y)else kv) (vs.map λkv=>if kv.1=k then (kv.1,u)else kv):=by
 unfold KV at r ⊢
 induction r with
 |nil=>exact .nil
 |@cons p q ps qs h t ih=>
   rw[zH,zH];refine .cons ?_ ih;obtain⟨h1,h2⟩:=h;by_cases e:p.1=k
   ·rw[if_pos e,if_pos (h1.symm.trans e)];exact⟨h1,ry⟩
   ·rw[if_neg e,if_neg (λz=>e (h1.trans z))];exact⟨h1,h2⟩
theorem KV.put(r:KV rb vs)(k:κ)(ry:t6 y u):KV (v3 rb k y) (stored vs k u):=by
 unfold v3 stored;rw[r.any k];by_cases e:(vs.any λkv=>decide (kv.1=k))=true
 ·rw[if_pos e,if_pos e];exact r.repl k ry
 ·rw[if_neg e,if_neg e];exact Paired.snoc r ⟨rfl,ry⟩
theorem KV.length(r:KV rb vs):rb.length=vs.length:=xy r
end
theorem uC(r:t6 (kV k) u):(u5 P w).is k u=true:=by
 cases k with
 |inl i=>obtain⟨t,e⟩:=(show ∃t,u=Value.int i t from r);subst e;exact qS P w i t
 |inr x=>obtain⟨t,e⟩:=(show ∃t,u=Value.str x t from r);subst e;exact nM P w x t
theorem nQ:∀ {ks} {us},m7 (ks.map kV) us->ItemsAre (u5 P w) ks us
 |[],_,r=>by rw[Zy]at r;cases r;exact .nil
 |k::ks,_,r=>by
   rw[zH]at r
   cases r with
   |cons h t=>exact .cons (uC h) (nQ t)
abbrev KT(H:Hp):List (List Key×V)->List (List Key×Addr×zg)->Prop:=Paired λp q=>p.1=q.1/\H q.2.1=some (.tup (p.1.map kV))/\t6 p.2 q.2.2
theorem KT.val{H:Hp}(r:KT H rb xs)(k:List Key):kC (L3 rb k) ((atKey xs k).map (·.2)):=by
 induction r with
 |nil=>exact True.intro
 |@cons p q ps qs h t ih=>
   obtain⟨h1,_,h2⟩:=h;by_cases e:p.1=k
   · have e':q.1=k:=h1.symm.trans e;have b:atKey (q::qs) k=some q.2:=by simp[atKey,yN,e']
     rw[LF e,b];exact h2
   · have e':¬q.1=k:=λz=>e (h1.trans z);have b:atKey (q::qs) k=atKey qs k:=by simp[atKey,yN,e']
     rw[nH e,b];exact ih
theorem KT.repl(r:KT H rb xs)(k:List Key)(ry:t6 y u):
 KT H (rb.map λkv=>if kv.1=k then (kv.1,y)else kv) (xs.map (putAt k u)):=by
 induction r with
 |nil=>exact .nil
 |@cons p q ps qs h t ih=>
   rw[zH,zH];refine .cons ?_ ih;obtain⟨h1,h2,h3⟩:=h;unfold putAt;by_cases e:p.1=k
   ·rw[if_pos e,if_pos (h1.symm.trans e)];exact⟨h1,h2,ry⟩
   ·rw[if_neg e,if_neg (λz=>e (h1.trans z))];exact⟨h1,h2,h3⟩
theorem KT.put(r:KT H rb xs)(k:List Key)(hb:H b=some (.tup (k.map kV)))(ry:t6 y u):
 KT H (v3 rb k y) (storedH xs k b u):=by
 have e:(rb.any λkv=>decide (kv.1=k))= (atKey xs k).isSome:=by rw[TR,(r.val k).isSome_eq,ZS]
 unfold v3 storedH;rw[e];by_cases q:(atKey xs k).isSome=true
 ·rw[if_pos q,if_pos q];exact r.repl k ry
 ·rw[if_neg q,if_neg q];exact Paired.snoc r ⟨rfl,hb,ry⟩
theorem KT.keeps(r:KT H rb xs)(ht:∀b ys,H b=some (.tup ys)->H' b=some (.tup ys)):KT H' rb xs:=
 Paired.mapP r λ_ _ z=>⟨z.1,ht _ _ z.2.1,z.2.2⟩
section
theorem kJ(ok:HOk P w H h)(e:Rd H a u):O4 P w H h a u:=e.ok ok
theorem WG(ok:HOk P w H h)(e:Rd H a (.dK rb)):rb.length<=zi/\(a==xU)=false/\∃vs,KV rb vs/\h.DictOf (u5 P w) a vs:=
 show O4 P w H h a (.dK rb)from kJ ok e
theorem AI(ok:HOk P w H h)(e:H a=some (.dK rb)):rb.length<=zi/\(a==xU)=false/\∃vs,KV rb vs/\h.DictOf (u5 P w) a vs:=WG ok (.inl e)
theorem WE(ok:HOk P w H h)(e:H a=some (.tup (ks.map kV))):(JP (u5 P w)).is h ks a:=by obtain⟨_,qu,r,o,h1,h2,n,h3⟩:=(show O4 P w H h a (.tup (ks.map kV))from ok a _ e);exact⟨o,qu.toArray,n,h1,h2,(xI h3).1,by simpa using nQ r⟩
theorem iJ(ok:HOk P w H h)(e:Rd H a (.dT rb)):rb.length<=zi/\(a==xU)=false/\
 ∃xs,KT H rb xs/\h.DictOfH (JP (u5 P w)) a xs:=by
 obtain⟨z,y,xs,r,o,es,ep,h1,h2,h3,h4,h5⟩:=(show O4 P w H h a (.dT rb)from kJ ok e);refine⟨z,y,xs,r,o,es,ep,h1,h2,h3,h4,λx hx=>?_,h5⟩;have all:∀ {l:List (List Key×V)} {m:List (List Key×Addr×zg)},KT H l m->∀x∈m,(JP (u5 P w)).is h x.1 x.2.1:=by
  intro l m q
  induction q with
  |nil=>intro x hx;exact nomatch hx
  |@cons p q ps qs hq t ih=>
    intro x hx;rcases zr.mp hx with e|hx
    ·subst e;exact WE ok (by rw[<-hq.1];exact hq.2.1)
    ·exact ih x hx
 exact all r x hx
theorem LX(ok:HOk P w H h)(e:H a=some (.dT rb)):rb.length<=zi/\(a==xU)=false/\
 ∃xs,KT H rb xs/\h.DictOfH (JP (u5 P w)) a xs:=iJ ok (.inl e)
end
def bC(H:Hp)(a:Addr)(y:V)(r:Option V):Prop:=
 (∃rb k,Rd H a (.dK rb)/\y=kV k/\r=L3 rb k)\/∃rb k b,Rd H a (.dT rb)/\y= .ref b/\H b=some (.tup (k.map kV))/\r=L3 rb k
def lH(H:Hp)(a:Addr)(y v:V)(H':Hp):Prop:=
 (∃rb k,H a=some (.dK rb)/\y=kV k/\rb.length<zi/\H'=upd H a (.dK (v3 rb k v)))\/
 ∃rb k b,H a=some (.dT rb)/\y= .ref b/\H b=some (.tup (k.map kV))/\rb.length<zi/\H'=upd H a (.dT (v3 rb k v))
theorem bC.k{k:Key}(e:H a=some (.dK rb)):bC H a (kV k) (L3 rb k):=.inl ⟨rb,k,.inl e,rfl,rfl⟩
theorem lH.k{k:Key}(e:H a=some (.dK rb))(hl:rb.length<zi):lH H a (kV k) v (upd H a (.dK (v3 rb k v))):=.inl ⟨rb,k,e,rfl,hl,rfl⟩
section
theorem Inv.big(I:Inv X pins σ H s):xU<s.heap.objs.size:=by have h:jA<s.heap.objs.size:=(I.mod.glob.keeps I.bk).lt;exact Zi (by decide) h
theorem Cg(hu:A.units+1<xh)(I:Inv X pins σ H s)(g:bC H a y o)(ry:t6 y u)(h:∀s',Inv X pins σ H s'->Q (.bool o.isSome) s'):
 zo (zA X.prog X.w) A (ja .In u (.ref a)) Q E s:=by
 rcases g with⟨rb,k,e,ey,l⟩|⟨rb,k,b,e,ey,eb,l⟩
 ·subst ey;obtain⟨z,hd,vs,rel,dd⟩:=WG I.hok e;refine wpAny_in_of (uC ry) hd dd.mapOf ?_;rw[<-(rel.val k).isSome_eq,<-l];exact h _ (I.tok _)
 · subst ey
   cases (show u=Value.ref b from ry)
   obtain⟨z,hd,xs,rel,dd⟩:=iJ I.hok e;refine wpAny_in_heap (Jj hu) (WE I.hok eb) hd dd ?_;have q:=(rel.val k).isSome_eq;rw[ZS]at q;rw[<-q,<-l];exact h _ (I.tok _)
theorem Mv(hu:A.units+1<xh)(I:Inv X pins σ H s)(g:bC H a y o)(ry:t6 y u)(h:∀s',Inv X pins σ H s'->Q (.bool (!o.isSome)) s'):
 zo (zA X.prog X.w) A (ja .NotIn u (.ref a)) Q E s:=by
 rcases g with⟨rb,k,e,ey,l⟩|⟨rb,k,b,e,ey,eb,l⟩
 ·subst ey;obtain⟨z,hd,vs,rel,dd⟩:=WG I.hok e;refine wpAny_notIn_of (uC ry) hd dd.mapOf ?_;rw[<-(rel.val k).isSome_eq,<-l];exact h _ (I.tok _)
 · subst ey
   cases (show u=Value.ref b from ry)
   obtain⟨z,hd,xs,rel,dd⟩:=iJ I.hok e;refine wpAny_notIn_heap (Jj hu) (WE I.hok eb) hd dd ?_;have q:=(rel.val k).isSome_eq;rw[ZS]at q;rw[<-q,<-l];exact h _ (I.tok _)
theorem sS(I:Inv X pins σ H s)(mu:Mut (H a))(hs:yA a s.heap h')(he:∃q,h'.get? a=some q)(new:O4 X.prog X.w (upd H a ob) h' a ob):
 Inv X pins σ (upd H a ob) {s with heap:=h',toks:=t'}:=
 I.write mu (.inl rfl) (λb q hb z=>(hs.2 b hb).trans z) he new
theorem wL(z:rb.length<=zi)(hd:(a==xU)=false)(rel:KV rb vs)(dd:h'.DictOf (u5 P w) a vs):
 O4 P w H' h' a (.dK rb):=⟨z,hd,vs,rel,dd⟩
theorem io(hu:A.units+1<xh)(I:Inv X pins σ H s)(g:lH H a y v H')(ry:t6 y u)(rv:t6 v r)(h:∀s',Inv X pins σ H' s'->Q () s'):
 zo (zA X.prog X.w) A (setItem (.ref a) u r) Q E s:=by
 rcases g with⟨rb,k,e,ey,l,eH⟩|⟨rb,k,b,e,ey,eb,l,eH⟩
 · subst ey eH;obtain⟨z,hd,vs,rel,dd⟩:=AI I.hok e;have hz:vs.length<=zi:=by rw[<-rel.length];exact z
   have hl:(v3 rb k v).length<=zi:=by have:=HN rb k v;lia
   refine wpAny_setItem_pairs (uC ry) dd λh' dd' hs=>h _ ?_;have he:∃q,h'.get? a=some q:=let ⟨q,_,_,hq,_⟩:=dd';⟨q,hq⟩;exact sS I (by rw[e];exact True.intro) hs he (wL hl hd (rel.put k rv) dd')
 · subst ey eH
   cases (show u=Value.ref b from ry)
   obtain⟨z,hd,xs,rel,dd⟩:=LX I.hok e;have hz:xs.length<=zi:=by rw[<-xy rel];exact z
   have hl:(v3 rb k v).length<=zi:=by have:=HN rb k v;lia
   refine wpAny_setItem_heap (Jj hu) (WE I.hok eb) dd λh' dd' hs=>h _ ?_;obtain⟨q,es,ep,hq,h2,h3,h4,_,h5⟩:=dd';refine sS I (by rw[e];exact True.intro) hs ⟨q,hq⟩ ⟨hl,hd,_,(rel.put k eb rv).keeps λc ys ec=>?_,q,es,ep,hq,h2,h3,h4,h5⟩;rw[o5 (uW ec e (λz=>nomatch z))];exact ec
end
section
theorem Df(I:Inv X pins σ H s)(e:Rd H a (.dK rb))(h:∀t s',Inv X pins σ H s'->Q (.int rb.length t) s'):zo (zA X.prog X.w) A (call (.builtin "len") [.ref a]) Q E s:=by obtain⟨z,hd,vs,rel,dd⟩:=WG I.hok e;refine call_len_dict hd dd (by rw[<-rel.length];rw[jl]at z;lia) ?_;rw[<-rel.length];exact h _ _ (I.tok _)
end
section
end
section
end
structure M1(X:Cx)(o:Expr)(m:Str)(tj:Pos)(e:Expr)(se:Pos):Prop where
 base:YC o m X.env (eval o X.env)=eval o X.env
 few:((xF se (zX [e] X.env)).all (λx=> !x.1)&&(JC se (Yv [] X.env)).all (λx=>x.1.isSome)
  && decide (([e]:List Expr).length+([]:List Keyword).length+(if ([]:List Keyword).isEmpty then 0 else 1)<30))=true
 line:(tj.endLine==se.line)=true
 trees:xF se (zX [e] X.env)= [(false,eval e X.env)]
structure M2(X:Cx)(o:Expr)(m:Str)(tj:Pos)(e f:Expr)(se:Pos):Prop where
 base:YC o m X.env (eval o X.env)=eval o X.env
 few:((xF se (zX [e,f] X.env)).all (λx=> !x.1)&&(JC se (Yv [] X.env)).all (λx=>x.1.isSome)
  && decide (([e,f]:List Expr).length+([]:List Keyword).length+(if ([]:List Keyword).isEmpty then 0 else 1)<30))=true
 line:(tj.endLine==se.line)=true
 trees:xF se (zX [e,f] X.env)= [(false,eval e X.env),(false,eval f X.env)]
section
end
section
end
section
end
section
end
section
theorem GU:T9 X (.builtin "len") (λxs H Q=>∃a rb,xs= [V.ref a]/\H a=some (.dK rb)/\Q (.int rb.length) H):=by
 intro pins s σ H xs us Q I r h;obtain⟨a,rb,rfl,ha,q⟩:=h;obtain⟨u,rfl,ru⟩:=Z9 r
 cases ru
 exact Df I (.inl ha) λt s' I'=>⟨.int rb.length,H,I',⟨t,rfl⟩,q⟩
end
section
variable[DecidableEq κ]
end
end L2
namespace DL
open PySem PySem.Spec L2
open PyProof.Rows hiding St
inductive D where
 |non|bl (b:Bool)|int (i:Int)|str (x:Str)|tup (l:List D)|ref (i:Nat)|fn (x:Str)|ty (n:String)
inductive DO where
 |lst (l:List D)|rol (l:List D)|dct (l:List (Key×D))|rod (l:List (Key×D))
abbrev DH:=List DO
abbrev DPP:=D->DH->Prop
abbrev DSt:=List (Option D)
structure Wc where
 K:zj
 mg:Str->Option zg
abbrev wc(X:Cx):Wc:=⟨X.K,X.mg⟩
mutual
def d7(c:Wc)(μ:List Addr)(H:Hp):D->V->Prop
 | .non,v=>v= .non
 | .bl b,v=>v= .bl b
 | .int i,v=>v= .int i
 | .str x,v=>v= .str x
 | .ty n,v=>v= .ty n
 | .fn x,v=>∃a,c.mg x=some (.ref a)/\v= .ref a
 | .ref i,v=>∃a,μ[i]? =some a/\v= .ref a
 | .tup l,v=>∃a vs,v= .ref a/\SqT c.K H a vs/\j6 c μ H l vs
def j6(c:Wc)(μ:List Addr)(H:Hp):List D->List V->Prop
 |[],vs=>vs= []
 |d::ds,vs=>∃v r,vs=v::r/\d7 c μ H d v/\j6 c μ H ds r
end
def V0(c:Wc)(μ:List Addr)(H:Hp):List (Key×D)->List (Key×V)->Prop
 |[],rb=>rb= []
 |(k,d)::r,rb=>∃v t,rb= (k,v)::t/\d7 c μ H d v/\V0 c μ H r t
structure Ext(μ:List Addr)(H:Hp)(X2:List Addr)(H':Hp):Prop where
 pre:μ <+:X2
 new:∀a∈X2,a∉μ->H a=none
 oth:∀b o,H b=some o->b∉μ->H' b=some o
 tup:∀b xs,H b=some (.tup xs)->H' b=some (.tup xs)
 frz:∀b o u,H b=some (.frz o u)->H' b=some (.frz o u)
theorem Ext.refl(μ:List Addr)(H:Hp):Ext μ H μ H:=⟨Jd _,λa h n=>absurd h n,λ_ _ h _=>h,λ_ _ h=>h,λ_ _ _ h=>h⟩
theorem Ext.trans(a:Ext μ H X0 H1)(b:Ext X0 H1 WX H2):Ext μ H WX H2 where
 pre:=a.pre.trans b.pre
 new:=λx h n=>by
  by_cases h1:x∈X0
  ·exact a.new x h1 n
  · have e1:=b.new x h h1;rcases e:H x with _|o
    ·rfl
    ·rw[a.oth x o e n]at e1;exact fH e1
 oth:=λx o e n=>by refine b.oth x o (a.oth x o e n) λh1=>?_;have:=a.new x h1 n;rw[e]at this;exact fH this
 tup:=λx xs e=>b.tup x xs (a.tup x xs e)
 frz:=λx o u e=>b.frz x o u (a.frz x o u e)
theorem Ext.lay(h:H p=none)(o:HO):Ext μ H μ (upd H p o):=
 ⟨Jd _,λa h n=>absurd h n,λb o' q _=>by rw[o5 (o7 q h)];exact q,λb xs q=>by rw[o5 (o7 q h)];exact q,λb o' u q=>by rw[o5 (o7 q h)];exact q⟩
theorem Ext.add(h:H p=none)(o:HO):Ext μ H (μ++[p]) (upd H p o):=
 ⟨List.prefix_append _ _,λa ha n=>by
  rcases zR.mp ha with z|z
  ·exact absurd z n
  ·rw[zm.mp z];exact h,λb o' q _=>by rw[o5 (o7 q h)];exact q,λb xs q=>by rw[o5 (o7 q h)];exact q,λb o' u q=>by rw[o5 (o7 q h)];exact q⟩
theorem Ext.mut(hp:p∈μ)(h:H p=some o')(n1:∀xs,o'≠ .tup xs)(n2:∀o u,o'≠ .frz o u)(o:HO):Ext μ H μ (upd H p o):=
 ⟨Jd _,λa h n=>absurd h n,λb o2 q n=>by rw[o5 (λe=>n (by rw[e];exact hp))];exact q,λb xs q=>by
  rw[o5 (λe=>by subst e;rw[h]at q;cases q;exact n1 _ rfl)];exact q,
  λb oo u q=>by rw[o5 (λe=>by subst e;rw[h]at q;cases q;exact n2 _ _ rfl)];exact q⟩
theorem Ext.sqT{K:zj}(k:Ext μ H X2 H')(h:SqT K H a xs):SqT K H' a xs:=by
 rcases h with(h|⟨o,h⟩)|h
 ·exact .inl (.inl (k.tup _ _ h))
 ·exact .inl (.inr ⟨o,k.frz _ _ _ h⟩)
 ·exact .inr h
def RoL(K:zj)(H:Hp)(a:Addr)(xs:List V):Prop:=(∃o,H a=some (.frz o (.lst xs)))\/(SqL K (λ_=>none) a xs)
theorem Qg{K:zj}(h:SqL K (λ_=>none) a xs):SqL K H a xs:=by
 rcases h with(h|⟨o,h⟩)|h
 ·exact u6 h
 ·exact u6 h
 ·exact .inr h
theorem RoL.sq{K:zj}(h:RoL K H a xs):SqL K H a xs:=by
 rcases h with⟨o,h⟩|h
 ·exact .inl (.inr ⟨o,h⟩)
 ·exact Qg h
theorem Ext.roL{K:zj}(k:Ext μ H X2 H')(h:RoL K H a xs):RoL K H' a xs:=by
 rcases h with⟨o,h⟩|h
 ·exact .inl ⟨o,k.frz _ _ _ h⟩
 ·exact .inr h
section
variable{μ X2:List Addr}
theorem sJ(h:μ <+:X2){i:Nat}(e:μ[i]? =some a):X2[i]? =some a:=by
 obtain⟨t,rfl⟩:=h;have:i<μ.length:=by
  rcases Zj i μ.length with q|q
  ·exact q
  ·rw[zZ q]at e;exact u6 e
 rw[zB this];exact e
mutual
theorem d7.mono(x:Ext μ H X2 H'):∀ {d} {v},d7 c μ H d v->d7 c X2 H' d v
 | .non,_,h=>h
 | .bl _,_,h=>h
 | .int _,_,h=>h
 | .str _,_,h=>h
 | .ty _,_,h=>h
 | .fn _,_,h=>h
 | .ref i,v,h=>by unfold d7 at h ⊢;obtain⟨a,e,r⟩:=h;exact⟨a,sJ x.pre e,r⟩
 | .tup l,v,h=>by unfold d7 at h ⊢;obtain⟨a,vs,e,q,r⟩:=h;exact⟨a,vs,e,x.sqT q,j6.mono x r⟩
theorem j6.mono(x:Ext μ H X2 H'):∀ {l} {vs},j6 c μ H l vs->j6 c X2 H' l vs
 |[],_,h=>h
 |d::ds,vs,h=>by unfold j6 at h ⊢;obtain⟨v,r,e,q,t⟩:=h;exact⟨v,r,e,d7.mono x q,j6.mono x t⟩
end
theorem V0.mono(x:Ext μ H X2 H'):∀ {l} {vs},V0 c μ H l vs->V0 c X2 H' l vs
 |[],_,h=>h
 |(_,d)::ds,vs,h=>by obtain⟨v,r,e,q,t⟩:=h;exact⟨v,r,e,d7.mono x q,V0.mono x t⟩
theorem j6.nil:j6 c μ H [] []:=rfl
theorem j6.cons(h:d7 c μ H d v)(t:j6 c μ H ds vs):j6 c μ H (d::ds) (v::vs):=⟨v,vs,rfl,h,t⟩
theorem j6.length:∀ {l} {vs},j6 c μ H l vs->l.length=vs.length
 |[],_,h=>by cases h;rfl
 |_::_,_,h=>by obtain⟨v,r,rfl,_,t⟩:=h;simp[j6.length t]
theorem j6.get:∀ {l} {vs} {i:Nat} {d},j6 c μ H l vs->l[i]? =some d->∃v,vs[i]? =some v/\d7 c μ H d v
 |[],_,_,_,_,e=>by simp at e
 |_::_,_,0,_,h,e=>by obtain⟨v,r,rfl,q,t⟩:=h;simp at e;subst e;exact⟨v,rfl,q⟩
 |_::_,_,i+1,_,h,e=>by obtain⟨v,r,rfl,q,t⟩:=h;simp at e;obtain⟨w,h1,h2⟩:=j6.get t e;exact⟨w,by simpa using h1,h2⟩
theorem j6.append:∀ {l l'} {vs sy},j6 c μ H l vs->j6 c μ H l' sy->j6 c μ H (l++l') (vs++sy)
 |[],_,_,_,h,t=>by cases h;exact t
 |_::_,_,_,_,h,t=>by obtain⟨v,r,rfl,q,u⟩:=h;exact⟨v,r++_,rfl,q,j6.append u t⟩
theorem j6.take:∀n {l} {vs},j6 c μ H l vs->j6 c μ H (l.take n) (vs.take n)
 |0,_,_,_=>rfl
 |_+1, [],_,h=>by cases h;rfl
 |n+1,_::_,_,h=>by obtain⟨v,r,rfl,q,u⟩:=h;exact⟨v,r.take n,rfl,q,j6.take n u⟩
theorem j6.drop:∀n {l} {vs},j6 c μ H l vs->j6 c μ H (l.drop n) (vs.drop n)
 |0,_,_,h=>h
 |_+1, [],_,h=>by cases h;rfl
 |n+1,_::_,_,h=>by obtain⟨v,r,rfl,q,u⟩:=h;exact j6.drop n u
theorem j6.set(hv:d7 c μ H d v):∀n {l} {vs},j6 c μ H l vs->j6 c μ H (l.set n d) (vs.set n v)
 |_, [],_,h=>by cases h;rfl
 |0,_::_,_,h=>by obtain⟨w,r,rfl,q,u⟩:=h;exact⟨v,r,rfl,hv,u⟩
 |n+1,_::_,_,h=>by obtain⟨w,r,rfl,q,u⟩:=h;exact⟨w,r.set n v,rfl,q,j6.set hv n u⟩
theorem j6.reverse:∀ {l} {vs},j6 c μ H l vs->j6 c μ H l.reverse vs.reverse
 |[],_,h=>by cases h;rfl
 |_::_,_,h=>by obtain⟨w,r,rfl,q,u⟩:=h;simp only[XH];exact j6.append (j6.reverse u) ⟨w, [],rfl,q,rfl⟩
def E4:Option DO->Prop
 |some (.rol _)=>True
 |some (.rod _)=>True
 |_=>False
def A7(c:Wc)(μ:List Addr)(H:Hp)(a:Addr):DO->Prop
 | .lst l=>∃vs,H a=some (.lst vs)/\j6 c μ H l vs
 | .rol l=>∃vs,RoL c.K H a vs/\j6 c μ H l vs
 | .dct l=>∃rb,H a=some (.dK rb)/\V0 c μ H l rb
 | .rod l=>∃rb o,H a=some (.frz o (.dK rb))/\V0 c μ H l rb
structure m8(c:Wc)(μ:List Addr)(G:DH)(H:Hp):Prop where
 len:μ.length=G.length
 inj:∀(i j:Nat) (a:Addr),μ[i]? =some a->μ[j]? =some a->i=j\/E4 G[i]? \/E4 G[j]?
 obj:∀(i:Nat) (o:DO) (a:Addr),G[i]? =some o->μ[i]? =some a->A7 c μ H a o
theorem lt_of_get{α:Type}{l:List α}{x:α}(e:l[i]? =some x):i<l.length:=by
 rcases Zj i l.length with q|q
 ·exact q
 ·rw[zZ q]at e;exact u6 e
theorem A7.mono(x:Ext μ H X2 H')(h:A7 c μ H a o)(e:H' a=H a\/E4 (some o)):A7 c X2 H' a o:=by
 rcases o with l|l|l|l
 ·
   obtain⟨vs,q,r⟩:=h;rcases e with e|e
   ·exact⟨vs,e.trans q,r.mono x⟩
   ·exact e.elim
 ·obtain⟨vs,q,r⟩:=h;exact⟨vs,x.roL q,r.mono x⟩
 ·
   obtain⟨vs,q,r⟩:=h;rcases e with e|e
   ·exact⟨vs,e.trans q,r.mono x⟩
   ·exact e.elim
 ·obtain⟨vs,o,q,r⟩:=h;exact⟨vs,o,x.frz _ _ _ q,r.mono x⟩
theorem A7.some_of(h:A7 c μ H a o)(n:¬E4 (some o)):∃u,H a=some u/\(∀xs,u≠ .tup xs)/\∀o' u',u≠ .frz o' u':=by
 rcases o with l|l|l|l
 ·obtain⟨vs,q,_⟩:=h;exact⟨_,q,(λ_ z=>nomatch z),(λ_ _ z=>nomatch z)⟩
 ·exact(n trivial).elim
 ·obtain⟨vs,q,_⟩:=h;exact⟨_,q,(λ_ z=>nomatch z),(λ_ _ z=>nomatch z)⟩
 ·exact(n trivial).elim
theorem m8.same(h:m8 c μ G H)(k:Ext μ H μ H')(e:∀a o,H a=some o->(∀xs,o≠ .tup xs)->H' a=some o):m8 c μ G H':=
 ⟨h.len,h.inj,λi o a g m=>by
  have q:=h.obj i o a g m;by_cases hr:E4 (some o)
  ·exact q.mono k (.inr hr)
  ·obtain⟨u,e1,n1,n2⟩:=q.some_of hr;exact q.mono k (.inl ((e a u e1 n1).trans e1.symm))⟩
theorem m8.new{p:Addr}(h:m8 c μ G H)(hp:H p=none)(ho:A7 c (μ++[p]) (upd H p u) p o):m8 c (μ++[p]) (G++[o]) (upd H p u):=by
 have k:Ext μ H (μ++[p]) (upd H p u):=Ext.add hp u;have old:∀(i:Nat) (a:Addr),i<μ.length->(μ++[p])[i]? =some a->μ[i]? =some a:=λi a hi e=>by rw[zB hi]at e;exact e
 refine⟨by simp[h.len],λi j a ei ej=>?_,λi o' a g m=>?_⟩
 · have li:=lt_of_get ei;have lj:=lt_of_get ej;simp only[zd,jY]at li lj;by_cases hi:i<μ.length
   · have mi:=old i a hi ei;have gi:(G++[o])[i]? =G[i]? :=zB (by rw[<-h.len];exact hi);by_cases hj:j<μ.length
     ·have mj:=old j a hj ej;have gj:(G++[o])[j]? =G[j]? :=zB (by rw[<-h.len];exact hj);rw[gi,gj];exact h.inj i j a mi mj
     · -- j is the new one:a=p
       have ej':j=μ.length:=by lia
       subst ej';have ea:a=p:=by simpa using ej.symm
       subst ea;right;left;rw[gi];have hg:i<G.length:=by rw[<-h.len];exact hi
       have q:=h.obj i G[i] a (zq hg) mi;rw[zq hg];refine jr λn=>?_;obtain⟨u',e1,_⟩:=q.some_of n;rw[hp]at e1;exact u6 e1
   · have ei':i=μ.length:=by lia
     by_cases hj:j<μ.length
     · have mj:=old j a hj ej;have gj:(G++[o])[j]? =G[j]? :=zB (by rw[<-h.len];exact hj);subst ei';have ea:a=p:=by simpa using ei.symm
       subst ea;right;right;rw[gj];have hg:j<G.length:=by rw[<-h.len];exact hj
       have q:=h.obj j G[j] a (zq hg) mj;rw[zq hg];refine jr λn=>?_;obtain⟨u',e1,_⟩:=q.some_of n;rw[hp]at e1;exact u6 e1
     ·left;lia
 · have li:=lt_of_get m;simp only[zd,jY]at li;by_cases hi:i<μ.length
   · have mi:=old i a hi m;rw[zB (by rw[<-h.len];exact hi)]at g;have q:=h.obj i o' a g mi;by_cases hr:E4 (some o')
     ·exact q.mono k (.inr hr)
     ·obtain⟨u',e1,_⟩:=q.some_of hr;exact q.mono k (.inl (o5 (o7 e1 hp)))
   · have ei':i=μ.length:=by lia
     subst ei';have ea:a=p:=by simpa using m.symm
     subst ea;rw[h.len]at g;have eo:o'=o:=by simpa using g.symm
     subst eo;exact ho
theorem m8.set{o o':DO}{u:HO}(h:m8 c μ G H)(g:G[i]? =some o)(n:¬E4 (some o))(m:μ[i]? =some a)(k:Ext μ H μ (upd H a u))(n':¬E4 (some o'))(ho:A7 c μ (upd H a u) a o'):m8 c μ (G.set i o') (upd H a u):=by
 have hi:i<G.length:=lt_of_get g;have get:∀j,(G.set i o')[j]? =if i=j then some o' else G[j]? :=λj=>by
  rw[XJ];by_cases e:i=j
  ·subst e;simp[hi]
  ·simp[e]
 refine⟨by simp[h.len],λj l b ej el=>?_,λj o2 b gj mj=>?_⟩
 · rcases h.inj j l b ej el with e|e|e
   ·exact .inl e
   · by_cases ij:i=j
     ·subst ij;rw[g]at e;exact(n e).elim
     ·right;left;rw[get,if_neg ij];exact e
   · by_cases ij:i=l
     ·subst ij;rw[g]at e;exact(n e).elim
     ·right;right;rw[get,if_neg ij];exact e
 · rw[get]at gj;by_cases ij:i=j
   · subst ij;rw[if_pos rfl]at gj
     cases gj
     rw[m]at mj
     cases mj
     exact ho
   · rw[if_neg ij]at gj;have q:=h.obj j o2 b gj mj;by_cases hr:E4 (some o2)
     ·exact q.mono k (.inr hr)
     · have nb:b≠a:=λe=>by
        subst e;rcases h.inj i j b m mj with e|e|e
        ·exact ij e
        ·rw[g]at e;exact n e
        ·rw[gj]at e;exact hr e
       exact q.mono k (.inl (o5 nb))
def u9(c:Wc)(μ:List Addr)(H:Hp)(X9:DSt)(σ:St):Prop:=X9.length=σ.length/\∀(i:Nat) (d:D),X9[i]? =some (some d)->∃v,σ[i]? =some (some v)/\d7 c μ H d v
theorem u9.mono(x:Ext μ H X2 H')(h:u9 c μ H X9 σ):u9 c X2 H' X9 σ:=
 ⟨h.1,λi d e=>let ⟨v,a,b⟩:=h.2 i d e;⟨v,a,b.mono x⟩⟩
theorem u9.put(h:u9 c μ H X9 σ)(r:d7 c μ H d v)(i:Nat):u9 c μ H (X9.set i (some d)) (σ.set i (some v)):=by
 refine⟨by simp[h.1],λj d' e=>?_⟩;rw[XJ]at e ⊢;by_cases ij:i=j
 · subst ij;rw[if_pos rfl]at e ⊢;rw[<-h.1];split at e
   · rename_i hl;rw[if_pos hl]
     cases e
     exact⟨v,rfl,r⟩
   ·exact u6 e
 ·rw[if_neg ij]at e ⊢;exact h.2 j d' e
end
def M(α:Type):=DH->Option (Except Str α×DH)
namespace M
def pure{α:Type}(a:α):M α:=λG=>some (.ok a,G)
def bind{α β:Type}(m:M α)(f:α->M β):M β:=λG=>match m G with
 |none=>none
 |some (.ok a,G1)=>f a G1
 |some (.error x,G1)=>some (.error x,G1)
def stuck{α:Type}:M α:=λ_=>none
end M
instance:Monad M:={pure:=M.pure,bind:=M.bind}
theorem M.bind_eq(m:M α)(f:α->M β)(G:DH):(m >>= f) G=match m G with
 |none=>none
 |some (.ok a,G1)=>f a G1
 |some (.error x,G1)=>some (.error x,G1):=rfl
theorem M.bind_ok{f:α->M β}(h:m G=some (.ok a,G1)):(m >>= f) G=f a G1:=by rw[M.bind_eq,h]
theorem M.bind_assoc(m:M α)(f:α->M β)(g:β->M γ):((m >>= f) >>= g)= (m >>= λa=>f a >>= g):=by
 funext G;simp only[M.bind_eq];rcases m G with _|p
 ·rfl
 ·obtain⟨r,G1⟩:=p;cases r<;>rfl
abbrev XC:=Str->List Addr->DH->Hp->Prop
def ZF:XC:=λ_ _ _ _=>False
def c7{α:Type}(c:Wc)(Z:XC)(μ:List Addr)(H:Hp)(r:Option (Except Str α×DH))(K:α->List Addr->DH->Hp->Prop):Prop:=
 match r with
 |none=>False
 |some (.ok a,G')=>∀ X2 H',Ext μ H X2 H'->m8 c X2 G' H'->K a X2 G' H'
 |some (.error x,G')=>∀ X2 H',Ext μ H X2 H'->m8 c X2 G' H'->Z x X2 G' H'
section
theorem c7.mono{K K':α->List Addr->DH->Hp->Prop}(h:c7 c Z μ H r K)
 (k:∀a X2 G' H',Ext μ H X2 H'->m8 c X2 G' H'->K a X2 G' H'->K' a X2 G' H'):c7 c Z μ H r K':=by
 match r,h with
 |some (.ok a,G'),h=>exact λX2 H' p e=>k a X2 G' H' p e (h X2 H' p e)
 |some (.error x,G'),h=>exact h
theorem c7.from{K:α->List Addr->DH->Hp->Prop}(h:c7 c Z μ H r K)(p:Ext μ H X2 H'):c7 c Z X2 H' r K:=by
 match r,h with
 |some (.ok a,G'),h=>exact λWX H2 p2 e=>h WX H2 (p.trans p2) e
 |some (.error x,G'),h=>exact λWX H2 p2 e=>h WX H2 (p.trans p2) e
theorem c7.bind{m:M α}{K:β->List Addr->DH->Hp->Prop}(h:c7 c Z μ H ((m >>= f) G) K):
 c7 c Z μ H (m G) (λa X2 G' H'=>c7 c Z X2 H' (f a G') K):=by
 rw[M.bind_eq]at h
 match m G,h with
 |some (.ok a,G'),h=>exact λX2 H' p e=>c7.from h p
 |some (.error x,G'),h=>exact h
theorem c7.ok{K:α->List Addr->DH->Hp->Prop}(h:c7 c Z μ H (some (.ok a,G)) K)(e:m8 c μ G H):K a μ G H:=h μ H (Ext.refl _ _) e
end
inductive Fl where
 |nx (σ:DSt)|rt (d:D)|bk (σ:DSt)|ct (σ:DSt)
section
variable(c:Wc)(Z:XC)
def D5(f:DSt->M D):TE:=λσ H Q=>∃X9 μ G,u9 c μ H X9 σ/\m8 c μ G H/\c7 c Z μ H (f X9 G) λd X2 _ H'=>∀v,d7 c X2 H' d v->Q v H'
def WA(f:DSt->M Bool):TT:=λσ H Q=>∃X9 μ G,u9 c μ H X9 σ/\m8 c μ G H/\c7 c Z μ H (f X9 G) λb X2 _ H'=>Q b H'
def rE(f:DSt->M (List D)):TA:=λσ H Q=>∃X9 μ G,u9 c μ H X9 σ/\m8 c μ G H/\c7 c Z μ H (f X9 G) λds X2 _ H'=>∀vs,j6 c X2 H' ds vs->Q vs H'
def iB(E:fA)(fl:Fl)(μ:List Addr)(H:Hp):Prop:=match fl with
 | .nx X9=>∀ σ,u9 c μ H X9 σ->E.nx σ H
 | .rt d=>∀v,d7 c μ H d v->E.rt v H
 | .bk X9=>∀ σ,u9 c μ H X9 σ->E.bk σ H
 | .ct X9=>∀ σ,u9 c μ H X9 σ->E.ct σ H
def eB(f:DSt->M Fl):TS:=λE σ H=>∃X9 μ G,u9 c μ H X9 σ/\m8 c μ G H/\c7 c Z μ H (f X9 G) λfl X2 _ H'=>iB c E fl X2 H'
end
theorem D5.elim{P:Prop}{H:Hp}{Q:VK}(h:D5 c Z f σ H Q)(k:∀X9 μ G,u9 c μ H X9 σ->m8 c μ G H->c7 c Z μ H (f X9 G) (λd X2 _ H'=>∀v,d7 c X2 H' d v->Q v H')->P):P:=by obtain⟨e0,e1,e2,e3,e4,e5⟩:=h;exact k e0 e1 e2 e3 e4 e5
theorem WA.elim{P:Prop}{σ:St}{H:Hp}(h:WA c Z f σ H Q)(k:∀X9 μ G,u9 c μ H X9 σ->m8 c μ G H->c7 c Z μ H (f X9 G) (λb X2 _ H'=>Q b H')->P):P:=by obtain⟨e0,e1,e2,e3,e4,e5⟩:=h;exact k e0 e1 e2 e3 e4 e5
theorem rE.elim{P:Prop}{σ:St}{H:Hp}(h:rE c Z f σ H Q)(k:∀X9 μ G,u9 c μ H X9 σ->m8 c μ G H->c7 c Z μ H (f X9 G) (λds X2 _ H'=>∀vs,j6 c X2 H' ds vs->Q vs H')->P):P:=by obtain⟨e0,e1,e2,e3,e4,e5⟩:=h;exact k e0 e1 e2 e3 e4 e5
theorem eB.elim{P:Prop}{σ:St}{H:Hp}(h:eB c Z f E σ H)(k:∀X9 μ G,u9 c μ H X9 σ->m8 c μ G H->c7 c Z μ H (f X9 G) (λfl X2 _ H'=>iB c E fl X2 H')->P):P:=by obtain⟨e0,e1,e2,e3,e4,e5⟩:=h;exact k e0 e1 e2 e3 e4 e5
structure DE(X:Cx)(Z:XC)(e:Expr)(f:DSt->M D):Prop where
 h:PE X e (D5 (wc X) Z f)
structure DT(X:Cx)(Z:XC)(e:Expr)(f:DSt->M Bool):Prop where
 h:PT X e (WA (wc X) Z f)
structure DA(X:Cx)(Z:XC)(e:List Expr)(f:DSt->M (List D)):Prop where
 h:PA X e (rE (wc X) Z f)
structure DS(X:Cx)(Z:XC)(e:Stmt)(f:DSt->M Fl):Prop where
 h:PS X e (eB (wc X) Z f)
structure DB(X:Cx)(Z:XC)(e:List Stmt)(f:DSt->M Fl):Prop where
 h:PSs X e (eB (wc X) Z f)
theorem PE.mono(h:PE X e t)(k:∀ σ H Q,t' σ H Q->t σ H Q):PE X e t':=λpins s σ H Q I q=>h pins s σ H Q I (k σ H Q q)
theorem PT.mono(h:PT X e t)(k:∀ σ H Q,t' σ H Q->t σ H Q):PT X e t':=λpins s σ H Q I q=>h pins s σ H Q I (k σ H Q q)
theorem PW.mono(h:PW X e t)(k:∀ σ H Q,t' σ H Q->t σ H Q):PW X e t':=λwh pins s σ H Q I q=>h wh pins s σ H Q I (k σ H Q q)
theorem PA.mono(h:PA X e t)(k:∀ σ H Q,t' σ H Q->t σ H Q):PA X e t':=λpos pins s σ H Q I q=>h pos pins s σ H Q I (k σ H Q q)
theorem PS.mono(h:PS X e t)(k:∀E σ H,t' E σ H->t E σ H):PS X e t':=λpins s σ H E I q=>h pins s σ H E I (k E σ H q)
theorem PSs.mono(h:PSs X e t)(k:∀E σ H,t' E σ H->t E σ H):PSs X e t':=λpins s σ H E I q=>h pins s σ H E I (k E σ H q)
theorem DE.of(h:PE X e t)(k:∀ σ H Q,D5 (wc X) Z f σ H Q->t σ H Q):DE X Z e f:=⟨PE.mono h k⟩
theorem DT.of(h:PT X e t)(k:∀ σ H Q,WA (wc X) Z f σ H Q->t σ H Q):DT X Z e f:=⟨PT.mono h k⟩
theorem DA.of(h:PA X e t)(k:∀ σ H Q,rE (wc X) Z f σ H Q->t σ H Q):DA X Z e f:=⟨PA.mono h k⟩
theorem DS.of(h:PS X e t)(k:∀E σ H,eB (wc X) Z f E σ H->t E σ H):DS X Z e f:=⟨PS.mono h k⟩
theorem DB.of(h:PSs X e t)(k:∀E σ H,eB (wc X) Z f E σ H->t E σ H):DB X Z e f:=⟨PSs.mono h k⟩
end DL
namespace DL
open PySem PySem.Spec L2
open PyProof.Rows hiding St
def O1:Expr->Bool
 | .Starred ..=>false
 |_=>true
theorem f6(h:O1 e=true):zX (e::es) env= (false,eval e env)::zX es env:=by
 cases e<;>first
  |rfl
  |exact EF h
theorem T8(h:O1 e=true):zX [e] env= [(false,eval e env)]:=f6 h
theorem NY(h:O1 a=true)(h':O1 b=true):zX [a,b] env= [(false,eval a env),(false,eval b env)]:=by rw[f6 h,T8 h']
abbrev Fe:=DSt->M D
def varE(i:Nat):Fe:=λσ G=>match σ[i]? with
 |some (some d)=>some (.ok d,G)
 |_=>none
def cE(d:D):Fe:=λ_=>pure d
def binE(o:D->D->M D)(a b:Fe):Fe:=λσ=>do o (<-a σ) (<-b σ)
def unE(o:D->M D)(a:Fe):Fe:=λσ=>do o (<-a σ)
def o0:DSt->M (List D):=λ_=>pure []
def x0(a:Fe)(r:DSt->M (List D)):DSt->M (List D):=λσ=>do
 let x <-a σ
 let xs <-r σ
 pure (x::xs)
def C2(F:List D->M D)(a:DSt->M (List D)):Fe:=λσ=>do F (<-a σ)
def lE:D->M Bool
 | .bl b=>pure b
 |_=>M.stuck
def wH(a:Fe):Fe:=λσ=>do pure (.bl (!(<-lE (<-a σ))))
def ifE(t:DSt->M Bool)(a b:Fe):Fe:=λσ=>do if <-t σ then a σ else b σ
section
variable(c:Wc)(Z:XC)
def eA(o:D->D->M D):R2:=λx y H Q=>∃dx dy μ G,d7 c μ H dx x/\d7 c μ H dy y/\m8 c μ G H/\c7 c Z μ H (o dx dy G) λd X2 _ H'=>∀v,d7 c X2 H' d v->Q v H'
def cH(o:D->M D):V->Hp->VK->Prop:=λx H Q=>∃dx μ G,d7 c μ H dx x/\m8 c μ G H/\c7 c Z μ H (o dx G) λd X2 _ H'=>∀v,d7 c X2 H' d v->Q v H'
def aE(F:List D->M D):List V->Hp->VK->Prop:=λxs H Q=>∃ds μ G,j6 c μ H ds xs/\m8 c μ G H/\c7 c Z μ H (F ds G) λd X2 _ H'=>∀v,d7 c X2 H' d v->Q v H'
end
theorem eA.elim{P:Prop}{x:V}{y:V}{Q:VK}(h:eA c Z o x y H Q)(k:∀dx dy μ G,d7 c μ H dx x->d7 c μ H dy y->m8 c μ G H->c7 c Z μ H (o dx dy G) (λd X2 _ H'=>∀v,d7 c X2 H' d v->Q v H')->P):P:=by obtain⟨e0,e1,e2,e3,e4,e5,e6,e7⟩:=h;exact k e0 e1 e2 e3 e4 e5 e6 e7
theorem cH.elim{P:Prop}{x:V}{Q:VK}(h:cH c Z o x H Q)(k:∀dx μ G,d7 c μ H dx x->m8 c μ G H->c7 c Z μ H (o dx G) (λd X2 _ H'=>∀v,d7 c X2 H' d v->Q v H')->P):P:=by obtain⟨e0,e1,e2,e3,e4,e5⟩:=h;exact k e0 e1 e2 e3 e4 e5
theorem aE.elim{P:Prop}{H:Hp}{Q:VK}(h:aE c Z F xs H Q)(k:∀ds μ G,j6 c μ H ds xs->m8 c μ G H->c7 c Z μ H (F ds G) (λd X2 _ H'=>∀v,d7 c X2 H' d v->Q v H')->P):P:=by obtain⟨e0,e1,e2,e3,e4,e5⟩:=h;exact k e0 e1 e2 e3 e4 e5
structure OpD(X:Cx)(Z:XC)(f:zg->zg->Sem zg)(o:D->D->M D):Prop where
 h:OpR X f (eA (wc X) Z o)
structure UnD(X:Cx)(Z:XC)(f:zg->Sem zg)(o:D->M D):Prop where
 h:UnR X f (cH (wc X) Z o)
structure O7(X:Cx)(Z:XC)(f:zg)(F:List D->M D):Prop where
 h:T9 X f (aE (wc X) Z F)
theorem OpR.mono(h:OpR X f r)(k:∀x y H Q,r' x y H Q->r x y H Q):OpR X f r':=λpins s σ H x y v u Q I rx ry q=>h pins s σ H x y v u Q I rx ry (k x y H Q q)
theorem T9.mono(h:T9 X f r)(k:∀xs H Q,r' xs H Q->r xs H Q):T9 X f r':=λpins s σ H xs us Q I rx q=>h pins s σ H xs us Q I rx (k xs H Q q)
theorem OpD.of(h:OpR X f r)(k:∀x y H Q,eA (wc X) Z o x y H Q->r x y H Q):OpD X Z f o:=⟨OpR.mono h k⟩
theorem O7.of(h:T9 X f r)(k:∀xs H Q,aE (wc X) Z F xs H Q->r xs H Q):O7 X Z f F:=⟨T9.mono h k⟩
section
variable{X:Cx}{Z:XC}{a b c e:Expr}{pos:Pos}
theorem kH(σ:St)(H:Hp)(Q:VK)(h:D5 cc Z (binE o fa fb) σ H Q):tOp (eA cc Z o) (D5 cc Z fa) (D5 cc Z fb) σ H Q:=by obtain⟨X9,μ,G,s,h,p⟩:=h;exact⟨X9,μ,G,s,h,(c7.bind p).mono λx X0 G1 H1 x' h1 p1 v rv=>⟨X9,X0,G1,s.mono x',h1,(c7.bind p1).mono λy WX G2 H2 x2 h2 p2 u ru=>⟨x,y,WX,G2,rv.mono x2,ru,h2,p2⟩⟩⟩
theorem SW(h:PE X e (FO i)):DE X Z e (varE i):=DE.of h λσ H Q rc=>rc.elim λX9 μ G s h p=>by
 delta varE at p;rcases he:X9[i]? with _|_|d
 ·rw[he]at p;exact p.elim
 ·rw[he]at p;exact p.elim
 ·rw[he]at p;obtain⟨v,e1,r⟩:=s.2 i d he;exact⟨v,e1,c7.ok p h v r⟩
theorem gD(h:PE X e (tC v))(r:∀ μ H,d7 (wc X) μ H d v):DE X Z e (cE d):=DE.of h λσ H Q rc=>rc.elim λX9 μ G s h p=>c7.ok p h v (r _ _)
theorem Bz{i j pos}:DE X Z (.Constant (.int i) j pos) (cE (.int i)):=gD pQ λ_ _=>by unfold d7;rfl
theorem HY{i j pos}:DE X Z (.Constant (.bool i) j pos) (cE (.bl i)):=gD Gp λ_ _=>by unfold d7;rfl
theorem aw{j pos}:DE X Z (.Constant .none j pos) (cE .non):=gD FT λ_ _=>by unfold d7;rfl
theorem cZ{i j pos}:DE X Z (.Constant (.str i) j pos) (cE (.str i)):=gD vv λ_ _=>by unfold d7;rfl
theorem Gw(i:Nat)(hN:X.N[i]? =some x)(hv:Vis X.env.scope x)(hd:(x==("__debug__" :Str))=false)
 (hcd:(x==("__classdict__" :Str))=false):DE X Z (.Name x pos) (varE i):=SW (MW hN hv hd hcd)
theorem uT(ho:OpD X Z (yE op) o)(ha:DE X Z a fa)(hb:DE X Z b fb):DE X Z (.BinOp a op b pos) (binE o fa fb):=
 DE.of (TJ ho.h ha.h hb.h) kH
theorem Tk(ho:OpD X Z (ja op) o)(ha:DE X Z a fa)(hb:DE X Z b fb)(hm:XY op b=false):DE X Z (.Compare a [op] [b] pos) (binE o fa fb):=
 DE.of (tU ho.h ha.h hb.h hm) kH
theorem QV(ho:UnD X Z (unaryOp op) o)(ha:DE X Z a fa):DE X Z (.UnaryOp op a pos) (unE o fa):=
 DE.of (vq ho.h ha.h) λσ H Q rc=>rc.elim λX9 μ G s h p=>⟨X9,μ,G,s,h,(c7.bind p).mono λx X0 G1 H1 x' h1 p1 v rv=>⟨x,X0,G1,rv,h1,p1⟩⟩
theorem dQ{H:Hp}{d:D}{f:Bool->M α}{G:DH}{K:α->List Addr->DH->Hp->Prop}(p:c7 cc Z μ H ((lE d >>= f) G) K):∃k,d= .bl k/\c7 cc Z μ H (f k G) K:=by
 cases d with
 |bl k=>exact⟨k,rfl,p⟩
 |_=>exact p.elim
theorem VS{op}(h:DE X Z a f):DE X Z (.BoolOp op [a] pos) f:=⟨RU h.h⟩
theorem Lh(ha:DE X Z a fa):DE X Z (.UnaryOp .Not a pos) (wH fa):=
 DE.of (ET ha.h) λσ H Q rc=>rc.elim λX9 μ G s h p=>⟨X9,μ,G,s,h,(c7.bind p).mono λx X0 G1 H1 x' h1 p1 v rv=>by obtain⟨k',rfl,p2⟩:=dQ p1;unfold d7 at rv;exact⟨k',rv,c7.ok p2 h1 _ (by unfold d7;rfl)⟩⟩
def B6(f:Fe):DSt->M Bool:=λσ=>do lE (<-f σ)
def j3(a b:DSt->M Bool):DSt->M Bool:=λσ=>do if <-a σ then b σ else pure false
def orT(a b:DSt->M Bool):DSt->M Bool:=λσ=>do if <-a σ then pure true else b σ
def F4(a:DSt->M Bool):DSt->M Bool:=λσ=>do pure (!(<-a σ))
structure DW(X:Cx)(Z:XC)(e:Expr)(f:DSt->M Bool):Prop where
 h:PW X e (WA (wc X) Z f)
theorem DW.of(h:PW X e t)(k:∀ σ H Q,WA (wc X) Z f σ H Q->t σ H Q):DW X Z e f:=⟨PW.mono h k⟩
variable{ta tb:DSt->M Bool}{rest:List Expr}
theorem DW.dt(h:DW X Z a ta):DT X Z a ta:=⟨λpins s σ H Q I q=>h.h _ pins s σ H Q I q⟩
theorem kU(ho:OpD X Z (ja op) o)(ha:DE X Z a fa)(hb:DE X Z b fb)(hm:XY op b=false):DT X Z (.Compare a [op] [b] pos) (B6 (binE o fa fb)):=
 DT.of (af ho.h ha.h hb.h hm) λσ H Q rc=>rc.elim λX9 μ G s h p=>kH σ H _ ⟨X9,μ,G,s,h,(c7.bind p).mono λx X0 G1 H1 x' h1 p1 v rv=>by
  cases x with
  |bl k'=>unfold d7 at rv;exact⟨k',rv,c7.ok p1 h1⟩
  |_=>exact p1.elim⟩
theorem RW(ha:DT X Z a ta):DW X Z (.BoolOp .And [a] pos) ta:=⟨AV ha.h⟩
theorem bo(ha:DT X Z a ta):DW X Z (.BoolOp .Or [a] pos) ta:=⟨CW ha.h⟩
theorem rZ(ha:DT X Z a ta)(hb:DW X Z (.BoolOp .And (b::rest) pos) tb):DW X Z (.BoolOp .And (a::b::rest) pos) (j3 ta tb):=
 DW.of (SX ha.h hb.h) λσ H Q rc=>rc.elim λX9 μ G s h p=>⟨X9,μ,G,s,h,(c7.bind p).mono λx X0 G1 H1 x' h1 p1=>by
  cases x with
  |true=>exact⟨X9,X0,G1,s.mono x',h1,p1⟩
  |false=>exact c7.ok p1 h1⟩
theorem Fx(ha:DT X Z a ta)(hb:DW X Z (.BoolOp .Or (b::rest) pos) tb):DW X Z (.BoolOp .Or (a::b::rest) pos) (orT ta tb):=
 DW.of (Rm ha.h hb.h) λσ H Q rc=>rc.elim λX9 μ G s h p=>⟨X9,μ,G,s,h,(c7.bind p).mono λx X0 G1 H1 x' h1 p1=>by
  cases x with
  |false=>exact⟨X9,X0,G1,s.mono x',h1,p1⟩
  |true=>exact c7.ok p1 h1⟩
theorem OW(ha:DT X Z a ta):DT X Z (.UnaryOp .Not a pos) (F4 ta):=
 DT.of (TU ha.h) λσ H Q rc=>rc.elim λX9 μ G s h p=>⟨X9,μ,G,s,h,(c7.bind p).mono λx X0 G1 H1 x' h1 p1=>c7.ok p1 h1⟩
theorem FX(hc:DT X Z c ta)(ha:DE X Z a fa)(hb:DE X Z b fb):DE X Z (.IfExp c a b pos) (ifE ta fa fb):=
 DE.of (QY hc.h ha.h hb.h) λσ H Q rc=>rc.elim λX9 μ G s h p=>⟨X9,μ,G,s,h,(c7.bind p).mono λx X0 G1 H1 x' h1 p1=>by
  cases x with
  |true=>exact⟨X9,X0,G1,s.mono x',h1,p1⟩
  |false=>exact⟨X9,X0,G1,s.mono x',h1,p1⟩⟩
theorem KJ:DA X Z [] o0:=DA.of gU λσ H Q rc=>rc.elim λX9 μ G s h p=>c7.ok p h [] rfl
theorem mJ(ha:DE X Z e fa)(hr:DA X Z es fs)(hs:zX (e::es) X.env= (false,eval e X.env)::zX es X.env):DA X Z (e::es) (x0 fa fs):=
 DA.of (Lv ha.h hr.h hs) λσ H Q rc=>rc.elim λX9 μ G s h p=>⟨X9,μ,G,s,h,(c7.bind p).mono λx X0 G1 H1 x' h1 p1 v rv=>
  ⟨X9,X0,G1,s.mono x',h1,(c7.bind p1).mono λxs WX G2 H2 x2 h2 p2 vs rvs=>c7.ok p2 h2 (v::vs) ⟨v,vs,rfl,rv.mono x2,rvs⟩⟩⟩
def A2(fs:DSt->M (List D)):Fe:=λσ=>do
 let xs <-fs σ
 if xs.length<=zi then pure (.tup xs)else M.stuck
def J5(o:DO):M D:=λG=>some (.ok (.ref G.length),G++[o])
def Q5(fs:DSt->M (List D)):Fe:=λσ=>do
 let xs <-fs σ
 if xs.length<=zi then J5 (.lst xs)else M.stuck
theorem AF{G:DH}{Q:VK}(h:m8 cc μ G H)(r:j6 cc μ H xs vs)
 (p:c7 cc Z μ H (some (Except.ok (.tup xs),G)) λd X2 _ H'=>∀v,d7 cc X2 H' d v->Q v H') (q:Addr) (hq:H q=none):Q (.ref q) (upd H q (.tup vs)):=by
 have k:Ext μ H μ (upd H q (.tup vs)):=Ext.lay hq _;refine p μ _ k (h.same k λa o e n=>?_) _ ?_
 ·rw[o5 (o7 e hq)];exact e
 ·unfold d7;exact⟨q,vs,rfl,SqT.of K7,r.mono k⟩
theorem O6{G:DH}{Q:VK}(h:m8 cc μ G H)(r:j6 cc μ H xs vs)
 (p:c7 cc Z μ H (J5 (.lst xs) G) λd X2 _ H'=>∀v,d7 cc X2 H' d v->Q v H') (q:Addr) (hq:H q=none):Q (.ref q) (upd H q (.lst vs)):=by
 have k:Ext μ H (μ++[q]) (upd H q (.lst vs)):=Ext.add hq _;refine p (μ++[q]) _ k (h.new hq ⟨vs,K7,r.mono k⟩) _ ?_;unfold d7;exact⟨q,by rw[<-h.len];simp,rfl⟩
theorem Hq{x1}(h:DA X Z es fs):DE X Z (.Tuple es x1 pos) (A2 fs):=
 DE.of (Rk h.h) λσ H Q rc=>rc.elim λX9 μ G s h p=>⟨X9,μ,G,s,h,(c7.bind p).mono λxs X0 G1 H1 x' h1 p1 vs rv=>by
  split at p1
  ·rename_i hz;exact⟨by rw[<-rv.length];exact hz,λq hq=>AF h1 rv p1 q hq⟩
  ·exact p1.elim⟩
theorem kj(h:DA X Z es fs):DE X Z (.List es pos) (Q5 fs):=
 DE.of (gT h.h) λσ H Q rc=>rc.elim λX9 μ G s h p=>⟨X9,μ,G,s,h,(c7.bind p).mono λxs X0 G1 H1 x' h1 p1 vs rv=>by
  split at p1
  ·rename_i hz;exact⟨by rw[<-rv.length];exact hz,λq hq=>O6 h1 rv p1 q hq⟩
  ·exact p1.elim⟩
theorem gO(σ:St)(H:Hp)(Q:VK)(h:D5 cc Z (C2 F fs) σ H Q):tCB (aE cc Z F) (rE cc Z fs) σ H Q:=by obtain⟨X9,μ,G,s,h,p⟩:=h;exact⟨X9,μ,G,s,h,(c7.bind p).mono λx X0 G1 H1 x' h1 p1 vs rv=>⟨x,X0,G1,rv,h1,p1⟩⟩
theorem hV{id:String}(hc:O7 X Z (.builtin id) F)(hg:Gl X x)(hm:X.mg x=none)(hv:jb x=some (.builtin id))(ha:DA X Z (e::es) fs)(hn:x≠ "__name__")(hdb:(x==("__debug__" :Str))=false)
 (he:zX (e::es) X.env= (false,eval e X.env)::zX es X.env) (uf:(xF pos (zX es X.env)).any (·.1)=false):DE X Z (.Call (.Name x p) (e::es) [] pos) (C2 F fs):=
 DE.of (mf hc.h hg hm hv ha.h hn hdb he uf) gO
theorem fW(hc:O7 X Z (.type T) F)(hg:Gl X x)(hm:X.mg x=none)(hv:jb x=some (.type T))(ha:DA X Z (e::es) fs)(hn:x≠ "__name__")(hdb:(x==("__debug__" :Str))=false)
 (he:zX (e::es) X.env= (false,eval e X.env)::zX es X.env) (uf:(xF pos (zX es X.env)).any (·.1)=false):DE X Z (.Call (.Name x p) (e::es) [] pos) (C2 F fs):=
 DE.of (bc hc.h hg hm hv ha.h hn hdb he uf) gO
def spD(c:Wc)(n:Nat)(F:List D->M D):Sp:=λvs H Q _=>vs.length=n/\∃ds μ G,j6 c μ H ds vs/\m8 c μ G H/\c7 c ZF μ H (F ds G) λd X2 _ H'=>∀v,d7 c X2 H' d v->Q v H'
def noX{α:Type}(m:M α):M α:=λG=>match m G with
 |some (.ok a,G1)=>some (.ok a,G1)
 |_=>none
theorem bI{H:Hp}{G:DH}{K:α->List Addr->DH->Hp->Prop}(p:c7 cc Z μ H (noX m G) K):c7 cc ZF μ H (m G) K:=by
 unfold noX at p
 match m G,p with
 |some (.ok a,G1),p=>exact p
 |some (.error x,G1),p=>exact p.elim
 |none,p=>exact p.elim
def fnX(n:Nat)(F:List D->M D):List D->M D:=λds=>if ds.length=n then noX (F ds)else M.stuck
theorem uY{H:Hp}{n:Nat}{G:DH}{K:D->List Addr->DH->Hp->Prop}(p:c7 cc Z μ H (fnX n F ds G) K):ds.length=n/\c7 cc ZF μ H (F ds G) K:=by
 unfold fnX at p;split at p
 ·rename_i h;exact⟨h,bI p⟩
 ·exact p.elim
theorem Tf(hF:F1 X.prog X.w X.K X.mg X.base CX0 k f fd ps (spD (wc X) n F))(hr:P0 k X.A)(hg:Gl X x)(hm:X.mg x=some (.ref f))(hk:yS X.K (.ref f)=true)(hb:P3 X.K fd ps [])
 (ha:DA X Z (e::es) fs)
 (hdb:(x==("__debug__" :Str))=false) (he:zX (e::es) X.env= (false,eval e X.env)::zX es X.env) (uf:(xF pos (zX es X.env)).any (·.1)=false):
 DE X Z (.Call (.Name x p) (e::es) [] pos) (C2 (fnX n F) fs):=
 DE.of (uU hF hr hg hm hk hb .nil UN ha.h hdb he uf) λσ H Q rc=>rc.elim λX9 μ G s h p=>by refine⟨X9,μ,G,s,h,(c7.bind p).mono λds' X0 G1 H1 x' h1 p1 vs rv=>?_⟩;obtain⟨hl,p2⟩:=uY p1;show spD (wc X) n F (vs++[]) H1 Q E0;rw[jH];exact⟨by rw[<-rv.length];exact hl,ds',X0,G1,rv,h1,p2⟩
end
abbrev Fs:=DSt->M Fl
def t8:Fs:=λσ=>pure (.nx σ)
def j5(a b:Fs):Fs:=λσ=>do
 match <-a σ with
 | .nx X1=>b X1
 |r=>pure r
def o9(f:Fe):Fs:=λσ=>do pure (.rt (<-f σ))
def S5(f:Fe):Fs:=λσ=>do
 let _ <-f σ
 pure (.nx σ)
def ifS(t:DSt->M Bool)(a b:Fs):Fs:=λσ=>do if <-t σ then a σ else b σ
abbrev Fg:=D->DSt->M DSt
abbrev Fgs:=List D->DSt->M DSt
def S0(i:Nat):Fg:=λd σ=>pure (σ.set i (some d))
def y6:Fgs:=λds σ=>match ds with
 |[]=>pure σ
 |_=>M.stuck
def U9(g:Fg)(r:Fgs):Fgs:=λds σ=>match ds with
 |d::t=>do r t (<-g d σ)
 |[]=>M.stuck
def F5(n:Nat)(g:Fgs):Fg:=λd σ=>match d with
 | .tup l=>if l.length=n then g l σ else M.stuck
 |_=>M.stuck
def v7(f:Fe)(g:Fg):Fs:=λσ=>do
 let d <-f σ
 let X1 <-g d σ
 pure (.nx X1)
section
variable(c:Wc)(Z:XC)
def FC(g:Fg):TG:=λv σ H Q=>∃d X9 μ G,d7 c μ H d v/\u9 c μ H X9 σ/\m8 c μ G H/\c7 c Z μ H (g d X9 G) λWV X2 _ H'=>∀ X1,u9 c X2 H' WV X1->Q X1 H'
def RF(g:Fgs):TGs:=λvs σ H Q=>∃ds X9 μ G,j6 c μ H ds vs/\u9 c μ H X9 σ/\m8 c μ G H/\c7 c Z μ H (g ds X9 G) λWV X2 _ H'=>∀ X1,u9 c X2 H' WV X1->Q X1 H'
end
theorem FC.elim{P:Prop}{v:V}{σ:St}{H:Hp}(h:FC c Z g v σ H Q)(k:∀d X9 μ G,d7 c μ H d v->u9 c μ H X9 σ->m8 c μ G H->c7 c Z μ H (g d X9 G) (λWV X2 _ H'=>∀ X1,u9 c X2 H' WV X1->Q X1 H')->P):P:=by obtain⟨e0,e1,e2,e3,e4,e5,e6,e7⟩:=h;exact k e0 e1 e2 e3 e4 e5 e6 e7
theorem RF.elim{Z:XC}{P:Prop}{σ:St}{H:Hp}(h:RF c Z g vs σ H Q)(k:∀ds X9 μ G,j6 c μ H ds vs->u9 c μ H X9 σ->m8 c μ G H->c7 c Z μ H (g ds X9 G) (λWV X2 _ H'=>∀ X1,u9 c X2 H' WV X1->Q X1 H')->P):P:=by obtain⟨e0,e1,e2,e3,e4,e5,e6,e7⟩:=h;exact k e0 e1 e2 e3 e4 e5 e6 e7
structure DG(X:Cx)(Z:XC)(tg:Expr)(g:Fg):Prop where
 h:PG X tg (FC (wc X) Z g)
structure DGs(X:Cx)(Z:XC)(tgs:List Expr)(g:Fgs):Prop where
 h:PGs X tgs (RF (wc X) Z g)
theorem PG.mono(h:PG X e t)(k:∀v σ H Q,t' v σ H Q->t v σ H Q):PG X e t':=λpins s σ H v u Q I r q=>h pins s σ H v u Q I r (k v σ H Q q)
theorem PGs.mono(h:PGs X e t)(k:∀v σ H Q,t' v σ H Q->t v σ H Q):PGs X e t':=λpins s σ H v u Q I r q=>h pins s σ H v u Q I r (k v σ H Q q)
theorem DG.of(h:PG X e t)(k:∀v σ H Q,FC (wc X) Z g v σ H Q->t v σ H Q):DG X Z e g:=⟨PG.mono h k⟩
theorem DGs.of(h:PGs X e t)(k:∀v σ H Q,RF (wc X) Z g v σ H Q->t v σ H Q):DGs X Z e g:=⟨PGs.mono h k⟩
section
variable{X:Cx}{Z:XC}{st:Stmt}{rest sa sb:List Stmt}{f g:Fs}
theorem vf:DB X Z [] t8:=DB.of Bj λE σ H rc=>rc.elim λX9 μ G s h p=>c7.ok p h σ s
theorem TV(h:m8 cc μ G H)
 (p:c7 cc Z μ H ((match fl with| .nx X1=>g X1|r=>pure r:M Fl) G) λfl X2 _ H'=>iB cc E fl X2 H'):iB cc {E with nx:=eB cc Z g E} fl μ H:=by
 cases fl with
 |nx X9=>exact λσ s=>⟨X9,μ,G,s,h,p⟩
 |rt d=>exact c7.ok p h
 |bk X9=>exact c7.ok p h
 |ct X9=>exact c7.ok p h
theorem QO(h1:DS X Z st f)(h2:DB X Z rest g):DB X Z (st::rest) (j5 f g):=
 DB.of (dl h1.h h2.h) λE σ H rc=>rc.elim λX9 μ G s h p=>⟨X9,μ,G,s,h,(c7.bind p).mono λfl X0 G1 H1 x' h1 p1=>TV h1 p1⟩
theorem iS(h1:DS X Z st f):DB X Z [st] f:=⟨hX h1.h⟩
theorem qf(he:DE X Z e fa)(hs:swapsWith e none pos.line X.env=pure false):DS X Z (.Expr e pos) (S5 fa):=
 DS.of (oX he.h hs) λE σ H rc=>rc.elim λX9 μ G s h p=>⟨X9,μ,G,s,h,(c7.bind p).mono λd X0 G1 H1 x' h1 p1 v rv=>c7.ok p1 h1 σ (s.mono x')⟩
theorem HX(he:DE X Z e fa):DS X Z (.Return (some e) pos) (o9 fa):=
 DS.of (GZ he.h) λE σ H rc=>rc.elim λX9 μ G s h p=>⟨X9,μ,G,s,h,(c7.bind p).mono λd X0 G1 H1 x' h1 p1 v rv=>c7.ok p1 h1 v rv⟩
theorem Lm(hc:DT X Z c t)(ha:DB X Z sa f)(hb:DB X Z sb g):DS X Z (.If c sa sb pos) (ifS t f g):=
 DS.of (ii hc.h ha.h hb.h) λE σ H rc=>rc.elim λX9 μ G s h p=>⟨X9,μ,G,s,h,(c7.bind p).mono λx X0 G1 H1 x' h1 p1=>by
  cases x with
  |true=>exact⟨X9,X0,G1,s.mono x',h1,p1⟩
  |false=>exact⟨X9,X0,G1,s.mono x',h1,p1⟩⟩
theorem RP{x:Str}(hN:X.N.Nodup)(hi:X.N[i]? =some x)(hx:Loc X.env.scope x)(hf:X.fn x=true\/X.env.scope.names.lookup x=some .local):DG X Z (.Name x pos) (S0 i):=
 DG.of (qV hN hi hx hf) λv σ H Q rc=>rc.elim λd X9 μ G r s h p=>c7.ok p h _ (s.put r i)
theorem Vz:DGs X Z [] y6:=DGs.of mw λvs σ H Q rc=>rc.elim λds X9 μ G r s h p=>by
 cases ds with
 |nil=>cases r;exact⟨rfl,c7.ok p h _ s⟩
 |cons _ _=>exact p.elim
theorem ik(h1:DG X Z e gg)(h2:DGs X Z es gr)(hs:(xG (e::es) X.env).map (·.2)=Xa e X.env::(xG es X.env).map (·.2)):DGs X Z (e::es) (U9 gg gr):=
 DGs.of (cq h1.h h2.h hs) λvs σ H Q rc=>rc.elim λds X9 μ G r s h p=>by
  cases ds with
  |nil=>exact p.elim
  |cons d t=>
    obtain⟨v,vr,rfl,rv,rt⟩:=r;exact⟨v,vr,rfl,d,X9,μ,G,rv,s,h,(c7.bind p).mono λdσ1 X0 G1 H1 x' h1 p1 WY s1=>⟨t,dσ1,X0,G1,rt.mono x',s1,h1,p1⟩⟩
theorem Gk{gs:Fgs}(hc:X.calm=true)(h:DGs X Z es gs)(hn:(xG es X.env).length=n)(hst:(xG es X.env).findIdx? (·.1)=none):DG X Z (.Tuple es k pos) (F5 n gs):=
 DG.of (nZ hc h.h hn hst) λv σ H Q rc=>rc.elim λd X9 μ G r s h p=>by
  cases d with
  |tup l=>
    unfold d7 at r;obtain⟨a,vs,rfl,q,rl⟩:=r;have p':c7 (wc X) Z μ H ((if l.length=n then gs l X9 else M.stuck:M DSt) G) λWV X2 _ H'=>∀ X1,u9 (wc X) X2 H' WV X1->Q X1 H':=p;split at p'
    ·rename_i hl;exact⟨a,vs,rfl,q,by rw[<-rl.length];exact hl,l,X9,μ,G,rl,s,h,p'⟩
    ·exact p'.elim
  |_=>exact p.elim
theorem rW(he:DE X Z e fa)(hg:DG X Z tg gg)(hs:swapsWithSole [tg] e pos.line X.env=pure false)(hw:swappedStores [tg] e X.env=pure none)
 (h1:(xG [tg] X.env).map (·.2)= [Xa tg X.env]):DS X Z (.Assign [tg] e pos) (v7 fa gg):=
 DS.of (Dv he.h hg.h hs hw h1) λE σ H rc=>rc.elim λX9 μ G s h p=>⟨X9,μ,G,s,h,(c7.bind p).mono λd X0 G1 H1 x' h1 p1 v rv=>
  ⟨d,X9,X0,G1,rv,s.mono x',h1,(c7.bind p1).mono λdσ2 WX G2 H2 x2 h2 p2 σ2 s2=>c7.ok p2 h2 σ2 s2⟩⟩
end
def K8:Nat->(DSt->M Bool)->Fs->Fs
 |0,_,_=>λ_=>M.stuck
 |n+1,t,b=>λσ=>do
   if <-t σ then
    match <-b σ with
    | .nx X1=>K8 n t b X1
    | .ct X1=>K8 n t b X1
    | .bk X1=>pure (.nx X1)
    | .rt d=>pure (.rt d)
   else pure (.nx σ)
open Classical in
def W0(t:DSt->M Bool)(b:Fs):Fs:=λσ G=>if h:∃n,(K8 n t b σ G).isSome=true then K8 (Xn h) t b σ G else none
theorem M.bind_mono{f g:α->M β}{r:Except Str β×DH}(h:(m >>= f) G=some r)(k:∀a G',f a G'=some r->g a G'=some r):(m >>= g) G=some r:=by
 rw[M.bind_eq]at h ⊢
 match m G,h with
 |some (.ok a,G'),h=>exact k a G' h
 |some (.error x,G'),h=>exact h
theorem iI{t:DSt->M Bool}:∀ {n} {σ} {G:DH} {r:Except Str Fl×DH},K8 n t b σ G=some r->K8 (n+1) t b σ G=some r
 |0,_,_,_,h=>by exact u6 h
 |n+1,σ,G,r,h=>by
   unfold K8 at h ⊢;refine M.bind_mono h λc G1 h1=>?_
   cases c with
   |true=>
     refine M.bind_mono h1 λfl G2 h2=>?_
     cases fl with
     |nx X1=>exact iI h2
     |ct X1=>exact iI h2
     |bk X1=>exact h2
     |rt d=>exact h2
   |false=>exact h1
theorem rP(hm:n<=m)(h:K8 n t b σ G=some r):K8 m t b σ G=some r:=by
 induction hm with
 |refl=>exact h
 |step _ ih=>exact iI ih
section
theorem Rh(hp:PassesOwn (zA X.prog X.w) X.A X.env X.xe)(hc:DT X Z c t)(hb:DB X Z body f):DS X Z (.While c body [] pos) (W0 t f):=
 DS.of (bW hp hc.h hb.h) λE σ H rc=>rc.elim λX9 μ G s h p=>by
  unfold W0 at p;split at p
  · rename_i ex;refine⟨λm σ H=>∃X9 μ G,u9 (wc X) μ H X9 σ/\m8 (wc X) μ G H/\c7 (wc X) Z μ H (K8 m t f X9 G) λfl X2 _ H'=>iB (wc X) E fl X2 H',⟨_,X9,μ,G,s,h,p⟩,?_⟩;rintro m σ H ⟨X9,μ,G,s,h,p⟩
    cases m with
    |zero=>exact p.elim
    |succ m=>
      refine⟨X9,μ,G,s,h,(c7.bind p).mono λx X0 G1 H1 x' h1 p1=>?_⟩
      cases x with
      |false=>exact c7.ok p1 h1 σ (s.mono x')
      |true=>
        refine⟨λX1 H'=>∃X9 μ G,u9 (wc X) μ H' X9 X1/\m8 (wc X) μ G H'/\c7 (wc X) Z μ H' (K8 m t f X9 G) λfl X2 _ H'=>iB (wc X) E fl X2 H',λX1 H' w=>⟨m,Zp _,w⟩,X9,X0,G1,s.mono x',h1,(c7.bind p1).mono λfl WX G2 H2 x2 h2 p2=>?_⟩
        cases fl with
        |nx WV=>exact λX1 s'=>⟨WV,WX,G2,s',h2,p2⟩
        |ct WV=>exact λX1 s'=>⟨WV,WX,G2,s',h2,p2⟩
        |bk WV=>exact λX1 s'=>c7.ok p2 h2 X1 s'
        |rt d=>exact λv r=>c7.ok p2 h2 v r
  ·exact p.elim
end
def B1(g:Fg)(b:Fs)(ck:DH->Bool):List D->Fs
 |[]=>λσ G=>if ck G then some (.ok (.nx σ),G)else none
 | d :: r => λσ G => if ck G then (do
    match <-b (<-g d σ) with
    | .nx X1=>B1 g b ck r X1
    | .ct X1=>B1 g b ck r X1
    | .bk X1=>pure (.nx X1)
    | .rt d=>pure (.rt d):M Fl) G else none
structure Src where
 items:List D
 ck:DH->Bool
def y3(it:DSt->M Src)(g:Fg)(b:Fs):Fs:=λσ=>do
 let s <-it σ
 B1 g b s.ck s.items σ
def ItD(c:Wc)(μ:List Addr)(H:Hp)(J:It)(s:Src):Prop:=∀ X2 G' H',Ext μ H X2 H'->m8 c X2 G' H'->s.ck G'=true->∀i:Nat,
 (∀d,s.items[i]? =some d->J.go i H'/\∀x H2,J.yld i H' x H2->Ext X2 H' X2 H2/\m8 c X2 G' H2/\d7 c X2 H2 d x)/\(s.items.length<=i->J.stop i H')
def mH(c:Wc)(Z:XC)(it:DSt->M Src):TI:=λσ H R=>∃X9 μ G,u9 c μ H X9 σ/\m8 c μ G H/\c7 c Z μ H (it X9 G) λs X2 _ H'=>∀J,ItD c X2 H' J s->R J H'
theorem mH.elim{P:Prop}{σ:St}{H:Hp}(h:mH c Z it σ H R)(k:∀X9 μ G,u9 c μ H X9 σ->m8 c μ G H->c7 c Z μ H (it X9 G) (λs X2 _ H'=>∀J,ItD c X2 H' J s->R J H')->P):P:=by obtain⟨e0,e1,e2,e3,e4,e5⟩:=h;exact k e0 e1 e2 e3 e4 e5
structure DI(X:Cx)(Z:XC)(tg e:Expr)(it:DSt->M Src):Prop where
 h:PI X tg e (mH (wc X) Z it)
theorem PI.mono(h:PI X tg e t)(k:∀ σ H R,t' σ H R->t σ H R):PI X tg e t':=λpins s σ H R I q=>h pins s σ H R I (k σ H R q)
theorem DI.of(h:PI X tg e t)(k:∀ σ H R,mH (wc X) Z it σ H R->t σ H R):DI X Z tg e it:=⟨PI.mono h k⟩
section
def dk(c:Wc)(E:fA)(fl:Fl)(μ:List Addr)(_:DH)(H:Hp):Prop:=iB c E fl μ H
inductive KS(c:Wc)(Z:XC)(gg:Fg)(f:Fs)(sr:Src)(E:fA)(X0:List Addr)(H1:Hp)(i:Nat)(σ:St)(H:Hp):Prop
 |mk (X9:DSt) (μ:List Addr) (G:DH) (k:Ext X0 H1 μ H) (s:u9 c μ H X9 σ) (h:m8 c μ G H) (p:c7 c Z μ H (B1 gg f sr.ck (sr.items.drop i) X9 G) (dk c E))
theorem DZ(hp:PassesOwn (zA X.prog X.w) X.A X.env X.xe)(hc:X.calm=true)(hi:DI X Z tg iter it)(hg:DG X Z tg gg)(hb:DB X Z body f)(hs:∀x,xm iter X.env x=pure x):
 DS X Z (.For tg iter body [] pos) (y3 it gg f):=
 DS.of (fm hp hc hi.h hg.h hb.h hs) λE σ H rc=>rc.elim λX9 μ G s h p=>⟨X9,μ,G,s,h,(c7.bind p).mono λsr X0 G1 H1 x' h1 p1 J hJ=>by
  refine⟨λi m X1 H'=>m=sr.items.length-i/\i<=sr.items.length/\KS (wc X) Z gg f sr E X0 H1 i X1 H',
   ⟨sr.items.length,rfl,zL _,X9,X0,G1,Ext.refl _ _,s.mono x',h1,p1⟩,?_⟩
  rintro i m X1 H' ⟨rfl,hi',WV,X2,G',k',s',h',p'⟩;by_cases sd:i<sr.items.length
  · rw[ZW sd]at p';unfold B1 at p';split at p'
    · rename_i ck;obtain⟨q1,_⟩:=hJ X2 G' H' k' h' ck i;obtain⟨go,yl⟩:=q1 _ (zq sd);refine .inr ⟨go,λσ2 H2=>KS (wc X) Z gg f sr E X0 H1 (i+1) σ2 H2,λσ2 H2 w=>⟨sr.items.length-(i+1),Xf _ _ sd,rfl,sd,w⟩,λx H2 y=>?_⟩;obtain⟨k2,h2,rx⟩:=yl x H2 y;have p2:=c7.bind (p'.from k2);refine⟨_,WV,X2,G',rx,s'.mono k2,h2,p2.mono λdσ3 WN G3 H3 x3 h3 p3 WJ s3=>?_⟩;refine⟨dσ3,WN,G3,s3,h3,(c7.bind p3).mono λfl WI G4 H4 x4 h4 p4=>?_⟩
      cases fl with
      |nx dσ4=>exact λσ4 s4=>⟨dσ4,WI,G4,k'.trans (k2.trans (x3.trans x4)),s4,h4,p4⟩
      |ct dσ4=>exact λσ4 s4=>⟨dσ4,WI,G4,k'.trans (k2.trans (x3.trans x4)),s4,h4,p4⟩
      |bk dσ4=>exact λσ4 s4=>c7.ok p4 h4 σ4 s4
      |rt d=>exact λv r=>c7.ok p4 h4 v r
    ·exact p'.elim
  · have e:i=sr.items.length:=Nat.le_antisymm hi' (Nat.le_of_not_lt sd);subst e;rw[List.drop_length]at p';unfold B1 at p';split at p'
    ·rename_i ck;obtain⟨_,q2⟩:=hJ X2 G' H' k' h' ck sr.items.length;exact .inl ⟨q2 (zh _),c7.ok p' h' X1 s'⟩
    ·exact p'.elim⟩
end
def L4(env:Env):List (Str×NameKind)->List (Str×Addr)->List (Str×Addr)
 |[],cs=>cs
 |(n,k)::r,cs=>L4 env r (if k == .free then (match env.cells.lookup n with|some c=>(n,c)::cs|none=>cs)else cs)
theorem NO:∀l cs,(∀p∈l,p.2= .free->∃c,env.cells.lookup p.1=some c)->
 (forIn l cs (fun(x:Str×NameKind) (cs:List (Str×Addr))=>(match x with|(name,kind)=>if (kind==NameKind.free)=true then do let c <-cellOf env name;pure (ForInStep.yield ((name,c)::cs))else pure (ForInStep.yield cs):Sem (ForInStep (List (Str×Addr))))):Sem (List (Str×Addr)))=pure (L4 env l cs)
 |[],cs,_=>rfl
 |(n,k)::r,cs,h=>by
  have ih:=λcs'=>NO r cs' λp hp=>h p (zl _ hp);rw[Zs];unfold L4;rcases hk:(k==NameKind.free)with _|_
  ·
    have e:(match ((n,k):Str×NameKind) with|(name,kind)=>if (kind==NameKind.free)=true then do let c <-cellOf env name;pure (ForInStep.yield ((name,c)::cs))else pure (ForInStep.yield cs):Sem (ForInStep (List (Str×Addr))))=pure (ForInStep.yield cs):=by show (if (k==NameKind.free)=true then _ else _)=_;rw[hk];rfl
    rw[e];exact ih cs
  ·
    obtain⟨c,hc⟩:=h (n,k) zv (by simpa using hk);have hcell:cellOf env n=pure c:=by unfold cellOf;rw[hc]
    have e:(match ((n,k):Str×NameKind) with|(name,kind)=>if (kind==NameKind.free)=true then do let c <-cellOf env name;pure (ForInStep.yield ((name,c)::cs))else pure (ForInStep.yield cs):Sem (ForInStep (List (Str×Addr))))=pure (ForInStep.yield ((n,c)::cs)):=by show (if (k==NameKind.free)=true then (do let c <-cellOf env n;pure (ForInStep.yield ((n,c)::cs)))else _)=_;rw[hk,hcell];rfl
    rw[e,hc];exact ih ((n,c)::cs)
theorem Cq(h:∀p∈scope.names,p.2= .free->∃c,env.cells.lookup p.1=some c):closureFor scope env=pure (L4 env scope.names []):=by have q:=NO scope.names [] h;unfold closureFor;dsimp only;rw[q];rfl
theorem gS:∀l cs,(cs.lookup x=some c->env.cells.lookup x=some c)->(L4 env l cs).lookup x=some c->env.cells.lookup x=some c
 |[],cs,h,e=>h e
 |(n,k)::r,cs,h,e=>by
  unfold L4 at e;refine gS r _ (λe1=>?_) e;split at e1
  · split at e1
    · rename_i c' hc;rw[yV]at e1;split at e1
      · rename_i hx;have hx':x=n:=by simpa using hx
        subst hx'
        cases e1
        exact hc
      ·exact h e1
    ·exact h e1
  ·exact h e1
theorem T4(h:(L4 env l []).lookup x=some c):env.cells.lookup x=some c:=gS l [] (λz=>by exact u6 z) h
theorem cO:∀l cs,(∃c,cs.lookup x=some c)->∃c,(L4 env l cs).lookup x=some c
 |[],cs,h=>h
 |(n,k)::r,cs,h=>by
  unfold L4;refine cO r _ ?_;split
  · split
    · rename_i c' hc;rw[yV];split
      ·exact⟨_,rfl⟩
      ·exact h
    ·exact h
  ·exact h
theorem IK(hc:env.cells.lookup x=some c):∀l cs,(x,NameKind.free)∈l->∃c,(L4 env l cs).lookup x=some c
 |[],cs,h=>by simp at h
 |(n,k)::r,cs,h=>by
  unfold L4;rcases zr.mp h with e|h
  · cases e
    refine cO r _ ?_;rw[hc];simp
  ·exact IK hc r _ h
section
theorem gf(I:Nat->zw->Prop)
 (turn:∀n s,I n s->zo (zA prog w) A (xf it) (λr W1=>match r with
   |none=>R (.ok .next) W1
   | some v => zo (zA prog w) A (Zg target it v) (λ_ s₁' => zo (zA prog w) A (Xa target env v) (λ_ s₂ =>
      zo (zA prog w) A (forIn ifs true λc r=>if r=true then do let ok <-isTrue c env (eval c env);pure (ForInStep.yield ok)else pure (ForInStep.yield r)) (λok s₃=>
       if ok=true then zo (zA prog w) A (eval elt env) (λx s₄=>
        zo (zA prog w) A (call (.builtin "list.append") [rz,x]) (λ_ s₅=>∃m,m<n/\I m s₅) (λ_ _=>False) s₄) (λ_ _=>False) s₃
       else ∃m,m<n/\I m s₃) (λ_ _=>False) s₂) (λ_ _=>False) s₁') (λ_ _=>False) W1) (λ_ _=>False) s)
 (n:Nat) (h:I n s):
 xZ (zA prog w) A (.compLoop (.ListComp elt [⟨target,iter,ifs,0⟩] scope pos) 0 it rz env) R s:=by
 refine codeAny_loop rfl I (λn s hI=>?_) n h;show zo _ A ((compTurn (.ListComp elt [⟨target,iter,ifs,0⟩] scope pos) 0 it rz env).onRaise (λx=>do noteFrame x env;theTreesLotGoes x)) _ _ s;refine wpAny_noted ?_;rw[compTurn_list];refine za (YB (za (jE (turn n s hI) (λr W1 h₁=>?_) λ_ _ h'=>h'.elim)));rcases r with _|v
 ·exact ze h₁
 ·
   refine za (jE h₁ (λ_ s₁' h₁'=>?_) λ_ _ h'=>h'.elim);refine za (jE h₁' (λ_ s₂ h₂=>za (jE h₂ (λok s₃ h₃=>?_) λ_ _ h'=>h'.elim)) λ_ _ h'=>h'.elim);rcases ok with _|_
   ·
     exact ze ⟨rfl,h₃⟩
   ·
     exact za (za (jE h₃ (λx s₄ h₄=>za (jE h₄ (λ_ s₅ h₅=>ze (ze ⟨rfl,h₅⟩)) λ_ _ h'=>h'.elim)) λ_ _ h'=>h'.elim))
end
def N6(X:Cx)(scope:Scope)(N:List Str)(C:Addr)(s:zw)(H:Hp)(ex:List Addr):Cx where
 prog:=X.prog
 w:=X.w
 K:=X.K
 mg:=X.mg
 base:=X.base
 A:=X.A
 N:=N
 WW:=s
 H₀:=H
 env:=compEnvC scope (L4 X.env scope.names []) C X.env
 outer:=X.stack
 stack:=X.stack
 ex:=ex
 fn:=λ_=>false
 calm:=X.calm
 pn:= []
 xe:=λ_ _=>False
structure S3(X:Cx)(scope:Scope)(N:List Str)(caps:List (Option Nat)):Prop where
 kind:scope.kind= .function
 cell:∀y∈scope.names,y.2≠ .cell
 names:∀y∈scope.names,y.2= .local->scope.names.lookup y.1=some .local
 free:∀y∈scope.names,y.2= .free->X.env.kindOf y.1=some .cell\/X.env.kindOf y.1=some .free
 frees:∀y∈scope.names,y.2= .free->scope.names.lookup y.1=some .free
 len:caps.length=N.length
 caps:∀(i j:Nat),caps[i]? =some (some j)->∃x,N[i]? =some x/\X.N[j]? =some x/\(x,NameKind.free)∈scope.names
def Z8{α:Type}(caps:List (Option Nat))(σ:List (Option α)):List (Option α):=caps.map λo=>o.bind λj=>(σ[j]?).join
theorem tI{env:Env}:∀names:List (Str×NameKind),(names.map fun(n,k)=>if (k==NameKind.free&&env.scope.kind == .function&&env.kindOf n==some .cell)then (n,NameKind.cell)else (n,k)).lookup x=
 (names.lookup x).map λk=>if (k==NameKind.free&&env.scope.kind == .function&&env.kindOf x==some .cell)then NameKind.cell else k
 |[]=>rfl
 |(n,k)::r=>by
  have ih:=tI (env:=env) (x:=x) r;rw[zH];by_cases hx:x=n
  · subst hx;dsimp only;split
    ·rename_i h;simp[yV];simp at h;simp[h]
    ·rename_i h;simp[yV];simp at h;intro a b c;exact absurd c (h a b)
  · have hb:(x==n)=false:=by simpa using hx
    dsimp only;split
    ·rw[yV,yV,hb];exact ih
    ·rw[yV,yV,hb];exact ih
section
variable{X:Cx}{scope:Scope}{N:List Str}{caps:List (Option Nat)}
theorem S3.isFree(k:S3 X scope N caps){x:Str}(h:(relabel scope X.env).names.lookup x=some .cell\/(relabel scope X.env).names.lookup x=some .free):(x,NameKind.free)∈scope.names:=by
 have e:(relabel scope X.env).names.lookup x= (scope.names.lookup x).map λk=>if (k==NameKind.free&&X.env.scope.kind == .function&&X.env.kindOf x==some .cell)then NameKind.cell else k:=tI scope.names;rw[e]at h;rcases hl:scope.names.lookup x with _|kd
 ·rw[hl]at h;rcases h with h|h<;>exact u6 h
 ·
   rw[hl]at h;have hm:=xk hl;have hn:=k.cell _ hm;simp only[Zq]at h
   cases kd with
   |free=>exact hm
   |cell=>exact absurd rfl hn
   |_=>rcases h with h|h<;>simp at h
theorem S3.cells(k:S3 X scope N caps)(ok:X.Ok):∀p∈scope.names,p.2= .free->∃c,X.env.cells.lookup p.1=some c:=λp hp e=>ok.has p.1 (k.free p hp e)
theorem BW(I:Inv X pins σ H s)(k:S3 X scope N caps)(hC:s.heap.objs.size<=C)(ud:∀b∈ex,A1 X pins H b)(sd:∀b∈ex,b<s.heap.objs.size):(N6 X scope N C s H ex).Ok where
 mod:=I.ok.mod
 kind:=k.kind
 glob:=I.ok.glob
 blt:=I.ok.blt
 above:=hC
 inj:=λx y c h1 h2=>I.ok.inj x y c (T4 h1) (T4 h2)
 has:=λx hx=>by have hm:=k.isFree hx;obtain⟨c,hc⟩:=k.cells I.ok _ hm rfl;exact IK hc _ _ hm
 cab:=λx c h=>by exact EF h
 hd:=I.ok.hd
 frames:=I.ok.frames
 stk:=.inl rfl
 exf:=λb hb=>⟨zC (jc (sd b hb) hC),λx c e=>(ud b hb).2.2.2.2.1 x c (T4 e)⟩
 bs:=I.bs
 bsz:=zS I.ok.bsz I.sz
 noex:=λb o e hb=>by
  rcases (ud b hb).2.2.2.1 with z|z
  ·exact I.ok.noex b o e z
  ·exact absurd (jc (zt (I.ok.bs b o e).1) z) (yU _)
 exfs:=λb hb z=>by
  rcases zr.mp (I.stkSub b z)with e|e
  ·exact(ud b hb).2.1 e
  ·exact(ud b hb).2.2.1 e
 funs:=I.stack
 frf:=I.stkFree
 gd:=I.ok.gd
theorem dL{σ:List (Option α)}{i:Nat}(h:(Z8 caps σ)[i]? =some (some v)):∃j,caps[i]? =some (some j)/\σ[j]? =some (some v):=by
 unfold Z8 at h;rw[jp]at h;rcases e:caps[i]? with _|o
 ·rw[e]at h;exact u6 h
 ·
   rw[e]at h;rcases o with _|j
   ·cases h
   ·
     refine⟨j,rfl,?_⟩;simp only[Zq,Option.bind_some,zQ]at h;rcases e2:σ[j]? with _|w
     ·rw[e2]at h;exact u6 h
     ·rw[e2]at h;simp at h;rw[h]
theorem BV{h₁:Heap}{tk:Nat}(I:Inv X pins σ H s)(k:S3 X scope N caps)(hC:s.heap.objs.size<C)(ud:∀b∈ex,A1 X pins H b)(sd:∀b∈ex,b<s.heap.objs.size)
 (old:∀b o,s.heap.get? b=some o->h₁.get? b=some o) (hns:h₁.Ns C λ_=>none) (sv:h₁.get? s.heap.objs.size=some {cls:=.type "list",data:=.seq ([]:List zg).toArray 0}):
 Inv (N6 X scope N C s H ex) [] (Z8 caps σ) (upd H s.heap.objs.size (.lst [])) {s with heap:=h₁,toks:=tk}:=by
 have hD:H s.heap.objs.size=none:=I.hok.fresh (zh _);refine⟨BW I k (yT hC) ud sd,rfl,I.bare,Un.laid old (zh _) hD,⟨_,hns,λi x v h1 h2 h3=>?_⟩,λx c e=>?_,?_,λx c e=>?_,λp hp=>absurd (show p∈([]:PNS)from hp) (by simp),?_,?_⟩
 · obtain⟨j,e1,e2⟩:=dL h2;obtain⟨y,e3,e4,e5⟩:=k.caps i j e1;have exy:y=x:=by
    have:some y=some x:=e3.symm.trans h1;exact js this
   subst exy;have hk:=k.free _ e5 rfl;obtain⟨m,hn,hl⟩:=I.loc;obtain⟨u,r,l⟩:=hl j y v e4 e2 (by rcases hk with z|z;exact .inr (.inl z);exact .inr (.inr z));refine⟨u,r,.inr ?_⟩;rcases l with⟨z,_⟩|⟨_,c,ec,hc⟩
   ·rcases hk with z'|z'<;>(rw[z]at z';cases z')
   · refine⟨?_,c,?_,?_⟩
     · rcases h3 with h3|h3|h3
       ·exfalso;have e:(relabel scope X.env).names.lookup y= (scope.names.lookup y).map λk=>if (k==NameKind.free&&X.env.scope.kind == .function&&X.env.kindOf y==some .cell)then NameKind.cell else k:=tI scope.names;have h3':(relabel scope X.env).names.lookup y=some .local:=h3;rw[e]at h3';rw[k.frees _ e5 rfl]at h3';simp only[Zq]at h3';split at h3'<;>cases h3'
       ·exact .inl h3
       ·exact .inr h3
     · obtain⟨c',ec'⟩:=IK ec scope.names [] e5;have:=T4 ec';rw[ec]at this
       cases this
       exact ec'
     ·obtain⟨o,ho,hd⟩:=hc;exact⟨o,old _ _ ho,hd⟩
 ·obtain⟨v,o,ho,hd⟩:=I.cell x c (T4 e);exact⟨v,o,old _ _ ho,hd⟩
 ·show upd H s.heap.objs.size (.lst []) C=none;rw[o5 (xj hC)];exact I.hok.fresh (yT hC)
 ·obtain⟨v,o,ho,hd⟩:=I.cell x c (T4 e);rw[o5 (zC (zt ho))];exact I.freeC x c (T4 e)
 ·exact I.hok.laid old (zh _) ⟨zL _, [],0,.nil,sv⟩
 ·show (Z8 caps σ).length=N.length;unfold Z8;rw[zf];exact k.len
theorem gX(I:Inv X pins σ H s)(ud:∀b∈ex,A1 X pins H b)(hC:s.heap.objs.size<C)
 (I':Inv (N6 X scope N C s H ex) pins' X1 H' s') (sb:yA C s'.heap h'):Inv X pins σ H' {s' with heap:=h'}:=by
 have hos:s'.os=s.os:=I'.os;have hfree:H' C=none:=I'.free;have neC:∀b o,s.heap.get? b=some o->b≠C:=λb o e z=>by have:=zt e;rw[z]at this;exact absurd (Zi hC this) (yU _)
 have hun:Un (frs X.stack) ex H H' s.heap s'.heap:=I'.base;have hun2:Un (frs X.stack) ex H H' s.heap h':=by
  refine⟨λb o e n hb hx=>(sb.2 b (neC b o e)).trans (hun.keep b o e n hb hx),λb o e n hb hx=>?_,hun.free,λb o e hx=>?_,hun.tups,hun.frzs,hun.tbls⟩
  ·obtain⟨sl,q⟩:=hun.slot b o e n hb hx;exact⟨sl,(sb.2 b (neC b o e)).trans q⟩
  ·obtain⟨o',q⟩:=hun.there b o e hx;exact⟨o',(sb.2 b (neC b o e)).trans q⟩
 have hok2:HOk X.prog X.w H' h':=λa o e=>by
  have nc:∀c u,H' c=some u->c≠C:=λc u q z=>by rw[z,hfree]at q;exact u6 q
  refine(I'.hok a o e).stay (λb u hb q=>?_) (λ_ q=>q) λ_ _ q=>q;rcases hb with rfl|hb
  ·exact(sb.2 b (nc b o e)).trans q
  ·exact(sb.2 b (nc b _ hb)).trans q
 obtain⟨hh,g,d,t,os'⟩:=s';obtain rfl:os'=s.os:=hos;have fin:=I.call (d':=d) (t':=t) hun2 hok2 I'.bare λb hb=>⟨(ud b hb).2.2.2.1,(ud b hb).2.1,(ud b hb).2.2.2.2.1,(ud b hb).2.2.2.2.2⟩;exact fin
end
def hide(q:Addr)(H:Hp):Hp:=λb=>if b=q then none else H b
theorem BB:hide q H q=none:=by unfold hide;rw[if_pos rfl]
theorem Q3(h:b≠q):hide q H b=H b:=by unfold hide;rw[if_neg h]
theorem N5(h:hide q H b=some o):b≠q/\H b=some o:=by
 by_cases e:b=q
 ·rw[e,BB]at h;exact u6 h
 ·rw[Q3 e]at h;exact⟨e,h⟩
theorem Gf(h:H q=some o):upd (hide q H) q o=H:=by
 funext b;by_cases e:b=q
 ·rw[e,K7,h]
 ·rw[o5 e,Q3 e]
theorem oD:hide q (upd H q o)=hide q H:=by
 funext b;by_cases e:b=q
 ·rw[e,BB,BB]
 ·rw[Q3 e,Q3 e,o5 e]
theorem kF(h:H q=none):hide q H=H:=by
 funext b;by_cases e:b=q
 ·rw[e,BB,h]
 ·rw[Q3 e]
section
mutual
theorem d7.sq(k:∀a xs,SqT c.K H a xs->SqT c.K H' a xs):∀ {d} {v},d7 c μ H d v->d7 c μ H' d v
 | .non,_,h=>h
 | .bl _,_,h=>h
 | .int _,_,h=>h
 | .str _,_,h=>h
 | .ty _,_,h=>h
 | .fn _,_,h=>h
 | .ref i,v,h=>by unfold d7 at h ⊢;exact h
 | .tup l,v,h=>by unfold d7 at h ⊢;obtain⟨a,vs,e,q,r⟩:=h;exact⟨a,vs,e,k _ _ q,j6.sq k r⟩
theorem j6.sq(k:∀a xs,SqT c.K H a xs->SqT c.K H' a xs):∀ {l} {vs},j6 c μ H l vs->j6 c μ H' l vs
 |[],_,h=>h
 |d::ds,vs,h=>by unfold j6 at h ⊢;obtain⟨v,r,e,q,t⟩:=h;exact⟨v,r,e,d7.sq k q,j6.sq k t⟩
end
theorem V0.sq(k:∀a xs,SqT c.K H a xs->SqT c.K H' a xs):∀ {l} {vs},V0 c μ H l vs->V0 c μ H' l vs
 |[],_,h=>h
 |(_,d)::ds,vs,h=>by obtain⟨v,r,e,q,t⟩:=h;exact⟨v,r,e,d7.sq k q,V0.sq k t⟩
theorem dB(hq:H q=some (.lst vs)){K:zj}(a:Addr)(xs:List V)(h:SqT K H a xs):SqT K (hide q H) a xs:=by
 rcases h with(h|⟨o,h⟩)|h
 ·exact .inl (.inl (by rw[Q3 (λe=>by rw[e,hq]at h;cases h)];exact h))
 ·exact .inl (.inr ⟨o,by rw[Q3 (λe=>by rw[e,hq]at h;cases h)];exact h⟩)
 ·exact .inr h
theorem SD{K:zj}(a:Addr)(xs:List V)(h:SqT K (hide q H) a xs):SqT K H a xs:=by
 rcases h with(h|⟨o,h⟩)|h
 ·exact .inl (.inl (N5 h).2)
 ·exact .inl (.inr ⟨o,(N5 h).2⟩)
 ·exact .inr h
theorem u9.sq(k:∀a xs,SqT c.K H a xs->SqT c.K H' a xs)(h:u9 c μ H X9 σ):u9 c μ H' X9 σ:=⟨h.1,λi d e=>let ⟨v,a,b⟩:=h.2 i d e;⟨v,a,b.sq k⟩⟩
theorem Ext.hide(x:Ext μ H X2 H')(n:q∉μ)(hq:H q=some (.lst vs)):H' q=some (.lst vs)/\q∉X2/\Ext μ (DL.hide q H) X2 (DL.hide q H'):=by
 refine⟨x.oth q _ hq n,λh=>?_,x.pre,λa h1 h2=>?_,λb o e nb=>?_,λb xs e=>?_,λb o u e=>?_⟩
 ·have:=x.new q h n;rw[hq]at this;exact fH this
 · by_cases e:a=q
   ·rw[e,BB]
   ·rw[Q3 e];exact x.new a h1 h2
 ·obtain⟨e1,e2⟩:=N5 e;rw[Q3 e1];exact x.oth b o e2 nb
 ·obtain⟨e1,e2⟩:=N5 e;rw[Q3 e1];exact x.tup b xs e2
 ·obtain⟨e1,e2⟩:=N5 e;rw[Q3 e1];exact x.frz b o u e2
theorem Ext.unhide(x:Ext μ H X2 (DL.hide q H')):Ext μ H X2 H':=
 ⟨x.pre,x.new,λb o e n=>(N5 (x.oth b o e n)).2,λb xs e=>(N5 (x.tup b xs e)).2,λb o u e=>(N5 (x.frz b o u e)).2⟩
theorem m8.hide(h:m8 c μ G H)(n:q∉μ)(hq:H q=some (.lst vs)):m8 c μ G (DL.hide q H):=
 ⟨h.len,h.inj,λi o a g m=>by
  have na:a≠q:=λe=>n (by rw[<-e];exact jK m);have r:=h.obj i o a g m
  cases o with
  |lst l=>obtain⟨ws,e,r⟩:=r;exact⟨ws,by rw[Q3 na];exact e,r.sq (dB hq)⟩
  |dct l=>obtain⟨ws,e,r⟩:=r;exact⟨ws,by rw[Q3 na];exact e,r.sq (dB hq)⟩
  |rod l=>obtain⟨ws,o,e,r⟩:=r;exact⟨ws,o,by rw[Q3 na];exact e,r.sq (dB hq)⟩
  |rol l=>
    obtain⟨ws,e,r⟩:=r;refine⟨ws,?_,r.sq (dB hq)⟩;rcases e with⟨o,e⟩|e
    ·exact .inl ⟨o,by rw[Q3 na];exact e⟩
    ·exact .inr e⟩
theorem m8.unhide(h:m8 c μ G (DL.hide q H)):m8 c μ G H:=
 ⟨h.len,h.inj,λi o a g m=>by
  have r:=h.obj i o a g m
  cases o with
  |lst l=>obtain⟨ws,e,r⟩:=r;exact⟨ws,(N5 e).2,r.sq SD⟩
  |dct l=>obtain⟨ws,e,r⟩:=r;exact⟨ws,(N5 e).2,r.sq SD⟩
  |rod l=>obtain⟨ws,o,e,r⟩:=r;exact⟨ws,o,(N5 e).2,r.sq SD⟩
  |rol l=>
    obtain⟨ws,e,r⟩:=r;refine⟨ws,?_,r.sq SD⟩;rcases e with⟨o,e⟩|e
    ·exact .inl ⟨o,(N5 e).2⟩
    ·exact .inr e⟩
inductive UH{α:Type}(c:Wc)(q:Addr)(vs:List V)(μ:List Addr)(H:Hp)(K:α->List Addr->DH->Hp->Prop)(a:α)(X2:List Addr)(G':DH)(H':Hp):Prop
 |mk (e:H' q=some (.lst vs)) (n:q∉X2) (h:m8 c X2 G' (DL.hide q H')) (x:Ext μ (DL.hide q H) X2 (DL.hide q H')) (k:K a X2 G' (DL.hide q H'))
theorem c7.unhide{r:Option (Except Str α×DH)}{K:α->List Addr->DH->Hp->Prop}(n:q∉μ)(hq:H q=some (.lst vs))(p:c7 c ZF μ (DL.hide q H) r K):
 c7 c Z μ H r (UH c q vs μ H K):=by
 match r,p with
 |some (.ok a,G'),p=>
   intro X2 H' x h;obtain⟨e1,e2,e3⟩:=x.hide n hq;have h2:=h.hide e2 e1;exact⟨e1,e2,h2,e3,p X2 _ e3 h2⟩
 |some (.error z,G'),p=>
   intro X2 H' x h;obtain⟨e1,e2,e3⟩:=x.hide n hq;exact(p X2 _ e3 (h.hide e2 e1)).elim
theorem m8.mem_lt(I:Inv X pins σ H s)(h:m8 (wc X) μ G H)(ha:a∈μ):a<s.heap.objs.size:=by
 obtain⟨i,hi⟩:=List.getElem?_of_mem ha;have hl:i<G.length:=by rw[<-h.len];exact lt_of_get hi
 have r:=h.obj i G[i] a (zq hl) hi;rcases e:G[i]with l|l|l|l
 ·rw[e]at r;obtain⟨_,e,_⟩:=r;exact I.hok.lt e
 ·
   rw[e]at r;obtain⟨ws,e,_⟩:=r;rcases e with⟨o,e⟩|e
   ·exact I.hok.lt e
   · rcases e with(e|⟨o,e⟩)|⟨o,qu,n,e,_⟩
     ·exact u6 e
     ·exact u6 e
     ·exact zt (I.kIn a o e)
 ·rw[e]at r;obtain⟨_,e,_⟩:=r;exact I.hok.lt e
 ·rw[e]at r;obtain⟨_,_,e,_⟩:=r;exact I.hok.lt e
end
def PTs(X:Cx)(ifs:List Expr)(t:TT):Prop:=
 ∀(pins:PNS) (s:zw) (σ:St) (H:Hp) (Q:Bool->Hp->Prop),Inv X pins σ H s->t σ H Q->
  zo (zA X.prog X.w) X.A (forIn ifs true λc r=>if r=true then do let ok <-isTrue c X.env (eval c X.env);pure (ForInStep.yield ok)else pure (ForInStep.yield r)) (TP X pins σ Q) X.xe s
structure DTs(X:Cx)(Z:XC)(ifs:List Expr)(f:DSt->M Bool):Prop where
 h:PTs X ifs (WA (wc X) Z f)
def V4:DSt->M Bool:=λ_=>pure true
theorem OU:DTs X Z [] V4:=⟨λpins s σ H Q I rc=>rc.elim λX9 μ G sr h p=>wpAny_tests_nil ⟨H,I,c7.ok p h⟩⟩
theorem ni(h:DT X Z c t):DTs X Z [c] t:=⟨λpins s σ H Q I q=>wpAny_tests_one (h.h pins s σ H Q I q)⟩
def J7(g:Fg)(t:DSt->M Bool)(e:Fe)(ck:DH->Bool):List D->DSt->M (List D)
 |[]=>λ_ G=>if ck G then some (.ok [],G)else none
 | d :: r => λσ G => if ck G then (do
    let WY <-g d σ
    if <-t WY then do
     let y <-e WY
     let ys <-J7 g t e ck r WY
     pure (y::ys)
    else J7 g t e ck r WY:M (List D)) G else none
def M6(it:DSt->M Src)(caps:List (Option Nat))(g:Fg)(t:DSt->M Bool)(e:Fe):Fe:=λσ=>do
 let s <-it σ
 if s.items.length<=zi then do
  let ys <-noX (J7 g t e s.ck s.items (Z8 caps σ))
  J5 (.lst ys)
 else M.stuck
theorem dh(h:u9 c μ H X9 σ):u9 c μ H (Z8 caps X9) (Z8 caps σ):=by refine⟨by simp[Z8],λi d e=>?_⟩;obtain⟨j,e1,e2⟩:=dL e;obtain⟨v,e3,r⟩:=h.2 j d e2;refine⟨v,?_,r⟩;unfold Z8;rw[jp,e1];simp[e3]
section
set_option maxHeartbeats 1000000 in
def CKV(c:Wc)(Q:VK)(d:D)(X2:List Addr)(_:DH)(H':Hp):Prop:=∀v,d7 c X2 H' d v->Q v H'
def CKR(c:Wc)(Z:XC)(Q:VK)(ys rest:List D)(μ:List Addr)(G:DH)(H:Hp):Prop:=c7 c Z μ H (J5 (.lst (ys++rest)) G) (CKV c Q)
def RN(gg:Fg)(tt:DSt->M Bool)(fe:Fe)(ck:DH->Bool)(items:List D)(σ:DSt)(y:D):M (List D):=do let ys <-J7 gg tt fe ck items σ;pure (y::ys)
def bQ(gg:Fg)(tt:DSt->M Bool)(fe:Fe)(ck:DH->Bool)(items:List D)(σ:DSt)(b:Bool):M (List D):=if b=true then (do let y <-fe σ;let ys <-J7 gg tt fe ck items σ;pure (y::ys))else J7 gg tt fe ck items σ
def Sf(gg:Fg)(tt:DSt->M Bool)(fe:Fe)(ck:DH->Bool)(items:List D)(σ:DSt):M (List D):=do if <-tt σ then do {let y <-fe σ;let ys <-J7 gg tt fe ck items σ;pure (y::ys)}else J7 gg tt fe ck items σ
inductive CG(X:Cx)(Z:XC)(Q:VK)(vs:List V)(DD:Addr)(ys:List D)(X2:List Addr)(H5:Hp)(m:DSt->M (List D))(WQ:St)(H6:Hp):Prop
 |mk (WT:DSt) (μ6:List Addr) (G6:DH) (s:u9 (wc X) μ6 H6 WT WQ) (h:m8 (wc X) μ6 G6 H6) (u:UH (wc X) DD vs X2 H5 (λX9 μ G H=>c7 (wc X) ZF μ H (m X9 G) (CKR (wc X) Z Q ys)) WT μ6 G6 H6)
inductive CT(X:Cx)(Z:XC)(Q:VK)(vs:List V)(DD:Addr)(ys:List D)(WT:DSt)(WQ:St)(μ6:List Addr)(H6:Hp)(m:Bool->M (List D))(b:Bool)(H7:Hp):Prop
 |mk (WM:List Addr) (G7:DH) (s:u9 (wc X) WM H7 WT WQ) (h:m8 (wc X) WM G7 H7) (u:UH (wc X) DD vs μ6 H6 (λb μ G H=>c7 (wc X) ZF μ H (m b G) (CKR (wc X) Z Q ys)) b WM G7 H7)
inductive CE(X:Cx)(Z:XC)(Q:VK)(vs:List V)(DD:Addr)(ys:List D)(WT:DSt)(WQ:St)(WM:List Addr)(H7:Hp)(m:D->M (List D))(v:V)(H8:Hp):Prop
 |mk (y:D) (μ8:List Addr) (G8:DH) (r:d7 (wc X) μ8 H8 y v) (s:u9 (wc X) μ8 H8 WT WQ) (h:m8 (wc X) μ8 G8 H8) (u:UH (wc X) DD vs WM H7 (λy μ G H=>c7 (wc X) ZF μ H (m y G) (CKR (wc X) Z Q ys)) y μ8 G8 H8)
inductive OH(Y:Cx)(Z:XC)(Q:VK)(gg:Fg)(tt:DSt->M Bool)(fe:Fe)(src:Src)(fp:List Addr)(tn:Nat->Heap->Prop)(DD:Addr)(WX:List Addr)(H2:Hp)(n:Nat)(s':zw):Prop
 |mk (i:Nat) (ys:List D) (vs:List V) (X1:St) (H':Hp) (WV:DSt) (X2:List Addr) (G':DH) (e:n=src.items.length-i) (hi:i<=src.items.length) (hv:vs.length<=i)
    (I:Inv Y [] X1 H' s') (st:tn i s'.heap) (fr:∀b∈fp,H' b=none) (hs:H' DD=some (.lst vs)) (nD:DD∉X2)
    (x:Ext WX H2 X2 (hide DD H')) (h:m8 (wc Y) X2 G' (hide DD H')) (sr:u9 (wc Y) X2 (hide DD H') WV X1) (rl:j6 (wc Y) X2 (hide DD H') ys vs)
    (p:c7 (wc Y) ZF X2 (hide DD H') (J7 gg tt fe src.ck (src.items.drop i) WV G') (CKR (wc Y) Z Q ys))
theorem Sj{Y:Cx}{Q:VK}{src:Src}{tn:Nat->Heap->Prop}{DD it:Addr}{H2:Hp}{J:It}{R:Result->zw->Prop}(hcX:Y.calm=true)(hg:DG Y ZF tg gg)(ht:DTs Y ZF ifs tt)(he:DE Y ZF elt fe)(T:f8 Y.prog Y.w Y.K tg J fp it tn)
 (fpX:∀(H':Hp) (b:Addr),b∈fp->H' b=none->A1 Y [] H' b) (hJ:ItD (wc Y) WX H2 J src) (re:src.items.length<=zi) (fin:∀(H':Hp) (X1:St) (s4:zw),Inv Y [] X1 H' s4->Q (.ref DD) H'->R (.ok .next) s4) (n:Nat) (s':zw) (h:OH Y Z Q gg tt fe src fp tn DD WX H2 n s') {NX:zw->Prop} (nx:∀m s,m<n->OH Y Z Q gg tt fe src fp tn DD WX H2 m s->NX s):
 zo (zA Y.prog Y.w) Y.A (xf (.ref it)) (λr W1=>match r with
  |none=>R (.ok .next) W1
  | some v => zo (zA Y.prog Y.w) Y.A (Zg tg (.ref it) v) (λ_ s₁' => zo (zA Y.prog Y.w) Y.A (Xa tg Y.env v) (λ_ s₂ =>
     zo (zA Y.prog Y.w) Y.A (forIn ifs true λc r=>if r=true then do let ok <-isTrue c Y.env (eval c Y.env);pure (ForInStep.yield ok)else pure (ForInStep.yield r)) (λok s₃=>
      if ok=true then zo (zA Y.prog Y.w) Y.A (eval elt Y.env) (λx s₄=>
       zo (zA Y.prog Y.w) Y.A (call (.builtin "list.append") [.ref DD,x]) (λ_ s₅=>NX s₅) Y.xe s₄) Y.xe s₃
      else NX s₃) Y.xe s₂) Y.xe s₁') Y.xe W1) Y.xe s':=by
 obtain⟨i,ys,vs,X1,H',WV,X2,G',rfl,hi',hvl,I',sh,fr',hvs,nD',x',h',sr',rl,p'⟩:=h;by_cases sd:i<src.items.length
 · rw[ZW sd]at p';unfold J7 at p';split at p'
   case isFalse=>exact p'.elim
   rename_i ck;obtain⟨q1,_⟩:=hJ X2 G' H' x'.unhide h'.unhide ck i;obtain⟨go,yl⟩:=q1 _ (zq sd);refine thn (T.item (Y) rfl rfl rfl hcX i [] s' X1 H' Y.xe I' (λb hb=>fpX H' b hb (fr' b hb)) sh go) λr s4 z4=>?_;obtain⟨u,rfl,h4⟩:=z4;refine thn h4 λ_ s5 z5=>?_;obtain⟨x,H5,I5,r5,y5,st5,fr5⟩:=z5;obtain⟨k5,h5,rx5⟩:=yl x H5 y5;obtain⟨e5,n5,k5'⟩:=k5.hide nD' hvs;have I5':=I5.pinned (λb hb=>fpX H5 b hb (fr5 b hb)) (T.obj _ _ st5);have keepIt:∀ {WP:St} {H7:Hp} {s7:zw},Inv (Y) ([]++WD fp s5.heap) WP H7 s7->Inv (Y) [] WP H7 s7/\tn (i+1) s7.heap/\∀b∈fp,H7 b=none:=λ{WP H7 s7} I7=>by refine⟨I7.unpinned,T.keep _ _ _ st5 λb hb o e=>(I7.pin (b,o) (zN _ (zN _ (V9 hb e)))).1,λb hb=>?_⟩;obtain⟨o,e,d⟩:=T.obj _ _ st5 b hb;exact(I7.pin (b,o) (zN _ (zN _ (V9 hb e)))).2.1
   have p5:=c7.unhide (Z:=ZF) n5 e5 (c7.bind (p'.from k5'));refine thn (hg.h _ s5 X1 H5 x u _ I5' r5 ⟨_,WV,X2,G',rx5,(sr'.mono k5').sq SD,h5,p5.mono λWT μ6 G6 H6 x6 h6 q6 WQ sr6=>(⟨WT,μ6,G6,sr6,h6,q6⟩:CG Y Z Q vs DD ys X2 H5 (Sf gg tt fe src.ck (src.items.drop (i+1))) WQ H6)⟩) λ_ s6 z6=>?_;obtain⟨WQ,H6,I6,WT,μ6,G6,sr6,h6,e6,n6,hh6,x6,p6⟩:=z6;have p6':=c7.unhide (Z:=ZF) n6 e6 (c7.bind p6);refine thn (ht.h _ s6 WQ H6 (CT Y Z Q vs DD ys WT WQ μ6 H6 (bQ gg tt fe src.ck (src.items.drop (i+1)) WT)) I6 ⟨WT,μ6,G6,sr6,h6,p6'.mono λb WM G7 H7 x7 h7 q7=>⟨WM,G7,sr6.mono x7,h7,q7⟩⟩) λb s7 z7=>?_;obtain⟨H7,I7,WM,G7,sr7,h7,e7,n7,hh7,x7,p7⟩:=z7;unfold bQ at p7;have x27:Ext WX H2 WM (hide DD H7):=x'.trans (k5'.trans (x6.trans x7));have rl7:j6 (wc Y) WM (hide DD H7) ys vs:=rl.mono (k5'.trans (x6.trans x7));rcases b with _|_
   ·
     rw[if_neg zz]at p7 ⊢;obtain⟨I8,st8,fr8⟩:=keepIt I7;exact nx _ _ (Xf _ _ sd) ⟨i+1,ys,vs,WQ,H7,WT,WM,G7,rfl,sd,Nat.le_succ_of_le hvl,I8,st8,fr8,e7,n7,x27,hh7,sr7.sq (dB e7),rl7,p7⟩
   ·
     rw[if_pos rfl]at p7 ⊢;have p7':=c7.unhide (Z:=ZF) n7 e7 (c7.bind p7);refine thn (he.h _ s7 WQ H7 (CE Y Z Q vs DD ys WT WQ WM H7 (RN gg tt fe src.ck (src.items.drop (i+1)) WT)) I7 ⟨WT,WM,G7,sr7,h7,p7'.mono λy μ8 G8 H8 x8 h8 q8 v rv=>⟨y,μ8,G8,rv,sr7.mono x8,h8,q8⟩⟩) λyu s8 z8=>?_;obtain⟨yv,H8,I8,ry,y,μ8,G8,ryd,sr8,h8,e8,n8,hh8,x8,p8⟩:=z8;unfold RN at p8;refine thn (NM _ s8 WQ H8 (.ref DD) [yv] (.ref DD) [yu] (λ_ H9=>H9=upd H8 DD (.lst (vs++[yv]))) I8 rfl (.cons ry .nil) ⟨DD,vs,yv,rfl,rfl,e8,by lia,rfl⟩) λ_ s9 z9=>?_;obtain⟨_,H9,I9,_,rfl⟩:=z9;obtain⟨I10,st10,fr10⟩:=keepIt I9;have hd9:hide DD (upd H8 DD (.lst (vs++[yv])))=hide DD H8:=oD;refine nx _ _ (Xf _ _ sd) ⟨i+1,ys++[y],vs++[yv],WQ,_,WT,μ8,G8,rfl,sd,by rw[zd];exact Nat.succ_le_succ hvl,I10,st10,fr10,K7,n8,?_,?_,?_,?_,?_⟩
     ·rw[hd9];exact x27.trans x8
     ·rw[hd9];exact hh8
     ·rw[hd9];exact sr8.sq (dB e8)
     ·rw[hd9];exact(rl7.mono x8).append ⟨yv, [],rfl,ryd.sq (dB e8),rfl⟩
     ·rw[hd9];refine(c7.bind p8).mono λrest μ'' G'' H'' x'' h'' q''=>?_;have q3:=c7.ok q'' h'';show c7 (wc Y) Z μ'' H'' (J5 (.lst (ys++[y]++rest)) G'') (CKV (wc Y) Q);rw[zJ];exact q3
 · have e:i=src.items.length:=by lia
   subst e;rw[List.drop_length]at p';unfold J7 at p';split at p'
   case isFalse=>exact p'.elim
   rename_i ck;obtain⟨_,q2⟩:=hJ X2 G' H' x'.unhide h'.unhide ck src.items.length;refine thn (T.done (Y) rfl rfl rfl hcX src.items.length [] s' X1 H' Y.xe I' (λb hb=>fpX H' b hb (fr' b hb)) sh (q2 (zh _))) λr s4 ⟨hr,I4⟩=>?_;subst hr;have p9:c7 (wc Y) Z X2 (hide DD H') (J5 (.lst (ys++[])) G') (CKV (wc Y) Q):=c7.ok p' h';rw[jH]at p9;have q9:=O6 (q:=DD) h' rl p9 BB;rw[Gf hvs]at q9;exact fin H' X1 s4 I4 q9
theorem lQ{use:Option (zg->Sem Unit)}{Q:VK}{ps:Pos}{pins:PNS}{s:zw}{σ:St}{H:Hp}{X9:DSt}{G:DH}(hc:X.calm=true)(hi:DI X Z tg iter it)(k:S3 X scope N caps)
 (hg:∀C s H ex,DG (N6 X scope N C s H ex) ZF tg gg) (ht:∀C s H ex,DTs (N6 X scope N C s H ex) ZF ifs tt) (he:∀C s H ex,DE (N6 X scope N C s H ex) ZF elt fe)
 (hs:∀x,xm iter X.env x=pure x) (I:Inv X pins σ H s) (sr:u9 (wc X) μ H X9 σ) (hr:m8 (wc X) μ G H) (p:c7 (wc X) Z μ H (M6 it caps gg tt fe X9 G) λd X2 _ H'=>∀v,d7 (wc X) X2 H' d v->Q v H')
 (fin:∀(DD C:Addr) (s4:zw) (H':Hp) m (o:Flow),s4.heap.Ns C m->(∀h'',yA C s4.heap h''->Inv X pins σ H' {s4 with heap:=h''})->H' C=none->(∀H9:Hp,H9 C=none->A1 X pins H9 C)->Q (.ref DD) H'->compPost (zA X.prog X.w) X.A X.xe use PQ (.ref DD) C (.ok o) s4):
 zo (zA X.prog X.w) X.A (comprehension (.ListComp elt [⟨tg,iter,ifs,0⟩] scope pos) scope X.env ps (newList []) false (eval iter X.env) use) PQ X.xe s:=by
 replace p:c7 (wc X) Z μ H (M6 it caps gg tt fe X9 G) (CKV (wc X) Q):=p;have p1:=c7.bind p;refine wpAny_comprehension_free rfl hs (Cq (k.cells I.ok)) k.kind k.names ?_;refine thn (hi.h pins s σ H (λJ H1=>∃src X0 G1,Ext μ H X0 H1/\m8 (wc X) X0 G1 H1/\ItD (wc X) X0 H1 J src/\
  c7 (wc X) Z X0 H1 ((if src.items.length<=zi then (do let ys <-noX (J7 gg tt fe src.ck src.items (Z8 caps X9));J5 (.lst ys))else M.stuck:M D) G1) (CKV (wc X) Q))
  I ⟨X9,μ,G,sr,hr,p1.mono λsrc X0 G1 H1 x1 h1 p1 J hJ=>⟨src,X0,G1,x1,h1,hJ,p1⟩⟩) λv s1 q1=>thn q1 λitv s2 q2=>?_
 obtain⟨itA,fp,tn,J,H2,rfl,I2,T,st2,f2,src,WX,G2,x2,h2,hJ,p2⟩:=q2;split at p2
 case isFalse=>exact p2.elim
 rename_i re;have hfp:∀b∈fp,b<s2.heap.objs.size:=λb hb=>by obtain⟨o,e,_⟩:=T.obj _ _ st2 b hb;exact zt e
 refine yd (wpAny_newFunctionEnv k.cell (by intro y hy;simp at hy) (λh₁ hns₁ hsb₁=>?_) k.kind);dsimp only at hns₁ hsb₁ ⊢;generalize hHP:s2.heap.push {cls:=.type "list",dict:=none,data:=.seq ([]:List zg).toArray}=HP at hns₁ hsb₁ ⊢;have hC:HP.objs.size=s2.heap.objs.size+1:=by rw[<-hHP,jO]
 have hCl:s2.heap.objs.size<HP.objs.size:=by rw[hC];exact Zp _
 have hDC:s2.heap.objs.size≠HP.objs.size:=zC hCl;have old:∀b o,s2.heap.get? b=some o->h₁.get? b=some o:=λb o e=>hsb₁.extBut b o (by have:=zt e;exact zC (Zi this hCl)) (zc _ (hHP▸zc _ e));have sv:h₁.get? s2.heap.objs.size=some {cls:=.type "list",data:=.seq ([]:List zg).toArray 0}:=hsb₁.extBut _ _ hDC (zc _ (hHP▸zn _ rfl));have hD:H2 s2.heap.objs.size=none:=I2.hok.fresh (zh _);have nD:s2.heap.objs.size∉WX:=λz=>yU _ (h2.mem_lt I2 z);have st1:tn 0 h₁:=T.keep _ _ _ st2 λb _ o e=>old b o e;have fpX:∀(H':Hp) (b:Addr),b∈fp->H' b=none->A1 (N6 X scope N HP.objs.size s2 H2 fp) [] H' b:=λH' b hb hn=>
  ⟨hn,zC (Zi (hfp b hb) hCl),λz=>by
   rcases zr.mp (I2.stkSub b z)with e|e
   ·exact(f2 b hb).2.1 e
   ·exact(f2 b hb).2.2.1 e,.inl hb,λx c e=>(f2 b hb).2.2.2.2.1 x c (T4 e),λp hp=>absurd (show p∈([]:PNS)from hp) (by simp)⟩
 have hcX:(N6 X scope N HP.objs.size s2 H2 fp).calm=true:=hc;have p3:=bI (c7.bind p2);generalize hDD:s2.heap.objs.size=DD at *;have loop:∀s₃:zw,s₃= {s2 with heap:=h₁,toks:=s2.toks+([]:List (Str×zg)).length}->
  xZ (zA X.prog X.w) X.A (.compLoop (.ListComp elt [⟨tg,iter,ifs,0⟩] scope pos) 0 (.ref itA) (.ref DD) (compEnvC scope (L4 X.env scope.names []) HP.objs.size X.env))
   (compPost (zA X.prog X.w) X.A X.xe use PQ (.ref DD) HP.objs.size) s₃:=by
  rintro s₃ rfl;refine gf (OH (N6 X scope N HP.objs.size s2 H2 fp) Z Q gg tt fe src fp tn DD WX H2) (λn s' h=>Sj hcX (hg _ _ _ _) (ht _ _ _ _) (he _ _ _ _) T fpX hJ re (λH' X1 s4 I4 q9=>?_) n s' h λm s h1 h2=>⟨m,h1,h2⟩) src.items.length
   ⟨0, [], [],Z8 caps σ,upd H2 DD (.lst []),Z8 caps X9,WX,G2,rfl,zL _,zh _,?_,st1,λb hb=>?_,K7,nD,?_,?_,?_,rfl,?_⟩
  ·obtain⟨m,hn,_⟩:=I4.loc;exact fin DD HP.objs.size s4 H' m _ hn (λh'' sb=>gX I2 (λb hb=>f2 b hb) (by rw[hDD];exact hCl) I4 sb) I4.free (λH9 hn9=>I2.fpOk (by rw[hDD];exact yT hCl) hn9) q9
  ·have:=BV (tk:=s2.toks+([]:List (Str×zg)).length) I2 k (by rw[hDD];exact hCl) f2 (λb hb=>by rw[hDD];exact hfp b hb) old hns₁ (by rw[hDD];exact sv);rw[hDD]at this;exact this
  ·rw[o5 (zC (hfp b hb))];exact(f2 b hb).1
  ·rw[oD,kF hD];exact Ext.refl _ _
  ·rw[oD,kF hD];exact h2
  ·rw[oD,kF hD];exact dh (sr.mono x2)
  ·rw[oD,kF hD,List.drop_zero];exact p3
 exact codeAny_compStart_list (loop _ rfl) (T.self _ 0 _ _ _ st1 (loop _ rfl))
theorem cW(hc:X.calm=true)(hi:DI X Z tg iter it)(k:S3 X scope N caps)
 (hg:∀C s H ex,DG (N6 X scope N C s H ex) ZF tg gg) (ht:∀C s H ex,DTs (N6 X scope N C s H ex) ZF ifs tt) (he:∀C s H ex,DE (N6 X scope N C s H ex) ZF elt fe)
 (hs:∀x,xm iter X.env x=pure x):DE X Z (.ListComp elt [⟨tg,iter,ifs,0⟩] scope pos) (M6 it caps gg tt fe):=⟨by
 intro pins s σ H Q I rc;refine rc.elim λX9 μ G sr hr p=>?_;rw[eval_ListComp];exact lQ hc hi k hg ht he hs I sr hr p λDD C s4 H' m o hn fin _ _ q9=>⟨m,hn,λh'' sb=>⟨.ref DD,H',fin h'' sb,rfl,q9⟩⟩⟩
end
def K5(r:Nat):M DO:=λG=>match G[r]? with
 |some o=>some (.ok o,G)
 |none=>none
def listOf:DO->M (List D)
 | .lst l=>pure l
 | .rol l=>pure l
 | .dct _=>M.stuck
 | .rod _=>M.stuck
def nh:D->M (List D)
 | .tup l=>pure l
 | .ref r=>K5 r >>= listOf
 |_=>M.stuck
def U1{α:Type}:Option α->M α
 |some a=>pure a
 |none=>M.stuck
section
theorem IxR.mono(h:IxR X r)(k:∀x y H Q,r' x y H Q->r x y H Q):IxR X r':=λva sl pins s σ H x y v u Q I rx ry q hs=>h va sl pins s σ H x y v u Q I rx ry (k x y H Q q) hs
theorem G9{f:DO->M α}{K:α->List Addr->DH->Hp->Prop}(p:c7 c Z μ H ((K5 r >>= f) G) K):∃o,G[r]? =some o/\c7 c Z μ H (f o G) K:=by
 rw[M.bind_eq]at p;unfold K5 at p;rcases e:G[r]? with _|o
 ·rw[e]at p;exact p.elim
 ·rw[e]at p;exact⟨o,rfl,p⟩
theorem O5{r:Option β}{f:β->M α}{K:α->List Addr->DH->Hp->Prop}(p:c7 c Z μ H ((U1 r >>= f) G) K):∃o,r=some o/\c7 c Z μ H (f o G) K:=by
 rcases r with _|o
 ·exact p.elim
 ·exact⟨o,rfl,p⟩
theorem SE{f:List D->M α}{K:α->List Addr->DH->Hp->Prop}(h:m8 c μ G H)(r:d7 c μ H d v)(p:c7 c Z μ H ((nh d >>= f) G) K):
 ∃l a vs,v= .ref a/\j6 c μ H l vs/\c7 c Z μ H (f l G) K/\((d= .tup l/\SqT c.K H a vs)\/(∃i,d= .ref i/\μ[i]? =some a/\((G[i]? =some (.lst l)/\H a=some (.lst vs))\/(G[i]? =some (.rol l)/\RoL c.K H a vs)))):=by
 rcases d with _|_|_|_|l|i|_|_<;>try (exact p.elim;done)
 ·
   unfold d7 at r;obtain⟨a,vs,e,q,rl⟩:=r;exact⟨l,a,vs,e,rl,p,.inl ⟨rfl,q⟩⟩
 ·
   unfold d7 at r;obtain⟨a,m,e⟩:=r;have p':c7 c Z μ H ((K5 i >>= λo=>listOf o >>= f) G) K:=by rw[<-M.bind_assoc];exact p
   obtain⟨o,g,p2⟩:=G9 p';have ro:=h.obj i o a g m;rcases o with l|l|l|l
   ·obtain⟨vs,q,rl⟩:=ro;exact⟨l,a,vs,e,rl,p2,.inr ⟨i,rfl,m,.inl ⟨g,q⟩⟩⟩
   ·obtain⟨vs,q,rl⟩:=ro;exact⟨l,a,vs,e,rl,p2,.inr ⟨i,rfl,m,.inr ⟨g,q⟩⟩⟩
   ·exact p2.elim
   ·exact p2.elim
theorem T7(r:d7 c μ H (.int i) v):v= .int i:=by unfold d7 at r;exact r
theorem Q1(r:d7 c μ H (.str i) v):v= .str i:=by unfold d7 at r;exact r
theorem F6(r:d7 c μ H (.bl i) v):v= .bl i:=by unfold d7 at r;exact r
theorem WC(r:d7 c μ H .non v):v= .non:=by unfold d7 at r;exact r
theorem ofI:d7 c μ H (.int i) (.int i):=by unfold d7;rfl
theorem ofS:d7 c μ H (.str i) (.str i):=by unfold d7;rfl
theorem ofB:d7 c μ H (.bl i) (.bl i):=by unfold d7;rfl
theorem ofN:d7 c μ H .non .non:=by unfold d7;rfl
def NA(g:Int->Int->M D):D->D->M D:=λx y=>match x,y with
 | .int i,.int j=>g i j
 |_,_=>M.stuck
theorem II[∀i j,Decidable (C i j)]{g:Int->Int->Int}(h:OpR X f (rI C λi j=>.int (g i j))):OpD X Z f (NA λi j=>if C i j then pure (.int (g i j))else M.stuck):=
 OpD.of h λx y H Q rc=>rc.elim λdx dy μ G rx ry hr p=>by
  rcases dx with _|_|_|_|_|_|_|_<;>rcases dy with _|_|_|_|_|_|_|_<;>first
   |exact p.elim
   |skip
  rename_i i j;unfold NA at p;dsimp only at p;split at p
  ·rename_i hc;exact⟨i,j,T7 rx,T7 ry,hc,c7.ok p hr _ ofI⟩
  ·exact p.elim
theorem Mp{g:Int->Int->Int}(h:OpR X f (A9 λi j=>.int (g i j))):OpD X Z f (NA λi j=>pure (.int (g i j))):=
 OpD.of h λx y H Q rc=>rc.elim λdx dy μ G rx ry hr p=>by
  rcases dx with _|_|_|_|_|_|_|_<;>rcases dy with _|_|_|_|_|_|_|_<;>first
   |exact p.elim
   |exact⟨_,_,T7 rx,T7 ry,c7.ok p hr _ ofI⟩
def i9:D->D->M D:=NA λi j=>pure (.int (i-j))
theorem RY:OpD X Z (yE .Sub) i9:=Mp mQ
instance (i j:Int):Decidable (E7 i j):=by unfold E7;infer_instance
def TB(_ j:Int):Prop:=0<j/\j<2 ^ 100
instance (i j:Int):Decidable (TB i j):=by unfold TB;infer_instance
theorem EZ:OpR X (yE .FloorDiv) (rI TB λi j=>.int (i / j)):=opI λi j _ _ _ _ _ hc q=>by
 have h1:(0:Int)<j:=hc.1;have h2:j<2 ^ 100:=hc.2;refine floordiv_int (by lia) (by rw[Int.fdiv_eq_ediv_of_nonneg i (by lia)];exact q) (.inl (PyProof.noPylong_of_log2 ?_));have h3:j.natAbs<2 ^ 100:=by lia
 have h4:j.natAbs≠0:=by lia
 have:=(Nat.log2_lt h4).mpr h3;lia
def x9:D->D->M D:=NA λi j=>if TB i j then pure (.int (i / j))else M.stuck
theorem sX:OpD X Z (yE .FloorDiv) x9:=II EZ
def D3:D->D->M D:=NA λi j=>if 0<j then pure (.int (i % j))else M.stuck
theorem wm:OpD X Z (yE .Mod) D3:=II cy
instance (i j:Int):Decidable (i7 i j):=by unfold i7;infer_instance
def F3:D->D->M D:=NA λi j=>if i7 i j then pure (.int (i ^ j.toNat))else M.stuck
theorem mn:OpD X Z (yE .Pow) F3:=II mO
theorem pT{w:je}{s:zw}{t b:Addr}{ws:List zg}(ht:xY s.heap t #[])(hb:xY s.heap b ws.toArray)
 (h1:Q (.ref b) s):zo (zA prog w) A (yE .Add (.ref t) (.ref b)) Q E s:=by
 obtain⟨⟨cls,dd,data,sl⟩,ho,hc,n,hd⟩:=id ht;obtain⟨⟨cls2,dd2,data2,sl2⟩,sj,hc2,n2,hd2⟩:=id hb;simp only at hc hd hc2 hd2;subst hc hd hc2 hd2;exact concat_meets ⟨_,ho,rfl⟩ ⟨_,sj,rfl⟩ JR seq_tuple_add Yg Yb (ZP _ _)
  (tuple_addW0 t b #[] ws.toArray n n2 dd dd2 sl sl2 (by simp)) ⟨ho,sj,h1⟩
def Nz(K:zj):R2:=λx y H Q=>∃a b ys,x= .ref a/\y= .ref b/\SqT K H a []/\SqT K H b ys/\Q (.ref b) H
theorem wU:OpR X (yE .Add) (Nz X.K):=by
 intro pins s σ H x y v u Q I rx ry h;obtain⟨a,b,ys,rfl,rfl,ha,hb,q⟩:=h
 cases rx
 cases ry
 obtain⟨qu,r,p,_⟩:=I.tuple ha;obtain⟨ug,r2,p2,_⟩:=I.tuple hb
 cases r
 exact pT p p2 ⟨.ref b,H,I,rfl,q⟩
def addD:D->D->M D:=λx y=>match x,y with
 | .int i,.int j=>pure (.int (i+j))
 | .str a,.str b=>if a.length+b.length<=zi then pure (.str (a++b))else M.stuck
 | .tup a,.tup b=>if a.length+b.length<=zi then pure (.tup (a++b))else M.stuck
 | .ref i,.ref j=>do
   match <-K5 i,<-K5 j with
   | .lst a,.lst b=>if a.length+b.length<=zi then J5 (.lst (a++b))else M.stuck
   |_,_=>M.stuck
 |_,_=>M.stuck
theorem QI{Q:VK}(h:m8 c μ G H)(q:SqT c.K H a vs)(r:j6 c μ H xs vs)
 (p:c7 c Z μ H (some (Except.ok (.tup xs),G)) λd X2 _ H'=>∀v,d7 c X2 H' d v->Q v H'):Q (.ref a) H:=c7.ok p h _ (by unfold d7;exact⟨a,vs,rfl,q,r⟩)
theorem EY:OpD X Z (yE .Add) addD:=
 OpD.of (OpR.or Cb (OpR.or wb (OpR.or Md (OpR.or wU MU)))) λx y H Q rc=>rc.elim λdx dy μ G rx ry hr p=>by
  rcases dx with _|_|_|_|_|_|_|_<;>rcases dy with _|_|_|_|_|_|_|_<;>first
   |exact p.elim
   |skip
  ·exact .inl ⟨_,_,T7 rx,T7 ry,c7.ok p hr _ ofI⟩
  · rename_i a b;refine .inr (.inl ?_);unfold addD at p;dsimp only at p;split at p
    ·rename_i hz;exact⟨a,b,Q1 rx,Q1 ry,hz,c7.ok p hr _ ofS⟩
    ·exact p.elim
  · rename_i a b;unfold d7 at rx ry;obtain⟨ax,vx,rfl,qx,lx⟩:=rx;obtain⟨ay,vy,rfl,qy,ly⟩:=ry;unfold addD at p;dsimp only at p;split at p
    · rename_i hz;by_cases hv:vx= []
      · subst hv;rcases a with _|⟨_,_⟩
        ·exact .inr (.inr (.inr (.inl ⟨ax,ay,vy,rfl,rfl,qx,qy,QI hr qy ly p⟩)))
        ·obtain⟨_,_,z,_⟩:=lx;cases z
      · refine .inr (.inr (.inl ⟨ax,ay,vx,vy,rfl,rfl,qx,qy,hv,by rw[<-lx.length,<-ly.length];exact hz,?_⟩));refine⟨λhy=>?_,λhy q hq=>AF hr (lx.append ly) p q hq⟩;subst hy;refine QI hr qx ?_ p;rcases b with _|⟨_,_⟩
        ·rw[jH];exact lx
        ·obtain⟨_,_,z,_⟩:=ly;cases z
    ·exact p.elim
  · rename_i i j;unfold d7 at rx ry;obtain⟨ax,mx,rfl⟩:=rx;obtain⟨ay,my,rfl⟩:=ry;obtain⟨ox,gx,p⟩:=G9 p;obtain⟨oy,gy,p⟩:=G9 p;have hx:=hr.obj i ox ax gx mx;have hy:=hr.obj j oy ay gy my;rcases ox with _|_|_|_<;>rcases oy with _|_|_|_<;>first
     |exact p.elim
     |skip
    obtain⟨vx,ex,lx⟩:=hx;obtain⟨vy,ey,ly⟩:=hy;dsimp only at p;split at p
    ·rename_i hz;exact .inr (.inr (.inr (.inr ⟨ax,ay,vx,vy,rfl,rfl,ex,ey,by rw[<-lx.length,<-ly.length];exact hz,λq hq=>O6 hr (lx.append ly) p q hq⟩)))
    ·exact p.elim
end
def O0(G:DH):D->Option (Bool×List D)
 | .tup l=>some (true,l)
 | .ref i=>match G[i]? with
   |some (.lst l)=>some (false,l)
   |some (.rol l)=>some (false,l)
   |_=>none
 |_=>none
def g7:D->Bool
 | .non=>true
 | .bl _=>true
 | .int _=>true
 | .str _=>true
 |_=>false
def eqS:D->D->Option Bool
 | .non,.non=>some true
 | .bl a,.bl b=>some (a==b)
 | .int a,.int b=>some (a==b)
 | .str a,.str b=>some (a==b)
 | .bl a,.int b=>some ((if a then (1:Int)else 0)==b)
 | .int a,.bl b=>some (a==(if b then (1:Int)else 0))
 |x,y=>if g7 x&&g7 y then some false else none
def eqL(f:D->D->Option Bool):List D->List D->Option Bool
 |[], []=>some true
 |[],_::_=>some false
 |_::_, []=>some false
 |x::xs,y::ys=>match f x y,eqL f xs ys with
   |some e,some r=>some (e&&r)
   |_,_=>none
def eqN:Nat->DH->D->D->Option Bool
 |0,_,_,_=>none
 |n+1,G,x,y=>match O0 G x,O0 G y with
   |some (k1,a),some (k2,b)=>if k1=k2 then (if k1=false/\a.length≠b.length then some false else eqL (eqN n G) a b)else some false
   |some _,none=>if g7 y then some false else none
   |none,some _=>if g7 x then some false else none
   |none,none=>eqS x y
theorem fE:eqN (n+1) G x y=match O0 G x,O0 G y with
 |some (k1,a),some (k2,b)=>if k1=k2 then (if k1=false/\a.length≠b.length then some false else eqL (eqN n G) a b)else some false
 |some _,none=>if g7 y then some false else none
 |none,some _=>if g7 x then some false else none
 |none,none=>eqS x y:=rfl
theorem w8:eqL f (x::xs) (y::ys)=match f x y,eqL f xs ys with
 |some e,some r=>some (e&&r)
 |_,_=>none:=rfl
theorem SL:∀a b r,eqL f a b=some r->(∀j x y,a[j]? =some x->b[j]? =some y->f x y=some (e j))->r= ((zE (min a.length b.length)).all e&&a.length==b.length)
 |[], [],r,h,_=>by cases h;rfl
 |[],_::_,r,h,_=>by cases h;simp
 |_::_, [],r,h,_=>by cases h;simp
 |x::xs,y::ys,r,h,he=>by
   rw[w8]at h;have h0:=he 0 x y rfl rfl;rw[h0]at h;rcases hr:eqL f xs ys with _|r'
   ·rw[hr]at h;exact u6 h
   ·
     rw[hr]at h;have ih:=SL xs ys r' hr λj x' y' h1 h2=>he (j+1) x' y' (by simpa using h1) (by simpa using h2)
     cases h
     rw[ih];have:min (x::xs).length (y::ys).length=min xs.length ys.length+1:=by simp only[zu];lia
     rw[this,yQ,jX,List.all_map];simp[Bool.and_assoc,Xh]
theorem HJ:∀a b r,eqL f a b=some r->∀(j:Nat) x y,a[j]? =some x->b[j]? =some y->∃e,f x y=some e
 |[],_,_,_,_,_,_,h,_=>by simp at h
 |_::_, [],_,_,_,_,_,_,h=>by simp at h
 |x::xs,y::ys,r,h,j,x',y',h1,h2=>by
   rw[w8]at h;rcases hf:f x y with _|e
   ·rw[hf]at h;exact u6 h
   ·
     rcases hr:eqL f xs ys with _|r'
     ·rw[hf,hr]at h;exact u6 h
     ·
       cases j with
       |zero=>simp at h1 h2;subst h1 h2;exact⟨e,hf⟩
       |succ j=>exact HJ xs ys r' hr j x' y' (by simpa using h1) (by simpa using h2)
section
def gE(s:zw)(k:Bool)(a:Addr)(qu:List zg):Prop:=if k then s.heap.IsTuple a qu.toArray else s.heap.IsList a qu.toArray
theorem h9(I:Inv X pins σ H s)(h:m8 (wc X) μ G H)(e:O0 G d=some (k,l))(r:d7 (wc X) μ H d x)(rv:t6 x v):
 ∃a vs qu,x= .ref a/\v= .ref a/\j6 (wc X) μ H l vs/\m7 vs qu/\gE s k a qu/\(if k then SqT X.K H a vs else SqL X.K H a vs):=by
 rcases d with _|_|_|_|l'|i|_|_<;>try (cases e;done)
 ·
   unfold O0 at e
   cases e
   unfold d7 at r;obtain⟨a,vs,rfl,q,rl⟩:=r;obtain⟨qu,rr,p,_⟩:=I.tuple q;exact⟨a,vs,qu,rfl,rv,rl,rr,p,q⟩
 ·
   have e':(match G[i]? with|some (.lst l)=>some (false,l)|some (.rol l)=>some (false,l)|_=>none)=some (k,l):=e;unfold d7 at r;obtain⟨a,m,rfl⟩:=r;have key:∀vs,SqL X.K H a vs->j6 (wc X) μ H l vs->k=false->∃a' vs qu,V.ref a= .ref a'/\v= .ref a'/\j6 (wc X) μ H l vs/\m7 vs qu/\gE s k a' qu/\(if k then SqT X.K H a' vs else SqL X.K H a' vs):=λvs q rl hk=>by subst hk;obtain⟨qu,rr,p,_⟩:=I.list q;exact⟨a,vs,qu,rfl,rv,rl,rr,p.isList,q⟩
   generalize g:G[i]? =o at e';rcases o with _|l'|l'|_|_<;>cases e'
   ·obtain⟨vs,q,rl⟩:=h.obj i _ a g m;exact key vs (SqL.of q) rl rfl
   ·obtain⟨vs,q,rl⟩:=h.obj i _ a g m;exact key vs q.sq rl rfl
theorem EO(hs:g7 d=true)(r:d7 c μ H d (.ref a)):False:=by
 cases d<;>first
  |exact absurd (show false=true from hs) zz
  |(unfold d7 at r;cases r)
theorem IM(h:eqS x y=some b):g7 x=true/\g7 y=true:=by
 rcases x with _|_|_|_|_|_|_|_<;>rcases y with _|_|_|_|_|_|_|_<;>first
  |exact⟨rfl,rfl⟩
  |(cases h;done)
theorem Sk(h:eqS x y=some b)(rx:d7 c μ H x v)(ry:d7 c μ H y v):b=true:=by
 obtain⟨s1,s2⟩:=IM h;rcases x with _|_|_|_|_|_|_|_<;>rcases y with _|_|_|_|_|_|_|_<;>first
  |(cases s1;done)
  |(cases s2;done)
  |(unfold d7 at rx ry;rw[rx]at ry;cases ry;done)
  |(unfold d7 at rx ry;rw[rx]at ry;cases ry;cases h;first|rfl|simp)
theorem qT(I:Inv X pins σ H s)(h1:gE s k a qu)(h2:gE s k' a its'):k=k':=by
 cases k<;>cases k'<;>first
  |rfl
  |exact absurd rfl (SeqAt.ne_of_list_tuple h1 h2)
  |exact absurd rfl (SeqAt.ne_of_list_tuple h2 h1)
theorem tR:∀l l' vs b,j6 c μ H l vs->j6 c μ H l' vs->(∀d d' v b,v∈vs->d7 c μ H d v->d7 c μ H d' v->f d d'=some b->b=true)->eqL f l l'=some b->b=true
 |[], [],_,b,_,_,_,e=>by cases e;rfl
 |[],_::_,vs,b,r1,r2,_,_=>by cases r1;obtain⟨_,_,z,_⟩:=r2;exact QG z
 |_::_, [],vs,b,r1,r2,_,_=>by cases r2;obtain⟨_,_,z,_⟩:=r1;cases z
 |d::ds,d'::ds',vs,b,r1,r2,k,e=>by
   obtain⟨v0,vr,rfl,q0,t0⟩:=r1;obtain⟨v1,vr',e1,q1,t1⟩:=r2
   cases e1
   rw[w8]at e;rcases hf:f d d' with _|e0
   ·rw[hf]at e;exact u6 e
   ·
     rcases hr:eqL f ds ds' with _|r'
     ·rw[hf,hr]at e;exact u6 e
     ·
       rw[hf,hr]at e
       cases e
       have z1:=k d d' v0 e0 zv q0 q1 hf;have z2:=tR ds ds' vr r' t0 t1 (λa a' v b hm=>k a a' v b (zl _ hm)) hr;rw[z1,z2];rfl
theorem iO(I:Inv X pins σ H s)(h:m8 (wc X) μ G H):∀n {dx dy} {x} {v} {b},d7 (wc X) μ H dx x->d7 (wc X) μ H dy x->t6 x v->eqN n G dx dy=some b->b=true
 |0,_,_,_,_,_,_,_,_,e=>by exact u6 e
 |n+1,dx,dy,x,v,b,rx,ry,rv,e=>by
   rw[fE]at e;rcases hx:O0 G dx with _|p
   ·
     rw[hx]at e;rcases hy:O0 G dy with _|p
     ·rw[hy]at e;exact Sk e rx ry
     ·
       obtain⟨k,l⟩:=p;rw[hy]at e;dsimp only at e;split at e
       ·rename_i hs;obtain⟨a,_,_,rfl,_⟩:=h9 I h hy ry rv;exact(EO hs rx).elim
       ·exact u6 e
   ·
     obtain⟨k,l⟩:=p;rw[hx]at e;rcases hy:O0 G dy with _|p'
     ·
       rw[hy]at e;dsimp only at e;split at e
       ·rename_i hs;obtain⟨a,_,_,rfl,_⟩:=h9 I h hx rx rv;exact(EO hs ry).elim
       ·exact u6 e
     ·
       obtain⟨k',l'⟩:=p';rw[hy]at e;dsimp only at e;obtain⟨a,vs,qu,rfl,rfl,rl,rr,sq,q⟩:=h9 I h hx rx rv;obtain⟨a',sy,its',ea,_,si,rr',sq',q'⟩:=h9 I h hy ry rv
       cases ea
       have hk:k=k':=qT I sq sq';subst hk;have hvs:vs=sy:=by
        rcases k with _|_
        ·exact I.list_inj q q'
        ·exact I.tuple_inj q q'
       subst hvs;rw[if_pos rfl,if_neg (by rw[rl.length,si.length];simp)]at e;have hv:∀v∈vs,∃u,t6 v u:=λv hv=>by obtain⟨i,hi⟩:=List.getElem?_of_mem hv;obtain⟨u,_,ru⟩:=rr.get hi;exact⟨u,ru⟩
       exact tR l l' vs b rl si (λd d' v b hm r1 r2 ef=>by obtain⟨u,ru⟩:=hv v hm;exact iO I h n r1 r2 ru ef) e
theorem NV(rx:d7 c μ H dx x)(ry:d7 c μ H dy y)(rv:t6 x v)(ru:t6 y u)(e:eqS dx dy=some b):
 Xj A s v u b/\Yq A s v u (!b)/\yj A s v u b:=by
 obtain⟨s1,s2⟩:=IM e;rcases dx with _|i|i|i|_|_|_|_<;>try (cases s1;done)
 ·
   unfold d7 at rx;subst rx;cases rv;rcases dy with _|j|j|j|_|_|_|_<;>try (cases s2;done)
   ·unfold d7 at ry;subst ry;cases ru;cases e;exact⟨SeqAt.RcAt.none_none,SeqAt.RcNeAt.none_none,Xq _⟩
   ·unfold d7 at ry;subst ry;cases ru;cases e;exact⟨SeqAt.RcAt.none_bool _,SeqAt.RcNeAt.none_bool _,JH _⟩
   ·unfold d7 at ry;subst ry;obtain⟨t,rfl⟩:=ru;cases e;exact⟨SeqAt.RcAt.none_int _ _,SeqAt.RcNeAt.none_int _ _,JW _ _⟩
   ·unfold d7 at ry;subst ry;obtain⟨t,rfl⟩:=ru;cases e;exact⟨SeqAt.RcAt.none_str _ _,SeqAt.RcNeAt.none_str _ _,JV _ _⟩
 ·
   unfold d7 at rx;subst rx;cases rv;rcases dy with _|j|j|j|_|_|_|_<;>try (cases s2;done)
   ·unfold d7 at ry;subst ry;cases ru;cases e;exact⟨SeqAt.RcAt.bool_none _,SeqAt.RcNeAt.bool_none _,JI _⟩
   ·unfold d7 at ry;subst ry;cases ru;cases e;exact⟨SeqAt.RcAt.bool_bool _ _,SeqAt.RcNeAt.bool_bool _ _,JJ _ _⟩
   ·unfold d7 at ry;subst ry;obtain⟨t,rfl⟩:=ru;cases e;exact⟨SeqAt.RcAt.bool_int _ _ _,SeqAt.RcNeAt.bool_int _ _ _,SeqAt.EqAt.bool_int _ _ _⟩
   ·unfold d7 at ry;subst ry;obtain⟨t,rfl⟩:=ru;cases e;exact⟨SeqAt.RcAt.bool_str _ _ _,SeqAt.RcNeAt.bool_str _ _ _,JZ _ _ _⟩
 ·
   unfold d7 at rx;subst rx;obtain⟨t,rfl⟩:=rv;rcases dy with _|j|j|j|_|_|_|_<;>try (cases s2;done)
   ·unfold d7 at ry;subst ry;cases ru;cases e;exact⟨SeqAt.RcAt.int_none _ _,SeqAt.RcNeAt.int_none _ _,JX _ _⟩
   ·unfold d7 at ry;subst ry;cases ru;cases e;exact⟨SeqAt.RcAt.int_bool _ _ _,SeqAt.RcNeAt.int_bool _ _ _,JY _ _ _⟩
   ·unfold d7 at ry;subst ry;obtain⟨t,rfl⟩:=ru;cases e;exact⟨SeqAt.RcAt.int_int _ _ _ _,SeqAt.RcNeAt.int_int _ _ _ _,SeqAt.EqAt.int_int _ _ _ _⟩
   ·unfold d7 at ry;subst ry;obtain⟨t,rfl⟩:=ru;cases e;exact⟨SeqAt.RcAt.int_str _ _ _ _,SeqAt.RcNeAt.int_str _ _ _ _,YL _ _ _ _⟩
 ·
   unfold d7 at rx;subst rx;obtain⟨t,rfl⟩:=rv;rcases dy with _|j|j|j|_|_|_|_<;>try (cases s2;done)
   ·unfold d7 at ry;subst ry;cases ru;cases e;exact⟨SeqAt.RcAt.str_none _ _,SeqAt.RcNeAt.str_none _ _,JT _ _⟩
   ·unfold d7 at ry;subst ry;cases ru;cases e;exact⟨SeqAt.RcAt.str_bool _ _ _,SeqAt.RcNeAt.str_bool _ _ _,JU _ _ _⟩
   ·unfold d7 at ry;subst ry;obtain⟨t,rfl⟩:=ru;cases e;exact⟨SeqAt.RcAt.str_int _ _ _ _,SeqAt.RcNeAt.str_int _ _ _ _,YK _ _ _ _⟩
   ·unfold d7 at ry;subst ry;obtain⟨t,rfl⟩:=ru;cases e;exact⟨SeqAt.RcAt.str_str _ _ _ _,SeqAt.RcNeAt.str_str _ _ _ _,SeqAt.EqAt.str_str _ _ _ _⟩
theorem LL(hu:A.units<xh)(sq:gE s k a qu)(ry:d7 c μ H dy y)(ru:t6 y u)(hs:g7 dy=true):
 (Xj A s (.ref a) u false/\Yq A s (.ref a) u true/\yj A s (.ref a) u false)/\(Xj A s u (.ref a) false/\Yq A s u (.ref a) true/\yj A s u (.ref a) false):=by
 rcases k with _|_
 ·
   rcases dy with _|j|j|j|_|_|_|_<;>try (cases hs;done)
   ·unfold d7 at ry;subst ry;cases ru;exact⟨⟨.list_none sq hu,.list_none sq hu,.list_none sq hu⟩,.none_list sq hu,.none_list sq hu,.none_list sq hu⟩
   ·unfold d7 at ry;subst ry;cases ru;exact⟨⟨.list_bool _ sq hu,.list_bool _ sq hu,.list_bool _ sq hu⟩,.bool_list _ sq hu,.bool_list _ sq hu,.bool_list _ sq hu⟩
   ·unfold d7 at ry;subst ry;obtain⟨t,rfl⟩:=ru;exact⟨⟨.list_int _ _ sq hu,.list_int _ _ sq hu,.list_int _ _ sq hu⟩,.int_list _ _ sq hu,.int_list _ _ sq hu,.int_list _ _ sq hu⟩
   ·unfold d7 at ry;subst ry;obtain⟨t,rfl⟩:=ru;exact⟨⟨.list_str _ _ sq hu,.list_str _ _ sq hu,.list_str _ _ sq hu⟩,.str_list _ _ sq hu,.str_list _ _ sq hu,.str_list _ _ sq hu⟩
 ·
   rcases dy with _|j|j|j|_|_|_|_<;>try (cases hs;done)
   ·unfold d7 at ry;subst ry;cases ru;exact⟨⟨.tuple_none sq hu,.tuple_none sq hu,.tuple_none sq hu⟩,.none_tuple sq hu,.none_tuple sq hu,.none_tuple sq hu⟩
   ·unfold d7 at ry;subst ry;cases ru;exact⟨⟨.tuple_bool _ sq hu,.tuple_bool _ sq hu,.tuple_bool _ sq hu⟩,.bool_tuple _ sq hu,.bool_tuple _ sq hu,.bool_tuple _ sq hu⟩
   ·unfold d7 at ry;subst ry;obtain⟨t,rfl⟩:=ru;exact⟨⟨.tuple_int _ _ sq hu,.tuple_int _ _ sq hu,.tuple_int _ _ sq hu⟩,.int_tuple _ _ sq hu,.int_tuple _ _ sq hu,.int_tuple _ _ sq hu⟩
   ·unfold d7 at ry;subst ry;obtain⟨t,rfl⟩:=ru;exact⟨⟨.tuple_str _ _ sq hu,.tuple_str _ _ sq hu,.tuple_str _ _ sq hu⟩,.str_tuple _ _ sq hu,.str_tuple _ _ sq hu,.str_tuple _ _ sq hu⟩
theorem GD(I:Inv X pins σ H s)(h:m8 (wc X) μ G H):∀n A,A.units+n<xh->∀ {dx dy} {x y:V} {v u} {b:Bool},d7 (wc X) μ H dx x->d7 (wc X) μ H dy y->t6 x v->t6 y u->eqN n G dx dy=some b->
 Xj A s v u b/\Yq A s v u (!b)/\yj A s v u b
 |0,_,_,_,_,_,_,_,_,_,_,_,_,_,e=>by exact u6 e
 |n+1,A,hu,dx,dy,x,y,v,u,b,rx,ry,rv,ru,e=>by
   have hu0:A.units<xh:=by lia
   have hu1:A.in1.units+n<xh:=by show A.units+1+n<xh;lia
   have e0:=e;rw[fE]at e;rcases hx:O0 G dx with _|p
   ·
     rw[hx]at e;rcases hy:O0 G dy with _|p
     ·rw[hy]at e;exact NV rx ry rv ru e
     ·
       obtain⟨k,l⟩:=p;rw[hy]at e;dsimp only at e;split at e
       · rename_i hs
         cases e
         obtain⟨a,vs,qu,rfl,rfl,_,_,sq,_⟩:=h9 I h hy ry ru;exact(LL hu0 sq rx rv hs).2
       ·exact u6 e
   ·
     obtain⟨k,l⟩:=p;rw[hx]at e;obtain⟨a,vs,qu,rfl,rfl,rl,rr,sq,q⟩:=h9 I h hx rx rv;rcases hy:O0 G dy with _|p'
     ·
       rw[hy]at e;dsimp only at e;split at e
       · rename_i hs
         cases e
         exact(LL hu0 sq ry ru hs).1
       ·exact u6 e
     ·
       obtain⟨k',l'⟩:=p';rw[hy]at e;dsimp only at e;obtain⟨a',sy,its',rfl,rfl,si,rr',sq',q'⟩:=h9 I h hy ry ru
       -- the two at one place
       have main:Xj A s (.ref a) (.ref a') b/\Yq A s (.ref a) (.ref a') (!b):=by
        have len1:qu.toArray.size=l.length:=by rw[zk,<-rr.length,rl.length]
        have len2:its'.toArray.size=l'.length:=by rw[zk,<-rr'.length,si.length]
        by_cases hk:k=k'
        · subst hk;rw[if_pos rfl]at e;by_cases re:k=false/\l.length≠l'.length
          · rw[if_pos re]at e
            cases e
            obtain⟨rfl,sf⟩:=re;have hz:(qu.toArray.size != its'.toArray.size)=true:=by rw[len1,len2];simpa using sf
            exact⟨SeqAt.RcAt.lists_lengths sq sq' hz hu0,SeqAt.RcNeAt.lists_lengths sq sq' hz hu0⟩
          · rw[if_neg re]at e;have items:∀j (h1:j<qu.toArray.size) (h2:j<its'.toArray.size),∃e,eqN n G (l.getD j .non) (l'.getD j .non)=some e/\yj A.in1 s qu.toArray[j] its'.toArray[j] e:=λj h1 h2=>by
             have j1:j<l.length:=by rw[<-len1];exact h1
             have j2:j<l'.length:=by rw[<-len2];exact h2
             have g1:l[j]? =some l[j]:=zq j1;have g2:l'[j]? =some l'[j]:=zq j2;obtain⟨e1,he1⟩:=HJ l l' b e j _ _ g1 g2;obtain⟨v1,hv1,r1⟩:=rl.get g1;obtain⟨v2,hv2,r2⟩:=si.get g2;obtain⟨u1,hu1',ru1⟩:=rr.get hv1;obtain⟨u2,hu2',ru2⟩:=rr'.get hv2;have w1:qu.toArray[j]=u1:=by
              have:qu.toArray[j]? =some u1:=by simpa using hu1'
              rw[zU h1]at this;exact js this
             have w2:its'.toArray[j]=u2:=by
              have:its'.toArray[j]? =some u2:=by simpa using hu2'
              rw[zU h2]at this;exact js this
             rw[w1,w2];refine⟨e1,?_,(GD I h n A.in1 hu1 r1 r2 ru1 ru2 he1).2.2⟩;rw[zp,zp,g1,g2];exact he1
            have hr:=SL (e:=λj=>(eqN n G (l.getD j .non) (l'.getD j .non)).getD false) l l' b e λj x y g1 g2=>by obtain⟨e1,he1⟩:=HJ l l' b e j x y g1 g2;rw[zp,zp,g1,g2];simp only[Option.getD_some];rw[he1];rfl
            have he:∀j (h1:j<qu.toArray.size) (h2:j<its'.toArray.size),yj A.in1 s qu.toArray[j] its'.toArray[j] ((eqN n G (l.getD j .non) (l'.getD j .non)).getD false):=λj h1 h2=>by obtain⟨e1,he1,hh⟩:=items j h1 h2;rw[he1];exact hh
            rcases k with _|_
            ·
              have hl:l.length=l'.length:=jr λz=>re ⟨rfl,z⟩;have hsz:qu.toArray.size=its'.toArray.size:=by rw[len1,len2,hl]
              have z1:=SeqAt.RcAt.lists sq sq' hsz hu0 he;have z2:=SeqAt.RcNeAt.lists sq sq' hsz hu0 he;have hr2:b= (zE qu.toArray.size).all λj=>(eqN n G (l.getD j .non) (l'.getD j .non)).getD false:=by rw[hr,len1,hl];simp
              rw[<-hr2]at z1 z2;exact⟨z1,z2⟩
            ·
              have z1:=SeqAt.RcAt.tuples sq sq' hu0 he;have z2:=SeqAt.RcNeAt.tuples sq sq' hu0 he;rw[len1,len2,<-hr]at z1 z2;exact⟨z1,z2⟩
        · rw[if_neg hk]at e
          cases e
          cases k<;>cases k'<;>first
           |exact absurd rfl hk
           |exact⟨SeqAt.RcAt.list_tuple sq sq' hu0,SeqAt.RcNeAt.list_tuple sq sq' hu0⟩
           |exact⟨SeqAt.RcAt.tuple_list sq sq' hu0,SeqAt.RcNeAt.tuple_list sq sq' hu0⟩
       refine⟨main.1,main.2,?_⟩;by_cases ha:a=a'
       ·subst ha;have:b=true:=iO I h (n+1) rx ry rv e0;rw[this];exact Xq _
       ·exact SeqAt.EqAt.of_refs ha main.1
end
section
def eqD:D->D->M D:=λx y G=>match eqN 40 G x y with
 |some b=>some (.ok (.bl b),G)
 |none=>none
def neD:D->D->M D:=λx y G=>match eqN 40 G x y with
 |some b=>some (.ok (.bl (!b)),G)
 |none=>none
theorem vV(hu:X.A.units+64<xh):OpD X Z (ja .Eq) eqD:=⟨by
 intro pins s σ H x y v u Q I rx ry rc;refine rc.elim λdx dy μ G sk su hr p=>?_;unfold eqD at p;rcases e:eqN 40 G dx dy with _|b
 ·rw[e]at p;exact p.elim
 ·
   rw[e]at p;exact(GD I hr 40 X.A (by lia) sk su rx ry e).1 X.prog X.w X.xe _ ⟨.bl b,H,I,rfl,c7.ok p hr _ ofB⟩⟩
theorem il(hu:X.A.units+64<xh):OpD X Z (ja .NotEq) neD:=⟨by
 intro pins s σ H x y v u Q I rx ry rc;refine rc.elim λdx dy μ G sk su hr p=>?_;unfold neD at p;rcases e:eqN 40 G dx dy with _|b
 ·rw[e]at p;exact p.elim
 ·
   rw[e]at p;exact(GD I hr 40 X.A (by lia) sk su rx ry e).2.1 X.prog X.w X.xe _ ⟨.bl (!b),H,I,rfl,c7.ok p hr _ ofB⟩⟩
def leD:D->D->M D:=λx y=>match x,y with
 | .int i,.int j=>pure (.bl (decide (i<=j)))
 | .str i,.str j=>pure (.bl (!decide (j.cps.toList<i.cps.toList)))
 |_,_=>M.stuck
def gtD:D->D->M D:=λx y=>match x,y with
 | .int i,.int j=>pure (.bl (decide (j<i)))
 | .str i,.str j=>pure (.bl (decide (j.cps.toList<i.cps.toList)))
 |_,_=>M.stuck
def geD:D->D->M D:=λx y=>match x,y with
 | .int i,.int j=>pure (.bl (decide (j<=i)))
 | .str i,.str j=>pure (.bl (!decide (i.cps.toList<j.cps.toList)))
 |_,_=>M.stuck
theorem qH{op:CmpOp}{fi:Int->Int->Bool}{fs:Str->Str->Bool}(hi:OpR X (ja op) (A9 λi j=>.bl (fi i j)))
 (hs:∀(i j:Str) (t u:Tok) (s:zw) Q E,Q (.bool (fs i j)) s->zo (zA X.prog X.w) X.A (ja op (.str i t) (.str j u)) Q E s)
 (h1:∀i j,o (.int i) (.int j)=pure (.bl (fi i j))) (h2:∀i j,o (.str i) (.str j)=pure (.bl (fs i j)))
 (h3:∀x y,(∀i j,¬(x= .int i/\y= .int j))->(∀i j,¬(x= .str i/\y= .str j))->o x y=M.stuck):OpD X Z (ja op) o:=⟨by
 intro pins s σ H x y v u Q I rx ry rc;refine rc.elim λdx dy μ G sk su hr p=>?_;by_cases c1:∃i j,dx= .int i/\dy= .int j
 ·obtain⟨i,j,rfl,rfl⟩:=c1;rw[h1]at p;exact hi pins s σ H x y v u Q I rx ry ⟨i,j,T7 sk,T7 su,c7.ok p hr _ ofB⟩
 · by_cases c2:∃i j,dx= .str i/\dy= .str j
   ·obtain⟨i,j,rfl,rfl⟩:=c2;rw[h2]at p;have e1:=Q1 sk;have e2:=Q1 su;subst e1 e2;obtain⟨t,rfl⟩:=rx;obtain⟨t',rfl⟩:=ry;exact hs i j t t' s _ _ ⟨.bl (fs i j),H,I,rfl,c7.ok p hr _ ofB⟩
   ·rw[h3 dx dy (λi j z=>c1 ⟨i,j,z⟩) (λi j z=>c2 ⟨i,j,z⟩)]at p;exact p.elim⟩
theorem KW:OpD X Z (ja .LtE) leD:=qH cj (λ_ _ _ _ _ _ _ q=>PySem.P.le_str q) (λ_ _=>rfl) (λ_ _=>rfl) λx y n1 n2=>by
 rcases x with _|_|_|_|_|_|_|_<;>rcases y with _|_|_|_|_|_|_|_<;>first
  |rfl
  |exact absurd ⟨rfl,rfl⟩ (n1 _ _)
  |exact absurd ⟨rfl,rfl⟩ (n2 _ _)
theorem iY:OpD X Z (ja .Gt) gtD:=qH nY (λ_ _ _ _ _ _ _ q=>PySem.P.gt_str q) (λ_ _=>rfl) (λ_ _=>rfl) λx y n1 n2=>by
 rcases x with _|_|_|_|_|_|_|_<;>rcases y with _|_|_|_|_|_|_|_<;>first
  |rfl
  |exact absurd ⟨rfl,rfl⟩ (n1 _ _)
  |exact absurd ⟨rfl,rfl⟩ (n2 _ _)
theorem aY:OpD X Z (ja .GtE) geD:=qH AX (λ_ _ _ _ _ _ _ q=>PySem.P.ge_str q) (λ_ _=>rfl) (λ_ _=>rfl) λx y n1 n2=>by
 rcases x with _|_|_|_|_|_|_|_<;>rcases y with _|_|_|_|_|_|_|_<;>first
  |rfl
  |exact absurd ⟨rfl,rfl⟩ (n1 _ _)
  |exact absurd ⟨rfl,rfl⟩ (n2 _ _)
def KI:D->Bool
 | .non=>true
 |_=>false
theorem qP(r:d7 c μ H d v):decide (v= .non)=KI d:=by
 cases d with
 |non=>rw[WC r];rfl
 |tup l=>unfold d7 at r;obtain⟨a,_,rfl,_⟩:=r;rfl
 |ref l=>unfold d7 at r;obtain⟨a,_,rfl⟩:=r;rfl
 |fn l=>unfold d7 at r;obtain⟨a,_,rfl⟩:=r;rfl
 |_=>unfold d7 at r;subst r;rfl
def E3:D->M D:=λx=>match x with
 | .int i=>pure (.int (-i))
 |_=>M.stuck
theorem bY:UnD X Z (unaryOp .USub) E3:=⟨by
 intro pins s σ H x v Q I rx rc;refine rc.elim λdx μ G sk hr p=>?_
 cases dx<;>first
  |exact p.elim
  |exact Sg pins s σ H x v Q I rx ⟨_,T7 sk,c7.ok p hr _ ofI⟩⟩
instance (x:Str) (n:Int):Decidable (Ja x n):=by unfold Ja;infer_instance
def F2:D->D->M D:=λx y=>match x,y with
 | .int i,.int j=>if E7 i j then pure (.int (i*j))else M.stuck
 | .str x,.int n=>if Ja x n then pure (.str (Txt.mul x n))else M.stuck
 |_,_=>M.stuck
theorem mq:OpR X (yE .Mult) (λx y H Q=>∃z n,x= .str z/\y= .int n/\Ja z n/\Q (.str (Txt.mul z n)) H):=by intro pins s σ H x y v u Q I rx ry h;obtain⟨z,n,rfl,rfl,hk,q⟩:=h;obtain⟨t,rfl⟩:=rx;obtain⟨t',rfl⟩:=ry;exact PySem.SB.mul hk λt' k=>⟨.str _,H,I.tok _,⟨_,rfl⟩,q⟩
theorem wg:OpD X Z (yE .Mult) F2:=
 OpD.of (OpR.or nq mq) λx y H Q rc=>rc.elim λdx dy μ G sk su hr p=>by
  rcases dx with _|_|_|_|_|_|_|_<;>rcases dy with _|_|_|_|_|_|_|_<;>first
   |exact p.elim
   |skip
  · unfold F2 at p;dsimp only at p;split at p
    ·rename_i hc;exact .inl ⟨_,_,T7 sk,T7 su,hc,c7.ok p hr _ ofI⟩
    ·exact p.elim
  · unfold F2 at p;dsimp only at p;split at p
    ·rename_i hc;exact .inr ⟨_,_,Q1 sk,T7 su,hc,c7.ok p hr _ ofS⟩
    ·exact p.elim
end
def QK(A:jm)(s:zw)(y x:zg)(b:Bool):Prop:=
 ∀(prog:zV) (w:je) (E:VSP) (Q:VSP),Q (.bool b) s->zo (zA prog w) A (richCompare .Lt y x) Q E s
inductive LtR(A:jm)(s:zw):List zg->List zg->Bool->Prop
 |nil:LtR A s [] [] false
 |nilc {y ys}:LtR A s [] (y::ys) true
 |cnil {x xs}:LtR A s (x::xs) [] false
 |eq {x y xs ys b}:yj A s x y true->LtR A s xs ys b->LtR A s (x::xs) (y::ys) b
 |ne {x y xs ys b}:yj A s x y false->QK A s x y b->LtR A s (x::xs) (y::ys) b
section
open PySem.SeqAt
open PySem.AutoSeq1 (wpAny_loadPart')
open PySem.MeetsSeq PySem.MeetsSeq2 PySem.MeetsSeq3
theorem Rb(l b:Addr)(items rh:Array zg)(n n2:Nat)(dd dd2:Option Addr)(sl sl2:Array (Option zg))(k:Bool):
 Meets (jQ.«tuple.__lt__» ⟨[.ref l,.ref b], []⟩)
  (λA R s=>s.heap.get? l=some {cls:=.type "tuple",dict:=dd,data:=.seq items n,slots:=sl}/\s.heap.get? b=some {cls:=.type "tuple",dict:=dd2,data:=.seq rh n2,slots:=sl2}/\
    LtR A.in1 s items.toList rh.toList k/\R (.ok (.ret (.bool k))) s):=
 .of_wp λprog w A R s h=>by
  obtain⟨hp,g,d,tk,os⟩:=s;obtain⟨hl,hb,hk,h⟩:=h;have f2:=AutoSeq1.sub_tuple_tuple
  wp_walk using jD hl,jD hb,JO _ (λrest b s'=>b.1=none/\s'= ⟨hp,g,d,tk,os⟩/\∃(vs ws:List zg),rest=vs.zip ws/\
   vs.length+rh.size=ws.length+items.size/\LtR A.in1 ⟨hp,g,d,tk,os⟩ vs ws k) _
  case turn=>
   rintro⟨y,x⟩ rest b s' ⟨ue,rfl,vs,ws,hz,re,hR⟩
   cases hR with
   |nil=>exact vI hz
   |nilc=>exact vI hz
   |cnil=>exact vI hz
   |eq he hR'=>
     rw[Zd]at hz;injection hz with hyx hrest;injection hyx with hy hx;subst hy hx;refine za (he prog w _ _ ?_)
     wp_walk
     simp only[zu]at re;exact⟨rfl,rfl,_,_,hrest,by lia,hR'⟩
   |ne he hc=>
     rw[Zd]at hz;injection hz with hyx hrest;injection hyx with hy hx;subst hy hx;refine za (he prog w _ _ ?_);have hri:=hc prog w
     wp_walk using hri
     exact⟨_,rfl,h⟩
  case fin=>
   rintro⟨b1,b2⟩ s' ⟨ue,rfl,vs,ws,hz,re,hR⟩;simp only at ue;subst ue;have hv:k=decide (items.size<rh.size):=by
    cases hR with
    |nil=>simp only[yM]at re;exact(decide_eq_false (by lia)).symm
    |nilc=>simp only[yM,zu]at re;exact(decide_eq_true (by lia)).symm
    |cnil=>simp only[yM,zu]at re;exact(decide_eq_false (by lia)).symm
    |eq _ _=>rw[Zd]at hz;exact QG hz
    |ne _ _=>rw[Zd]at hz;exact QG hz
   rw[hv]at h
   wp_walk
   exact⟨_,rfl,by simpa [Builtin.Tuple.tupleCompareSizes]using h⟩
  case h=>
   exact⟨rfl,rfl,items.toList,rh.toList,rfl,by simp;lia,hk⟩
theorem tZ(l b:Addr)(items rh:Array zg)(n n2:Nat)(dd dd2:Option Addr)(sl sl2:Array (Option zg))(k:Bool):∀vs ws i,items.toList.drop i=vs->rh.toList.drop i=ws->i<=items.size->i<=rh.size->
 Meets (jQ.«list.__eq__.loop» ⟨[.ref l,.ref b,yC i,yC 0], []⟩)
  (λA R s=>s.heap.get? l=some {cls:=.type "list",dict:=dd,data:=.seq items n,slots:=sl}/\s.heap.get? b=some {cls:=.type "list",dict:=dd2,data:=.seq rh n2,slots:=sl2}/\
    LtR A.in1 s vs ws k/\R (.ok (.ret (.bool k))) s):=by
 have dropn:∀(a:Array zg) (i:Nat),a.toList.drop i= []->i<=a.size->i=a.size:=λa i e hi=>by have:=List.drop_eq_nil_iff.mp e;simp at this;lia
 have dropc:∀(a:Array zg) (i:Nat) (v:zg) (r:List zg),a.toList.drop i=v::r->i<a.size/\a[((i:Nat):Int).toNat]? =some v/\a.toList.drop (i+1)=r:=λa i v r e=>by
  have sd:i<a.toList.length:=by
   rcases Zj i a.toList.length with q|q
   ·exact q
   ·rw[YA q]at e;exact QG e
  rw[ZW sd]at e;injection e with e1 e2;refine⟨by simpa using sd,?_,e2⟩;simp at sd;simp[sd];simpa using e1
 intro vs
 induction vs with
 |nil=>
   intro ws i hv hw hi hi2 prog w A R s h;obtain⟨hp,g,d,tk,os⟩:=s;obtain⟨hl,hb,he,h⟩:=h;have e1:=dropn items i hv hi
   wp_walk using jD hl,jD hb
   have hi1:items[((i:Nat):Int).toNat]? =none:=by simp;lia
   rw[hi1];rcases ws with _|⟨y,ys⟩
   ·
     have e2:=dropn rh i hw hi2
     cases he
     wp_walk using jD hl,jD hb
     show R (.ok (.ret (.bool (decide (items.size<rh.size))))) _;rw[decide_eq_false (by lia)];exact h
   ·
     obtain⟨sd,_,_⟩:=dropc rh i y ys hw
     cases he
     wp_walk using jD hl,jD hb
     show R (.ok (.ret (.bool (decide (items.size<rh.size))))) _;rw[decide_eq_true (by lia)];exact h
 |cons x xs ih=>
   intro ws i hv hw hi hi2 prog w A R s h;obtain⟨hp,g,d,tk,os⟩:=s;obtain⟨hl,hb,he,h⟩:=h;obtain⟨sd,g1,d1⟩:=dropc items i x xs hv
   wp_walk using jD hl,jD hb
   rcases ws with _|⟨y,ys⟩
   ·
     have e2:=dropn rh i hw hi2;have hi2':rh[((i:Nat):Int).toNat]? =none:=by simp;lia
     rw[g1,hi2']
     cases he
     wp_walk using jD hl,jD hb
     show R (.ok (.ret (.bool (decide (items.size<rh.size))))) _;rw[decide_eq_false (by lia)];exact h
   ·
     obtain⟨hlt2,g2,d2⟩:=dropc rh i y ys hw;have hc:((i:Int)+1)= ((i+1:Nat):Int):=by push_cast;rfl
     rw[g1,g2]
     cases he with
     |eq he he'=>
       refine za (he prog w _ _ ?_)
       wp_walk
       rw[hc];exact⟨yJ plain_eq_loop _,yt entry_eq_loop (by rw[jS plain_eq_loop _];exact ih ys (i+1) d1 d2 (by lia) (by lia) prog w A R _ ⟨hl,hb,he',h⟩)⟩
     |ne he hcmp=>
       refine za (he prog w _ _ ?_);have hri:=hcmp prog w
       wp_walk using jD hl,jD hb
       rw[g1,g2]
       wp_walk using hri
       exact h
theorem Qc(l b:Addr)(items rh:Array zg)(n n2:Nat)(dd dd2:Option Addr)(sl sl2:Array (Option zg))(k:Bool):
 Meets (jQ.«list.__lt__» ⟨[.ref l,.ref b], []⟩)
  (λA R s=>s.heap.get? l=some {cls:=.type "list",dict:=dd,data:=.seq items n,slots:=sl}/\s.heap.get? b=some {cls:=.type "list",dict:=dd2,data:=.seq rh n2,slots:=sl2}/\
    LtR A.in1 s items.toList rh.toList k/\R (.ok (.ret (.bool k))) s):=by
 intro prog w A R s h;obtain⟨hp,g,d,tk,os⟩:=s;obtain⟨hl,hb,he,h⟩:=h;have f3:=AutoSeq1.sub_list_list
 wp_walk using jD hl,jD hb
 exact⟨yJ plain_eq_loop _,yt entry_eq_loop (by rw[jS plain_eq_loop _];exact tZ l b items rh n n2 dd dd2 sl sl2 k items.toList rh.toList 0 rfl rfl (zL _) (zL _) prog w A R _ ⟨hl,hb,he,h⟩)⟩
end
def ltS:D->D->Option Bool
 | .int a,.int b=>some (decide (a<b))
 | .str a,.str b=>some (decide (a.cps.toList<b.cps.toList))
 | .bl a,.bl b=>some (decide (b2i a<b2i b))
 |_,_=>none
def ltL(eq lt:D->D->Option Bool):List D->List D->Option Bool
 |[], []=>some false
 |[],_::_=>some true
 |_::_, []=>some false
 |x::xs,y::ys=>match eq x y with
   |some true=>ltL eq lt xs ys
   |some false=>lt x y
   |none=>none
def ltN:Nat->DH->D->D->Option Bool
 |0,_,_,_=>none
 |n+1,G,x,y=>match O0 G x,O0 G y with
   |some (k1,a),some (k2,b)=>if k1=k2 then ltL (eqN n G) (ltN n G) a b else none
   |none,none=>ltS x y
   |_,_=>none
theorem Wz:ltN (n+1) G x y=match O0 G x,O0 G y with
 |some (k1,a),some (k2,b)=>if k1=k2 then ltL (eqN n G) (ltN n G) a b else none
 |none,none=>ltS x y
 |_,_=>none:=rfl
section
theorem nn(rx:d7 c μ H dx x)(ry:d7 c μ H dy y)(rv:t6 x v)(ru:t6 y u)(e:ltS dx dy=some b):QK A s v u b:=by
 intro prog w E Q hq;rcases dx with _|_|_|_|_|_|_|_<;>rcases dy with _|_|_|_|_|_|_|_<;>first
  |(cases e;done)
  |skip
 · cases e
   unfold d7 at rx ry;subst rx ry;cases rv;cases ru;exact(lt_bool hq:zo (zA prog w) A (ja .Lt _ _) Q E s)
 · cases e
   unfold d7 at rx ry;subst rx ry;obtain⟨t,rfl⟩:=rv;obtain⟨t',rfl⟩:=ru;exact(lt_int hq:zo (zA prog w) A (ja .Lt _ _) Q E s)
 · cases e
   unfold d7 at rx ry;subst rx ry;obtain⟨t,rfl⟩:=rv;obtain⟨t',rfl⟩:=ru;exact(lt_str hq:zo (zA prog w) A (ja .Lt _ _) Q E s)
theorem dP(I:Inv X pins σ H s)(h:m8 (wc X) μ G H):∀n A,A.units+n<xh->∀ {dx dy} {x y} {v u} {b},d7 (wc X) μ H dx x->d7 (wc X) μ H dy y->t6 x v->t6 y u->ltN n G dx dy=some b->QK A s v u b
 |0,_,_,_,_,_,_,_,_,_,_,_,_,_,e=>by exact u6 e
 |n+1,A,hu,dx,dy,x,y,v,u,b,rx,ry,rv,ru,e=>by
   have hu0:A.units<xh:=by lia
   have hu1:A.in1.units+n<xh:=by show A.units+1+n<xh;lia
   rw[Wz]at e;rcases hx:O0 G dx with _|p
   ·
     rw[hx]at e;rcases hy:O0 G dy with _|p
     ·rw[hy]at e;exact nn rx ry rv ru e
     ·rw[hy]at e;exact u6 e
   ·
     obtain⟨k,l⟩:=p;rw[hx]at e;rcases hy:O0 G dy with _|p'
     ·rw[hy]at e;exact u6 e
     ·
       obtain⟨k',l'⟩:=p';rw[hy]at e;dsimp only at e;split at e
       case isFalse=>exact u6 e
       rename_i hk;subst hk;obtain⟨a,vs,qu,rfl,rfl,rl,rr,sq,q⟩:=h9 I h hx rx rv;obtain⟨a',sy,its',rfl,rfl,si,rr',sq',q'⟩:=h9 I h hy ry ru;have main:∀(l l':List D) (vs sy:List V) (qu its':List zg),j6 (wc X) μ H l vs->j6 (wc X) μ H l' sy->m7 vs qu->m7 sy its'->ltL (eqN n G) (ltN n G) l l'=some b->LtR A.in1 s qu its' b:=by
        intro l
        induction l with
        |nil=>
          intro l' vs sy qu its' r r' q q' e
          cases r;cases q
          rcases l' with _|⟨_,_⟩
          ·cases r';cases q';cases e;exact .nil
          ·
            obtain⟨_,_,rfl,_,_⟩:=r'
            cases q'
            cases e
            exact .nilc
        |cons d ds ih=>
          intro l' vs sy qu its' r r' q q' e;obtain⟨v0,vr,rfl,r0,rt⟩:=r
          cases q with
          |cons q0 qt=>
            rcases l' with _|⟨d',ds'⟩
            ·cases r';cases q';cases e;exact .cnil
            ·
              obtain⟨v1,vr',rfl,r1,rt'⟩:=r'
              cases q' with
              |cons q1 qt'=>
                unfold ltL at e;rcases he:eqN n G d d' with _|b0
                ·rw[he]at e;exact u6 e
                ·
                  rw[he]at e;have hE:=(GD I h n A.in1 hu1 r0 r1 q0 q1 he).2.2;rcases b0 with _|_
                  ·exact .ne hE (dP I h n A.in1 hu1 r0 r1 q0 q1 e)
                  ·exact .eq hE (ih ds' vr vr' _ _ rt rt' qt qt' e)
       have hR:=main l l' vs sy qu its' rl si rr rr' e;intro prog w E Q hq;rcases k with _|_
       ·
         obtain⟨⟨cls,dd,data,sl⟩,ho,hc,m,hd⟩:=id sq;obtain⟨⟨cls2,dd2,data2,sl2⟩,sj,hc2,m2,hd2⟩:=id sq';simp only at hc hd hc2 hd2;subst hc hd hc2 hd2;exact richCompare_meets_room ⟨_,ho,rfl⟩ ⟨_,sj,rfl⟩ PySem.F.slot_list_lt PySem.F.entry_list_lt (PySem.F.args_list_lt_2 _ _) (Qc a a' qu.toArray its'.toArray m m2 dd dd2 sl sl2 b)
          ⟨ho,sj,hR,show Value.bool b≠Value.notImplemented/\Q (.bool b) s from⟨(λx=>nomatch x),hq⟩⟩ hu0
       ·
         obtain⟨⟨cls,dd,data,sl⟩,ho,hc,m,hd⟩:=id sq;obtain⟨⟨cls2,dd2,data2,sl2⟩,sj,hc2,m2,hd2⟩:=id sq';simp only at hc hd hc2 hd2;subst hc hd hc2 hd2;exact richCompare_meets_room ⟨_,ho,rfl⟩ ⟨_,sj,rfl⟩ PySem.F.slot_tuple_lt PySem.F.entry_tuple_lt (PySem.F.args_tuple_lt_2 _ _) (Rb a a' qu.toArray its'.toArray m m2 dd dd2 sl sl2 b)
          ⟨ho,sj,hR,show Value.bool b≠Value.notImplemented/\Q (.bool b) s from⟨(λx=>nomatch x),hq⟩⟩ hu0
def ltD:D->D->M D:=λx y G=>match ltN 40 G x y with
 |some b=>some (.ok (.bl b),G)
 |none=>none
theorem SS(hu:X.A.units+64<xh):OpD X Z (ja .Lt) ltD:=⟨by
 intro pins s σ H x y v u Q I rx ry rc;refine rc.elim λdx dy μ G sk su hr p=>?_;unfold ltD at p;rcases e:ltN 40 G dx dy with _|b
 ·rw[e]at p;exact p.elim
 ·
   rw[e]at p;exact dP I hr 40 X.A (by lia) sk su rx ry e X.prog X.w X.xe _ ⟨.bl b,H,I,rfl,c7.ok p hr _ ofB⟩⟩
end
def u8:D->Bool
 | .non=>true
 | .bl _=>true
 | .int _=>true
 | .str _=>true
 |_=>false
def toV:D->V
 | .bl b=>.bl b
 | .int i=>.int i
 | .str x=>.str x
 |_=>.non
def r8:D->Option Key
 | .int i=>some (.inl i)
 | .str x=>some (.inr x)
 |_=>none
def t5(l:List (Key×D))(k:Key):Option D:=(l.find? λkv=>decide (kv.1=k)).map (·.2)
def inB(x y:D)(G:DH):Option Bool:=match y with
 | .str j=>match x with
   | .str i=>some (!(ZD j i 0 j.length 1).isEmpty)
   |_=>none
 | .ref r=>match G[r]? with
   |some (.dct l)=>(r8 x).map λk=>(t5 l k).isSome
   |some (.rod _)=>none
   |some (.lst l)=>if u8 x&&l.all u8 then some (inV (toV x) (l.map toV))else none
   |some (.rol l)=>if u8 x&&l.all u8 then some (inV (toV x) (l.map toV))else none
   |none=>none
 | .tup l=>if u8 x&&l.all u8 then some (inV (toV x) (l.map toV))else none
 |_=>none
def inD:D->D->M D:=λx y G=>match inB x y G with
 |some b=>some (.ok (.bl b),G)
 |none=>none
def qC:D->D->M D:=λx y G=>match inB x y G with
 |some b=>some (.ok (.bl (!b)),G)
 |none=>none
section
theorem vP(f:u8 d=true)(r:d7 c μ H d v):v=toV d/\P6 v=true:=by
 cases d<;>first
  |exact absurd (show false=true from f) zz
  |(unfold d7 at r;subst r;exact⟨rfl,rfl⟩)
theorem TN:∀ {l} {vs},l.all u8=true->j6 c μ H l vs->vs=l.map toV/\vs.all P6=true
 |[],_,_,r=>by cases r;exact⟨rfl,rfl⟩
 |d::ds,_,f,r=>by obtain⟨v,t,rfl,q,rt⟩:=r;rw[jX,jy]at f;obtain⟨e1,e2⟩:=vP f.1 q;obtain⟨e3,e4⟩:=TN f.2 rt;refine⟨by rw[zH,<-e1,<-e3],?_⟩;rw[jX,e2,e4];rfl
theorem QH(e:r8 d=some k)(r:d7 c μ H d v):v=kV k:=by
 cases d<;>first
  |(cases e;unfold d7 at r;exact r)
  |exact u6 e
theorem iP:∀ {l} {rb},V0 c μ H l rb->match t5 l k with|some d=>∃v,L3 rb k=some v/\d7 c μ H d v|none=>L3 rb k=none
 |[],_,r=>by cases r;exact rfl
 |(k',d)::t,_,r=>by
  obtain⟨v,kt,rfl,q,rt⟩:=r;by_cases e:k'=k
  · have h1:t5 ((k',d)::t) k=some d:=by unfold t5;simp[e]
    rw[h1];exact⟨v,LF e,q⟩
  · have h1:t5 ((k',d)::t) k=t5 t k:=by unfold t5;simp[e]
    rw[h1];have ih:=iP (k:=k) rt;rw[nH e];exact ih
theorem Tp(r:V0 c μ H l rb):(t5 l k).isSome= (L3 rb k).isSome:=by
 have q:=iP (k:=k) r;rcases e:t5 l k with _|d
 ·rw[e]at q;rw[q];rfl
 ·rw[e]at q;obtain⟨v,q,_⟩:=q;rw[q];rfl
theorem HM(hu:X.A.units+64<xh)(I:Inv X pins σ H s)(hr:m8 (wc X) μ G H)(sk:d7 (wc X) μ H dx x)(su:d7 (wc X) μ H dy y)(rx:t6 x v)(ry:t6 y u)
 (e:inB dx dy G=some b):
 (Q (.bl b) H->zo (zA X.prog X.w) X.A (ja .In v u) (EP X pins σ Q) X.xe s)/\(Q (.bl (!b)) H->zo (zA X.prog X.w) X.A (ja .NotIn v u) (EP X pins σ Q) X.xe s):=by
 have seq:∀(p:Addr) (l:List D) (vs:List V),y= .ref p->(SqL X.K H p vs\/SqT X.K H p vs)->j6 (wc X) μ H l vs->(if (u8 dx&&l.all u8)=true then some (inV (toV dx) (l.map toV))else none)=some b->
  (Q (.bl b) H->zo (zA X.prog X.w) X.A (ja .In v u) (EP X pins σ Q) X.xe s)/\(Q (.bl (!b)) H->zo (zA X.prog X.w) X.A (ja .NotIn v u) (EP X pins σ Q) X.xe s):=by
  intro p l vs hy hq rl e;split at e
  · rename_i hf;rw[jy]at hf
    cases e
    obtain⟨e1,e2⟩:=vP hf.1 sk;obtain⟨e3,e4⟩:=TN hf.2 rl;rw[<-e1,<-e3];exact⟨λq=>mW pins s σ H x y v u Q I rx ry ⟨p,vs,hy,hq,e2,e4,q⟩,λq=>Dx pins s σ H x y v u Q I rx ry ⟨p,vs,hy,hq,e2,e4,q⟩⟩
  ·exact u6 e
 rcases dy with _|_|_|j|l|i|_|_<;>try (cases e;done)
 ·
   rcases dx with _|_|_|i|_|_|_|_<;>try (cases e;done)
   ·
     cases e
     have e1:=Q1 sk;have e2:=Q1 su;exact⟨λq=>qq pins s σ H x y v u Q I rx ry ⟨i,j,e1,e2,q⟩,λq=>OX pins s σ H x y v u Q I rx ry ⟨i,j,e1,e2,q⟩⟩
 ·
   unfold d7 at su;obtain⟨a,vs,hy,q,rl⟩:=su;exact seq a l vs hy (.inr q) rl e
 ·
   unfold d7 at su;obtain⟨a,m,hy⟩:=su;rcases g:G[i]? with _|o
   ·unfold inB at e;simp only[g]at e;exact u6 e
   ·
     have ro:=hr.obj i o a g m;rcases o with l|l|l|l
     ·
       obtain⟨vs,q,rl⟩:=ro;unfold inB at e;simp only[g]at e;exact seq a l vs hy (.inl (SqL.of q)) rl e
     ·
       obtain⟨vs,q,rl⟩:=ro;unfold inB at e;simp only[g]at e;exact seq a l vs hy (.inl q.sq) rl e
     ·
       obtain⟨rb,q,rk⟩:=ro;unfold inB at e;simp only[g]at e;rcases hk:r8 dx with _|k
       ·rw[hk]at e;exact u6 e
       ·
         rw[hk]at e
         cases e
         have ek:=QH hk sk;have dg:bC H a x (L3 rb k):=by rw[ek];exact bC.k q
         subst hy
         cases ry
         dsimp only;rw[Tp rk];exact⟨λq=>Cg (by lia) I dg rx λs' I'=>⟨.bl _,H,I',rfl,q⟩,λq=>Mv (by lia) I dg rx λs' I'=>⟨.bl _,H,I',rfl,q⟩⟩
     ·unfold inB at e;simp only[g]at e;exact u6 e
theorem pY(hu:X.A.units+64<xh):OpD X Z (ja .In) inD:=⟨by
 intro pins s σ H x y v u Q I rx ry rc;refine rc.elim λdx dy μ G sk su hr p=>?_;unfold inD at p;rcases e:inB dx dy G with _|b
 ·rw[e]at p;exact p.elim
 ·rw[e]at p;exact(HM hu I hr sk su rx ry e).1 (c7.ok p hr _ ofB)⟩
theorem AZ(hu:X.A.units+64<xh):OpD X Z (ja .NotIn) qC:=⟨by
 intro pins s σ H x y v u Q I rx ry rc;refine rc.elim λdx dy μ G sk su hr p=>?_;unfold qC at p;rcases e:inB dx dy G with _|b
 ·rw[e]at p;exact p.elim
 ·rw[e]at p;exact(HM hu I hr sk su rx ry e).2 (c7.ok p hr _ ofB)⟩
inductive Ty where
 |int|bool|str|tuple|list|dict
 deriving DecidableEq
def Ty.name:Ty->String
 | .int=> "int"| .bool=> "bool"| .str=> "str"| .tuple=> "tuple"| .list=> "list"| .dict=> "dict"
def Ty.of(n:String):Option Ty:=if n= "int" then some .int else if n= "bool" then some .bool else if n= "str" then some .str else if n= "tuple" then some .tuple else if n= "list" then some .list else if n= "dict" then some .dict else none
theorem Ty.of_name{n:String}{T:Ty}(h:Ty.of n=some T):n=T.name:=by
 unfold Ty.of at h;split at h
 ·rename_i e;cases h;exact e
 split at h
 ·rename_i e;cases h;exact e
 split at h
 ·rename_i e;cases h;exact e
 split at h
 ·rename_i e;cases h;exact e
 split at h
 ·rename_i e;cases h;exact e
 split at h
 ·rename_i e;cases h;exact e
 ·exact u6 h
inductive Kd where
 |non|bool|int|str|tuple|list|dict
def Kd.is:Kd->Ty->Bool
 | .bool,.int=>true
 | .bool,.bool=>true
 | .int,.int=>true
 | .str,.str=>true
 | .tuple,.tuple=>true
 | .list,.list=>true
 | .dict,.dict=>true
 |_,_=>false
def Kd.name:Kd->String
 | .non=> "NoneType"| .bool=> "bool"| .int=> "int"| .str=> "str"| .tuple=> "tuple"| .list=> "list"| .dict=> "dict"
def gC(G:DH):D->Option Kd
 | .non=>some .non
 | .bl _=>some .bool
 | .int _=>some .int
 | .str _=>some .str
 | .tup _=>some .tuple
 | .ref i=>match G[i]? with
   |some (.lst _)=>some .list
   |some (.rol _)=>some .list
   |some (.dct _)=>some .dict
   |some (.rod _)=>some .dict
   |none=>none
 |_=>none
def AB:List D->Option (List Ty)
 |[]=>some []
 | .ty n::r=>match Ty.of n,AB r with
   |some T,some Ts=>some (T::Ts)
   |_,_=>none
 |_=>none
def K6:List D->M D:=λds G=>match ds with
 |[d,.ty n]=>match gC G d,Ty.of n with
   |some k,some T=>some (.ok (.bl (k.is T)),G)
   |_,_=>none
 |[d,.tup l]=>match gC G d,AB l with
   |some k,some Ts=>some (.ok (.bl (Ts.any k.is)),G)
   |_,_=>none
 |_=>none
theorem ci(K:zj)(k:Kd)(T:Ty):PySem.W.kitOne K (.type k.name) (.type T.name)=some (k.is T):=by
 cases k<;>cases T<;>rfl
theorem IR{A:jm}{E:VSP}{pins:PNS}{σ:St}{s:zw}{d:D}{x:V}{v:zg}{k:Kd}(I:Inv X pins σ H s)(hr:m8 (wc X) μ G H)(r:d7 (wc X) μ H d x)(rv:t6 x v)(e:gC G d=some k):
 ∃HH:Heap->Prop,PySem.W.KitX X.K v (.type k.name) HH/\HH s.heap/\v≠ .builtin "__main__.__loader__#opaque":=by
 rcases d with _|b|b|b|l|i|_|_<;>try (cases e;done)
 ·cases e;unfold d7 at r;subst r;cases rv;exact⟨_,PySem.W.kitx_none,True.intro,λz=>nomatch z⟩
 ·cases e;unfold d7 at r;subst r;cases rv;exact⟨_,PySem.W.kitx_bool,True.intro,λz=>nomatch z⟩
 ·cases e;unfold d7 at r;subst r;obtain⟨t,rfl⟩:=rv;exact⟨_,PySem.W.kitx_int,True.intro,λz=>nomatch z⟩
 ·cases e;unfold d7 at r;subst r;obtain⟨t,rfl⟩:=rv;exact⟨_,PySem.W.kitx_str,True.intro,λz=>nomatch z⟩
 ·
   cases e
   unfold d7 at r;obtain⟨a,vs,rfl,q,_⟩:=r
   cases rv
   obtain⟨qu,_,⟨o,h1,h2,_⟩,_⟩:=I.tuple q;exact⟨_,PySem.W.kitx_tuple,⟨o,h1,h2⟩,λz=>nomatch z⟩
 ·
   unfold d7 at r;obtain⟨a,m,rfl⟩:=r
   cases rv
   unfold gC at e;rcases g:G[i]? with _|o
   ·simp only[g]at e;exact u6 e
   ·
     have ro:=hr.obj i o a g m;simp only[g]at e;rcases o with l|l|l|l
     ·
       cases e
       obtain⟨vs,q,_⟩:=ro;obtain⟨qu,_,⟨o,n,h1,h2,_⟩,_⟩:=I.list (SqL.of q);exact⟨_,PySem.W.kitx_list,⟨o,h1,h2⟩,λz=>nomatch z⟩
     ·
       cases e
       obtain⟨vs,q,_⟩:=ro;obtain⟨qu,_,⟨o,n,h1,h2,_⟩,_⟩:=I.list q.sq;exact⟨_,PySem.W.kitx_list,⟨o,h1,h2⟩,λz=>nomatch z⟩
     ·
       cases e
       obtain⟨rb,q,_⟩:=ro;obtain⟨_,_,vs,_,o,es,ep,h1,h2,_⟩:=(show O4 X.prog X.w H s.heap a (.dK rb)from I.hok a _ q);exact⟨_,PySem.W.kitx_dict,⟨o,h1,h2.1⟩,λz=>nomatch z⟩
     ·
       cases e
       obtain⟨rb,ob,q,_⟩:=ro;obtain⟨_,_,_,vs,_,o,es,ep,h1,h2,_⟩:=(show O4 X.prog X.w H s.heap a (.frz ob (.dK rb))from I.hok a _ q);exact⟨_,PySem.W.kitx_dict,⟨o,h1,h2.1⟩,λz=>nomatch z⟩
theorem RM:∀ {l:List D} {vs:List V} {us:List zg} {Ts:List Ty},AB l=some Ts->j6 c μ H l vs->m7 vs us->us=Ts.map λT=>.type T.name
 |[],_,_,_,e,r,q=>by cases e;cases r;cases q;rfl
 |d::ds,_,_,Ts,e,r,q=>by
   obtain⟨v,t,rfl,r0,rt⟩:=r
   cases q with
   |cons q0 qt=>
     rcases d with _|_|_|_|_|_|_|n<;>try (cases e;done)
     ·
       replace e:(match Ty.of n,AB ds with|some T,some Ts=>some (T::Ts)|_,_=>none)=some Ts:=e;rcases h1:Ty.of n with _|T
       ·rw[h1]at e;exact u6 e
       ·
         rcases h2:AB ds with _|Ts'
         ·rw[h1,h2]at e;exact u6 e
         ·
           rw[h1,h2]at e
           cases e
           unfold d7 at r0;subst r0;rw[RM h2 rt qt,zH,show _=Value.type n from q0,Ty.of_name h1]
theorem eR(K:zj)(k:Kd):∀Ts:List Ty,PySem.W.kitAny K (.type k.name) (Ts.map λT=>.type T.name)=some (Ts.any k.is)
 |[]=>rfl
 |T::Ts=>by
   have ih:=eR K k Ts
   cases k<;>cases T<;>first
    |rfl
    |exact ih
theorem bx:O7 X Z (.builtin "isinstance") K6:=⟨by
 intro pins s σ H xs us Q I r rc;obtain⟨ds,μ,G,rl,hr,p⟩:=rc;rcases ds with _|⟨d,_|⟨_|_|_|_|l|_|_|n,_|⟨_,_⟩⟩⟩<;>try exact p.elim
 all_goals (delta K6 at p;dsimp only at p)
 · obtain⟨v,t,rfl,r0,v1,t1,rfl,r1,e⟩:=rl
   cases e
   obtain⟨u,u',rfl,ru,ru'⟩:=KC r;unfold d7 at r1;obtain⟨a,vs,rfl,q,rll⟩:=r1
   cases ru'
   rcases hk:gC G d with _|k
   ·rw[hk]at p;exact p.elim
   ·
     rcases hT:AB l with _|Ts
     ·rw[hk,hT]at p;exact p.elim
     ·
       rw[hk,hT]at p;obtain⟨HH,kx,hh,sf⟩:=IR (A:=X.A) (E:=X.xe) I hr r0 ru hk;obtain⟨qu,rr,⟨⟨cls,dd,data,sl⟩,h1,h2,n,h3⟩,_⟩:=I.tuple q;simp only at h2 h3;subst h2 h3;exact PySem.W.kia_tup kx I.kIn hh h1 (by rw[RM hT rll rr];exact eR X.K k Ts) sf λtk=>⟨.bl _,H,I.tok tk,rfl,c7.ok p hr _ ofB⟩
 · obtain⟨v,t,rfl,r0,v1,t1,rfl,r1,e⟩:=rl
   cases e
   obtain⟨u,u',rfl,ru,ru'⟩:=KC r;unfold d7 at r1;subst r1
   cases ru'
   rcases hk:gC G d with _|k
   ·rw[hk]at p;exact p.elim
   ·
     rcases hT:Ty.of n with _|T
     ·rw[hk,hT]at p;exact p.elim
     ·
       rw[hk,hT]at p;rw[Ty.of_name hT];obtain⟨HH,kx,hh,sf⟩:=IR (A:=X.A) (E:=X.xe) I hr r0 ru hk;exact PySem.W.kia_one kx I.kIn hh (ci X.K k T) sf λtk=>⟨.bl _,H,I.tok tk,rfl,c7.ok p hr _ ofB⟩⟩
end
theorem RO{c:Wc}{μ:List Addr}{H:Hp}{l:List D}{vs:List V}{i:Int}{d:D}(r:j6 c μ H l vs)(e:atI l i=some d):∃v,atI vs i=some v/\d7 c μ H d v:=by
 unfold atI at e ⊢;rw[<-r.length]
 cases h:ixN l.length i with
 |none=>rw[h]at e;cases e
 |some j=>
   rw[h]at e;obtain⟨v,h1,h2⟩:=r.get e;exact⟨v,h1,h2⟩
def ixD:D->D->M D:=λx y=>match x,y with
 | .tup l,.int i=>U1 (atI l i)
 | .str z,.int i=>if z.length<=zi then do
    let c <-U1 (atI z.cps.toList i)
    pure (.str ⟨#[c]⟩)
   else M.stuck
 | .ref r,.int i=>do
   let l <-K5 r >>= listOf
   U1 (atI l i)
 |_,_=>M.stuck
section
variable{X:Cx}{Z:XC}{a b e:Expr}{fa fb:Fe}{pos:Pos}
def IxD(X:Cx)(Z:XC)(o:D->D->M D):Prop:=IxR X (eA (wc X) Z o)
theorem PP{o:D->D->M D}(ho:IxD X Z o)(ha:DE X Z a fa)(hb:DE X Z b fb)(hs:aF b):DE X Z (.Subscript a b pos) (binE o fa fb):=DE.of (Hh ho ha.h hb.h hs) kH
theorem VJ{c:Wc}{μ:List Addr}{H:Hp}{G:DH}{r:Option D}{K:D->List Addr->DH->Hp->Prop}(h:m8 c μ G H)(p:c7 c Z μ H (U1 r G) K):∃d,r=some d/\K d μ G H:=by
 cases r with
 |none=>exact p.elim
 |some d=>exact⟨d,rfl,c7.ok p h⟩
theorem Pg:IxD X Z ixD:=IxR.mono (Px.or (ix_tup.or Hj)) λx y H Q rc=>rc.elim λdx dy μ G rx ry hr p=>by
 rcases dx with _|_|_|_|_|_|_|_<;>rcases dy with _|_|_|_|_|_|_|_<;>first
  |exact p.elim
  |skip
 · rename_i z i;refine .inr (.inr ?_);unfold ixD at p;dsimp only at p;split at p
   ·rename_i hz;obtain⟨c,ec,p2⟩:=O5 p;exact⟨z,i,c,Q1 rx,T7 ry,hz,ec,c7.ok p2 hr _ ofS⟩
   ·exact p.elim
 ·rename_i l i;refine .inr (.inl ?_);unfold d7 at rx;obtain⟨a,vs,rfl,q,rl⟩:=rx;obtain⟨d,ed,k⟩:=VJ hr p;obtain⟨v,ev,rv⟩:=RO rl ed;exact⟨a,vs,i,v,rfl,T7 ry,q,ev,k v rv⟩
 · rename_i r i;refine .inl ?_;obtain⟨l,a,vs,rfl,rl,p2,hq⟩:=SE hr rx p;obtain⟨d,ed,k⟩:=VJ hr p2;obtain⟨v,ev,rv⟩:=RO rl ed;rcases hq with⟨z,_⟩|⟨_,_,_,⟨_,q⟩|⟨_,q⟩⟩
   ·cases z
   ·exact⟨a,vs,i,v,rfl,T7 ry,SqL.of q,ev,k v rv⟩
   ·exact⟨a,vs,i,v,rfl,T7 ry,q.sq,ev,k v rv⟩
theorem gv(ha:DE X Z a fa)(hb:DE X Z b fb)(hs:aF b):DE X Z (.Subscript a b pos) (binE ixD fa fb):=PP Pg ha hb hs
def cutD(xs:List D)(lo hi:Option Int):List D:=(xs.drop (HT.sIx xs.length 0 lo)).take (HT.sIx xs.length xs.length hi-HT.sIx xs.length 0 lo)
abbrev Fo:=DSt->M (Option Int)
def c8:Fo:=λ_=>pure none
def T6(f:Fe):Fo:=λσ=>do
 match <-f σ with
 | .int i=>pure (some i)
 |_=>M.stuck
def OG(c:Wc)(Z:XC)(f:Fo):TO:=λσ H Q=>∃X9 μ G,u9 c μ H X9 σ/\m8 c μ G H/\c7 c Z μ H (f X9 G) λo _ _ H'=>Q o H'
theorem OG.elim{c:Wc}{Z:XC}{P:Prop}{f:Fo}{σ:St}{H:Hp}{Q:Option Int->Hp->Prop}(h:OG c Z f σ H Q)(k:∀X9 μ G,u9 c μ H X9 σ->m8 c μ G H->c7 c Z μ H (f X9 G) (λo _ _ H'=>Q o H')->P):P:=by obtain⟨e0,e1,e2,e3,e4,e5⟩:=h;exact k e0 e1 e2 e3 e4 e5
structure DOp(X:Cx)(Z:XC)(e:Option Expr)(f:Fo):Prop where
 h:PO X e (OG (wc X) Z f)
theorem PO.mono{e:Option Expr}{t t':TO}(h:PO X e t)(k:∀ σ H Q,t' σ H Q->t σ H Q):PO X e t':=λpins s σ H Q I q=>h pins s σ H Q I (k σ H Q q)
theorem DOp.of{e:Option Expr}{f:Fo}{t:TO}(h:PO X e t)(k:∀ σ H Q,OG (wc X) Z f σ H Q->t σ H Q):DOp X Z e f:=⟨PO.mono h k⟩
theorem Nh:DOp X Z none c8:=DOp.of Hd λσ H Q rc=>rc.elim λX9 μ G s h p=>c7.ok p h
theorem wj(h:DE X Z e fa):DOp X Z (some e) (T6 fa):=DOp.of (Wb h.h) λσ H Q rc=>rc.elim λX9 μ G s h p=>⟨X9,μ,G,s,h,(c7.bind p).mono λd X0 G1 H1 x1 h1 p1 v rv=>by
 cases d with
 |int i=>exact⟨i,T7 rv,c7.ok p1 h1⟩
 |_=>exact p1.elim⟩
def slD:D->Option Int->Option Int->M D:=λx lo hi=>match x with
 | .tup l=>pure (.tup (cutD l lo hi))
 | .ref r=>do
   let l <-K5 r >>= listOf
   J5 (.lst (cutD l lo hi))
 |_=>M.stuck
def SlD(X:Cx)(Z:XC)(o:D->Option Int->Option Int->M D):Prop:=
 SlR X λx lo hi H Q=>∃dx μ G,d7 (wc X) μ H dx x/\m8 (wc X) μ G H/\c7 (wc X) Z μ H (o dx lo hi G) λd X2 _ H'=>∀v,d7 (wc X) X2 H' d v->Q v H'
theorem SlR.mono{r r':V->Option Int->Option Int->Hp->VK->Prop}(h:SlR X r)(k:∀x lo hi H Q,r' x lo hi H Q->r x lo hi H Q):SlR X r':=λpins s σ H x v vl vu lo hi sl Q I rx hs pl pu q=>h pins s σ H x v vl vu lo hi sl Q I rx hs pl pu (k x lo hi H Q q)
theorem Gm{prog:zV}{w:je}{A:jm}{E:VSP}{s:zw}{t sl:Addr}{items:Array zg}{vl vu:zg}{lo hi:Option Int}{Q:VSP}(ht:xY s.heap t items)(hs:s.heap.IsSliceOf sl vl vu .none)(pl:IsPart vl lo)(pu:IsPart vu hi)
 (hw:HT.sIx items.size 0 lo=0/\HT.sIx items.size items.size hi=items.size) (h:Q (.ref t) s):zo (zA prog w) A (JA (.ref t) (.ref sl)) Q E s:=by
 obtain⟨os,hos,hcs,hds⟩:=id hs;have hTs:s.TypeIs (.ref sl) "slice":=⟨os,hos,hcs⟩;unfold JA
 try with_reducible refine jt ?_
 first|refine za (ze ?_)|skip
 refine za (wpAny_sequenceKey ht.typeIs (by decide) ?_);refine za (ju ht.typeIs jB
  (jk jB ht.typeIs entry_tuple_getitem ?_ (args_tuple_getitem _ _)))
 show zo _ _ (Xl (.ref t) >>= _) _ _ s;refine za (tupleItemsOf_ ht ?_);refine za (xD hTs ?_);rw[if_pos (by decide)];refine za (HT.sliceApplied_gen hs pl pu ?_);have hyes:(((HT.sIx items.size 0 lo:Nat):Int)==0&&(1:Int)==1&&(HT.sIx items.size items.size hi-HT.sIx items.size 0 lo)==items.size)=true:=by rw[hw.1,hw.2];simp
 show zo _ _ (if (((HT.sIx items.size 0 lo:Nat):Int)==0&&(1:Int)==1&&(HT.sIx items.size items.size hi-HT.sIx items.size 0 lo)==items.size)=true then _ else _) _ _ s;rw[if_pos hyes];unfold Builtin.Tuple.tupleIsExact;refine za (za (xD ht.typeIs (ze ?_)));rw[if_pos (by decide)];exact za (xE (ze ⟨_,rfl,ze h⟩))
def Wf(K:zj):V->Option Int->Option Int->Hp->VK->Prop:=λx lo hi H Q=>∃a xs,x= .ref a/\SqT K H a xs/\(HT.sIx xs.length 0 lo=0/\HT.sIx xs.length xs.length hi=xs.length)/\Q (.ref a) H
theorem Dm:SlR X (Wf X.K):=by
 intro pins s σ H x v vl vu lo hi sl Q I rx hs pl pu h;obtain⟨a,xs,rfl,hx,hw,q⟩:=h
 cases rx
 obtain⟨qu,r,ht,hz⟩:=I.tuple hx;have re:qu.toArray.size=xs.length:=by rw[zk];exact r.length.symm
 exact⟨"tuple",_,jB.lookup,ht.typeIs,Gm ht hs pl pu (by rw[re];exact hw) ⟨.ref a,H,I,rfl,q⟩⟩
theorem iK{c:Wc}{μ:List Addr}{H:Hp}{l:List D}{vs:List V}(r:j6 c μ H l vs)(lo hi:Option Int):j6 c μ H (cutD l lo hi) (f7 vs lo hi):=by unfold cutD f7;rw[r.length];exact(r.drop _).take _
theorem qU:SlD X Z slD:=SlR.mono (sl_tup.or (Dm.or GV)) λx lo hi H Q ⟨dx,μ,G,rx,hr,p⟩=>by
 rcases dx with _|_|_|_|l|r|_|_<;>try (exact p.elim;done)
 ·
   unfold d7 at rx;obtain⟨a,vs,rfl,q,rl⟩:=rx;by_cases hw:HT.sIx vs.length 0 lo=0/\HT.sIx vs.length vs.length hi=vs.length
   · refine .inr (.inl ⟨a,vs,rfl,q,hw,QI hr q ?_ p⟩);have e:f7 vs lo hi=vs:=by unfold f7;rw[hw.1,hw.2];simp
     have:=iK rl lo hi;rw[e]at this;exact this
   ·exact .inl ⟨a,vs,rfl,q,hw,λp' hp=>AF hr (iK rl lo hi) p p' hp⟩
 ·
   obtain⟨l,a,vs,rfl,rl,p2,hq⟩:=SE hr rx p;have hs:SqL (wc X).K H a vs:=by
    rcases hq with⟨z,_⟩|⟨_,_,_,⟨_,q⟩|⟨_,q⟩⟩
    ·cases z
    ·exact SqL.of q
    ·exact q.sq
   exact .inr (.inr ⟨a,vs,rfl,hs,λp' hp=>O6 hr (iK rl lo hi) p2 p' hp⟩)
variable{lo hi:Option Expr}{fl fh:Fo}{p2:Pos}
end
def P5(r:Nat)(o:DO):M Unit:=λG=>some (.ok (),G.set r o)
def fB(l:List (Key×D))(k:Key)(d:D):List (Key×D):=if l.any (λkv=>decide (kv.1=k))then l.map (λkv=>if kv.1=k then (kv.1,d)else kv)else l++[(k,d)]
def AE:D->D->D->M Unit:=λo i d=>match o with
 | .ref r=>do
   match <-K5 r with
   | .lst l=>match i with
     | .int k=>match ixN l.length k with
       |some j=>P5 r (.lst (l.set j d))
       |none=>M.stuck
     |_=>M.stuck
   | .dct l=>match r8 i with
     |some k=>if l.length<zi then P5 r (.dct (fB l k d))else M.stuck
     |none=>M.stuck
   | .rol _=>M.stuck
   | .rod _=>M.stuck
 |_=>M.stuck
def pB(fo fi:Fe):Fg:=λd σ=>do
 let o <-fo σ
 let i <-fi σ
 let _ <-AE o i d
 pure σ
section
variable{X:Cx}{Z:XC}{μ:List Addr}{H:Hp}{G:DH}
theorem CL(rv:d7 c μ H d v):∀ {l} {rb},V0 c μ H l rb->V0 c μ H (fB l k d) (v3 rb k v):=by
 have any_eq:∀ {l:List (Key×D)} {rb:List (Key×V)},V0 c μ H l rb->(l.any λkv=>decide (kv.1=k))= (rb.any λkv=>decide (kv.1=k)):=by
  intro l
  induction l with
  |nil=>intro rb r;cases r;rfl
  |cons p t ih=>
    intro rb r;obtain⟨v',kt,rfl,_,rt⟩:=r;rw[jw,jw,ih rt]
 have map_eq:∀ {l:List (Key×D)} {rb:List (Key×V)},V0 c μ H l rb->V0 c μ H (l.map λkv=>if kv.1=k then (kv.1,d)else kv) (rb.map λkv=>if kv.1=k then (kv.1,v)else kv):=by
  intro l
  induction l with
  |nil=>intro rb r;cases r;rfl
  |cons p t ih=>
    intro rb r;obtain⟨k',d'⟩:=p;obtain⟨v',kt,rfl,q,rt⟩:=r;rw[zH,zH];by_cases e:k'=k
    ·simp only[e,if_true];exact⟨v,_,rfl,rv,ih rt⟩
    ·simp only[e,if_false];exact⟨v',_,rfl,q,ih rt⟩
 have app_eq:∀ {l:List (Key×D)} {rb:List (Key×V)},V0 c μ H l rb->V0 c μ H (l++[(k,d)]) (rb++[(k,v)]):=by
  intro l
  induction l with
  |nil=>intro rb r;cases r;exact⟨v, [],rfl,rv,rfl⟩
  |cons p t ih=>
    intro rb r;obtain⟨v',kt,rfl,q,rt⟩:=r;exact⟨v',_,rfl,q,ih rt⟩
 intro l rb r;unfold fB v3;rw[any_eq r];split
 ·exact map_eq r
 ·exact app_eq r
theorem V0.length:∀ {l} {rb},V0 c μ H l rb->l.length=rb.length
 |[],_,r=>by cases r;rfl
 |_::_,_,r=>by obtain⟨_,_,rfl,_,t⟩:=r;simp[V0.length t]
theorem uP{Q:List Addr->DH->Hp->Prop}(h:m8 c μ G H)(g:G[r]? =some o)(n:¬E4 (some o))(m:μ[r]? =some a)(n':¬E4 (some o'))(ho:∀x:Ext μ H μ (upd H a u),A7 c μ (upd H a u) a o')
 (p:c7 c Z μ H (P5 r o' G) λ_ X2 G' H'=>Q X2 G' H'):Q μ (G.set r o') (upd H a u):=by
 obtain⟨u',e,n1,n2⟩:=(h.obj r o a g m).some_of n;have x:Ext μ H μ (upd H a u):=Ext.mut (jK m) e n1 n2 u;exact p μ _ x (h.set g n m x n' (ho x))
def Vk(c:Wc)(Z:XC)(f:D->D->D->M Unit):TSet:=λo i v H Q=>∃d1 d2 d3 μ G,d7 c μ H d1 o/\d7 c μ H d2 i/\d7 c μ H d3 v/\m8 c μ G H/\c7 c Z μ H (f d1 d2 d3 G) λ_ _ _ H'=>Q H'
theorem iZ(hu:X.A.units+64<xh):RH X (Vk (wc X) Z AE):=by
 intro pins s σ H o i v ov iv u Q I ro ri rv rc;obtain⟨d1,d2,d3,μ,G,r1,r2,r3,hr,p⟩:=rc;rcases d1 with _|_|_|_|_|r|_|_<;>try (exact p.elim;done)
 ·
   unfold d7 at r1;obtain⟨a,m,rfl⟩:=r1;obtain⟨ob,g,p1⟩:=G9 p;have rob:=hr.obj r ob a g m;rcases ob with l|l|l|l
   ·
     obtain⟨vs,ea,rl⟩:=rob;rcases d2 with _|_|k|_|_|_|_|_<;>try (exact p1.elim;done)
     ·
       dsimp only at p1;rcases hk:ixN l.length k with _|j
       ·simp only[hk]at p1;exact p1.elim
       ·
         simp only[hk]at p1;exact Qj pins s σ H (.ref a) i v ov iv u Q I ro ri rv ⟨a,vs,k,j,rfl,T7 r2,ea,by rw[<-rl.length];exact hk,uP (o':=.lst (l.set j d3)) hr g (λz=>z) m (λz=>z) (λx=>⟨_,K7,(rl.mono x).set (r3.mono x) j⟩) p1⟩
   ·exact p1.elim
   ·
     obtain⟨rb,ea,rk⟩:=rob;dsimp only at p1;rcases hk:r8 d2 with _|k
     ·simp only[hk]at p1;exact p1.elim
     ·
       simp only[hk]at p1;split at p1
       · rename_i hz;have ei:=QH hk r2;subst ei
         cases ro
         refine io (by lia) I (lH.k ea (by rw[<-rk.length];exact hz)) ri rv λs' I'=>⟨_,I',?_⟩;exact uP (o':=.dct (fB l k d3)) hr g (λz=>z) m (λz=>z) (λx=>⟨_,K7,CL (r3.mono x) (rk.mono x)⟩) p1
       ·exact p1.elim
   ·exact p1.elim
variable{a b e o i:Expr}{fa fb fo fi:Fe}
theorem ab(hu:X.A.units+64<xh)(ho:DE X Z o fo)(hi:DE X Z i fi)
 (ha:∀v,Xa (.Subscript o i pos) X.env v= (do
   let ov <-Yw [v] (eval o X.env)
   let iv <-Yw [v,ov] (eval i X.env)
   standAt pos
   Yw [v,ov,iv] (setItem ov iv v)
   release [v,ov,iv] [])):DG X Z (.Subscript o i pos) (pB fo fi):=
 DG.of (QT ho.h hi.h (iZ hu) ha) λv σ H Q rc=>rc.elim λd X9 μ G r s h p=>⟨X9,μ,G,s,h,(c7.bind p).mono λd1 X0 G1 H1 x1 h1 p1 v1 r1=>
  ⟨X9,X0,G1,s.mono x1,h1,(c7.bind p1).mono λd2 WX G2 H2 x2 h2 p2 v2 r2=>⟨d1,d2,d,WX,G2,r1.mono x2,r2,r.mono (x1.trans x2),h2,(c7.bind p2).mono λ_ WN G3 H3 x3 h3 p3=>c7.ok p3 h3 σ (s.mono (x1.trans (x2.trans x3)))⟩⟩⟩
def v5:D->M Unit:=λx=>match x with
 | .ref r=>do
   match <-K5 r with
   | .lst _=>pure ()
   |_=>M.stuck
 |_=>M.stuck
def mtE(t:D->M Unit)(m:D->List D->M D)(fo:Fe)(fs:DSt->M (List D)):Fe:=λσ=>do
 let x <-fo σ
 let _ <-t x
 let xs <-fs σ
 m x xs
def lstM(r:Nat):M (List D):=do
 match <-K5 r with
 | .lst l=>pure l
 |_=>M.stuck
def v8:D->List D->M D:=λx xs=>match x,xs with
 | .ref r, [y]=>do
   let l <-lstM r
   if l.length<zi then do
    let _ <-P5 r (.lst (l++[y]))
    pure .non
   else M.stuck
 |_,_=>M.stuck
theorem qO{a:Addr}{f:List D->M α}{K:α->List Addr->DH->Hp->Prop}(h:m8 c μ G H)(m:μ[r]? =some a)(p:c7 c Z μ H ((lstM r >>= f) G) K):
 ∃l vs,G[r]? =some (.lst l)/\H a=some (.lst vs)/\j6 c μ H l vs/\c7 c Z μ H (f l G) K:=by
 have p':c7 c Z μ H ((K5 r >>= λo=>(match o with| .lst l=>pure l|_=>M.stuck:M (List D)) >>= f) G) K:=by rw[<-M.bind_assoc];exact p
 obtain⟨o,g,p2⟩:=G9 p';have ro:=h.obj r o a g m;rcases o with l|_|_|_<;>try (exact p2.elim;done)
 ·obtain⟨vs,e,rl⟩:=ro;exact⟨l,vs,g,e,rl,p2⟩
def MtD(X:Cx)(Z:XC)(id:String)(m:D->List D->M D):Prop:=
 MtR X id λx xs H Q=>∃d ds μ G,d7 (wc X) μ H d x/\j6 (wc X) μ H ds xs/\m8 (wc X) μ G H/\c7 (wc X) Z μ H (m d ds G) λd X2 _ H'=>∀v,d7 (wc X) X2 H' d v->Q v H'
theorem UL{r:Nat}{a:Addr}{f:M α}{K:α->List Addr->DH->Hp->Prop}(h:m8 c μ G H)(g:G[r]? =some (.lst l))(m:μ[r]? =some a)(rl:∀x:Ext μ H μ (upd H a (.lst sy)),j6 c μ (upd H a (.lst sy)) l' sy)
 (p:c7 c Z μ H ((P5 r (.lst l') >>= λ_=>f) G) K):Ext μ H μ (upd H a (.lst sy))/\m8 c μ (G.set r (.lst l')) (upd H a (.lst sy))/\c7 c Z μ (upd H a (.lst sy)) (f (G.set r (.lst l'))) K:=by
 obtain⟨u',e,n1,n2⟩:=(h.obj r _ a g m).some_of (λz=>z);have x:Ext μ H μ (upd H a (.lst sy)):=Ext.mut (jK m) e n1 n2 _;have h':m8 c μ (G.set r (.lst l')) (upd H a (.lst sy)):=h.set g (λz=>z) m x (λz=>z) ⟨sy,K7,rl x⟩;exact⟨x,h',c7.from p x⟩
theorem qc:MtD X Z "list.append" v8:=by
 intro pins s σ H x xs v us Q I rx rs rc;obtain⟨d,ds,μ,G,rd,rds,hr,p⟩:=rc;rcases d with _|_|_|_|_|r|_|_<;>try (exact p.elim;done)
 ·
   unfold d7 at rd;obtain⟨a,m,rfl⟩:=rd;rcases ds with _|⟨y,t⟩
   ·exact p.elim
   ·
     rcases t with _|⟨_,_⟩
     ·
       obtain⟨yv,tv,rfl,ry,e⟩:=rds
       cases e
       obtain⟨l,vs,g,ea,rl,p1⟩:=qO hr m p;split at p1
       ·rename_i hz;obtain⟨x1,h1,p2⟩:=UL hr g m (λx=>(rl.mono x).append (j6.cons (ry.mono x) j6.nil)) p1;exact NM pins s σ H (.ref a) [yv] v us Q I rx rs ⟨a,vs,yv,rfl,rfl,ea,by rw[<-rl.length];exact hz,c7.ok p2 h1 _ ofN⟩
       ·exact p1.elim
     ·exact p.elim
variable{es:List Expr}{fs:DSt->M (List D)}{name:Str}{tj se:Pos}{id:String}{mm:D->List D->M D}
theorem uX{f:Unit->M α}{K:α->List Addr->DH->Hp->Prop}(h:m8 c μ G H)(r:d7 c μ H d v)(p:c7 c Z μ H ((v5 d >>= f) G) K):tyV c.K "list" v H/\c7 c Z μ H (f () G) K:=by
 rcases d with _|_|_|_|_|i|_|_<;>try (exact p.elim;done)
 ·
   unfold d7 at r;obtain⟨a,m,rfl⟩:=r;have p':c7 c Z μ H ((K5 i >>= λo=>(match o with| .lst _=>pure ()|_=>M.stuck:M Unit) >>= f) G) K:=by rw[<-M.bind_assoc];exact p
   obtain⟨o,g,p2⟩:=G9 p';have ro:=h.obj i o a g m;rcases o with l|_|_|_<;>try (exact p2.elim;done)
   ·obtain⟨vs,e,rl⟩:=ro;exact⟨.inl ⟨rfl,vs,SqL.of e⟩,p2⟩
theorem RL(slot:Slot "list" name id)(hty:typeOf (.builtin id)=pure (.type "method_descriptor"))(hm:MtD X Z id mm)(ho:DE X Z o fo)(ha:DA X Z (e::es) fs)
 (hbase:YC o name X.env (eval o X.env)=eval o X.env)
 (hfew:((xF se (zX (e::es) X.env)).all (λx=> !x.1)&&(JC se (Yv [] X.env)).all (λx=>x.1.isSome)
   && decide ((e::es).length+([]:List Keyword).length+(if ([]:List Keyword).isEmpty then 0 else 1)<30))=true)
 (hline:(tj.endLine==se.line)=true) (hs:zX (e::es) X.env= (false,eval e X.env)::zX es X.env) (ua:(xF se (zX es X.env)).any (·.1)=false):
 DE X Z (.Call (.Attribute o name tj) (e::es) [] se) (mtE v5 mm fo fs):=
 DE.of (vN PySem.F.plainAttrs_list slot hty hm ho.h ha.h hbase hfew hline hs ua) λσ H Q rc=>rc.elim λX9 μ G s h p=>⟨X9,μ,G,s,h,(c7.bind p).mono λd X0 G1 H1 x1 h1 p1 v rv=>by obtain⟨ty,p2⟩:=uX h1 rv p1;exact⟨ty,X9,X0,G1,s.mono x1,h1,(c7.bind p2).mono λds WX G2 H2 x2 h2 p3 vs rvs=>⟨d,ds,WX,G2,rv.mono x2,rvs,h2,p3⟩⟩⟩
end
def SI(k:Bool)(h:Heap)(it a:Addr)(i:Nat):Prop:=if k then h.IsTupleIter it a i else h.IsListIter it a i
def SC(k:Bool)(h:Heap)(a:Addr)(items:Array zg):Prop:=if k then h.IsTuple a items else h.IsList a items
section
variable{prog:zV}{w:je}{A:jm}{E:VSP}{s:zw}
theorem SI.keep(x:SI k h it a i)(q:∀o,h.get? it=some o->h'.get? it=some o):SI k h' it a i:=by
 rcases k with _|_
 ·exact Heap.IsListIter.at (show h.IsListIter it a i from x) q
 ·exact Heap.IsTupleIter.at (show h.IsTupleIter it a i from x) q
theorem SC.keep(x:SC k h a qu)(q:∀o,h.get? a=some o->h'.get? a=some o):SC k h' a qu:=by
 rcases k with _|_
 ·obtain⟨o,e,r⟩:=(show h.IsList a qu from x);exact⟨o,q o e,r⟩
 ·obtain⟨o,e,r⟩:=(show h.IsTuple a qu from x);exact⟨o,q o e,r⟩
theorem SI.there(x:SI k h it a i):∃o,h.get? it=some o/\∀v,o.data≠ .cell v:=by
 rcases k with _|_
 ·obtain⟨o,e,c,d⟩:=(show h.IsListIter it a i from x);exact⟨o,e,λv z=>by rw[d]at z;cases z⟩
 ·obtain⟨o,e,c,d⟩:=(show h.IsTupleIter it a i from x);exact⟨o,e,λv z=>by rw[d]at z;cases z⟩
theorem DU(hit:s.heap.IsTupleIter it t i)(ht:s.heap.IsTuple t items)(hx:items[i]? =some x)
 (hQ:∀h',h'.IsTupleIter it t (i+1)->yA it s.heap h'->Q x {s with heap:=h'}):zo (zA prog w) A (jv (.ref it)) Q E s:=by
 obtain⟨ob,hob,hcls,tw⟩:=id hit;obtain⟨ot,hot,_,nt,hdt⟩:=ht;unfold jv;refine za (ju hit.typeIs xR (jk xR hit.typeIs F.entry_tuple_iterator_next ?_ (F.args_tuple_iterator_next_1 _)));show zo _ _ (field (.ref it) 0 >>= _) _ _ s;refine za (jG hob tw rfl ?_);show zo _ _ (if (Value.ref t==Value.none)=true then _ else _) _ _ s;rw[if_neg (show ¬((Value.ref t==Value.none)=true)from zz)];show zo _ _ (field (.ref it) 1 >>= _) _ _ s;refine za (jG hob tw rfl ?_);show zo _ _ (seqItems? (.ref t) >>= _) _ _ s;refine za (yp hot hdt ?_);simp only[ya,hx];refine za (Yf hob tw (by simp) (ze ⟨x,rfl,ze (hQ _ ?_ (yq ..))⟩));exact⟨_,jM _ hob (YS (xz tw _)),(Obj.cls_mapFields ..).trans hcls,by rw[xz tw];simp[yC]⟩
theorem Qd(hh:A.handled=none)(hit:s.heap.IsTupleIter it t i)(ht:s.heap.IsTuple t items)(hx:items[i]? =none)
 (hE:∀h' e,YV it s.heap h'->(∃o,h'.get? e=some o/\o.cls= .type "StopIteration")->E (.ref e) {s with heap:=h'}):zo (zA prog w) A (jv (.ref it)) Q E s:=by
 obtain⟨ob,hob,hcls,tw⟩:=id hit;obtain⟨ot,hot,_,nt,hdt⟩:=ht;unfold jv;refine za (ju hit.typeIs xR (jk xR hit.typeIs F.entry_tuple_iterator_next ?_ (F.args_tuple_iterator_next_1 _)));show zo _ _ (field (.ref it) 0 >>= _) _ _ s;refine za (jG hob tw rfl ?_);show zo _ _ (if (Value.ref t==Value.none)=true then _ else _) _ _ s;rw[if_neg (show ¬((Value.ref t==Value.none)=true)from zz)];show zo _ _ (field (.ref it) 1 >>= _) _ _ s;refine za (jG hob tw rfl ?_);show zo _ _ (seqItems? (.ref t) >>= _) _ _ s;refine za (yp hot hdt ?_);simp only[ya,hx];refine za (xE (za (Yf hob tw (by simp) ?_)));show zo _ _ (newExc (.type "StopIteration") [] >>= _) _ _ _;refine za ?_;simp only[newExc,newTuple];refine za (yd ?_ (by size_fits));refine za (yG (by first|rfl|(simp only[firstArgMember];rfl)) ?_);refine yd ?_ (by size_fits);delta raiseNew;dsimp only;refine za (XW ?_)
 first|rw[show A.in1.handled=none from hh]|rw[hh]
 refine za (ze (wpAny_throw ?_));exact hE _ _ (((yq ..).extBut.push _).push _) ⟨_,zn _ rfl,rfl⟩
theorem RI(hit:SI k s.heap it a i)(hl:SC k s.heap a items)(hx:items[i]? =some x)
 (hQ:∀h',SI k h' it a (i+1)->yA it s.heap h'->Q x {s with heap:=h'}):zo (zA prog w) A (jv (.ref it)) Q E s:=by
 rcases k with _|_
 ·exact wpAny_nextOf_list_item hit hl hx hQ
 ·exact DU hit hl hx hQ
theorem iL(hh:A.handled=none)(hit:SI k s.heap it a i)(hl:SC k s.heap a items)(hx:items[i]? =none)
 (hE:∀h' e,YV it s.heap h'->(∃o,h'.get? e=some o/\o.cls= .type "StopIteration")->E (.ref e) {s with heap:=h'}):zo (zA prog w) A (jv (.ref it)) Q E s:=by
 rcases k with _|_
 ·exact wpAny_nextOf_list_end hh hit hl hx hE
 ·exact Qd hh hit hl hx hE
structure ZA(z TI TO i1 i2:Addr):Prop where
 TIz:TI≠z
 TOz:TO≠z
 i1z:i1≠z
 i2z:i2≠z
 TITO:TI≠TO
 TIi1:TI≠i1
 TIi2:TI≠i2
 TOi1:TO≠i1
 TOi2:TO≠i2
 i12:i1≠i2
theorem Lz(n:Nat):ZA (n+4:Nat) (n+2:Nat) (n+3:Nat) n (n+1:Nat):=⟨(by show @Ne Nat _ _;lia),(by show @Ne Nat _ _;lia),(by show @Ne Nat _ _;lia),(by show @Ne Nat _ _;lia),(by show @Ne Nat _ _;lia),(by show @Ne Nat _ _;lia),(by show @Ne Nat _ _;lia),(by show @Ne Nat _ _;lia),(by show @Ne Nat _ _;lia),(by show @Ne Nat _ _;lia)⟩
theorem EL(h:l<n):¬ @Membership.mem Addr (List Addr) List.instMembership [(n+4:Nat),(n+3:Nat),n,(n+1:Nat)] l:=by simp only[zr,zT,or_false,not_or];exact⟨(by show ¬ @Eq Nat _ _;lia),(by show ¬ @Eq Nat _ _;lia),(by show ¬ @Eq Nat _ _;lia),(by show ¬ @Eq Nat _ _;lia)⟩
theorem Hm(hb: @Membership.mem Addr (List Addr) List.instMembership [(n+4:Nat),(n+2:Nat),(n+3:Nat),n,(n+1:Nat)] b): @LE.le Nat instLENat n b:=by simp only[zr,zT,or_false]at hb;rcases hb with rfl|rfl|rfl|rfl|rfl<;>(show @LE.le Nat instLENat _ _;lia)
variable{z TI TO i1 i2 l1 l2:Addr}{xs ys:Array zg}{k1 k2:Bool}{i:Nat}
theorem Hf{Q:VSP}(Ap:ZA z TI TO i1 i2)(n1:l1∉ [z,TO,i1,i2])(n2:l2∉ [z,TO,i1,i2])
 (hz:ZV s.heap z TI TO .none) (hTI:yW s.heap TI (.ref i1) (.ref i2)) (hTO:yW s.heap TO a b)
 (h1:SI k1 s.heap i1 l1 i) (h2:SI k2 s.heap i2 l2 i) (tz:SC k1 s.heap l1 xs) (ub:SC k2 s.heap l2 ys) (hx:xs[i]? =some x) (hy:ys[i]? =some y)
 (hQ:∀h',ZV h' z TI TO (yC s.heap.objs.size)->yW h' TO x y->SI k1 h' i1 l1 (i+1)->SI k2 h' i2 l2 (i+1)->yW h' s.heap.objs.size x y->h'.objs.size=s.heap.objs.size+1->
   (∀c o,c≠z->c≠TO->c≠i1->c≠i2->s.heap.get? c=some o->h'.get? c=some o)->Q (.ref s.heap.objs.size) {s with heap:=h'}):
 zo (zA prog w) A (jQ.«zip.__next__» ⟨[.ref z], []⟩) (λfin s'=>∃v,fin= .done (.ret v)/\Q v s') E s:=by
 simp only[zr,zT,or_false,not_or]at n1 n2;show zo _ _ (field (.ref z) 2 >>= _) _ _ _;refine za (jG hz rfl rfl ?_);show zo _ _ (field (.ref z) 3 >>= _) _ _ _;refine za (jG hz rfl rfl ?_);refine za (yp hTI rfl ?_);show zo _ _ (yF (.ref z) >>= _) _ _ _;refine za ?_;unfold yF;refine za (jG hz rfl rfl (ze ?_));simp only[if_true];refine za (xE ?_);refine za (jG hz rfl rfl ?_);refine za (yw hz (by simp) λg₁ hz₁ WU=>?_);replace hz₁:ZV g₁ z TI TO .ellipsis:=hz₁;refine za ?_;simp only[List.zipIdx_cons,List.zipIdx_nil,Zs,YX];refine za (za (XV ?_));show zo _ _ (jv (.ref i1) >>= _) _ _ _;refine za (RI (h1.keep λo e=>WU.extBut _ _ Ap.i1z e) (tz.keep λo e=>WU.extBut _ _ n1.1 e) hx λg₂ h1₂ WR=>ze ?_);have hTO₂:yW g₂ TO a b:=WR.extBut _ _ Ap.TOi1 (WU.extBut _ _ Ap.TOz hTO);refine za (yp hTO₂ rfl ?_);refine za (Xu hTO₂ λg₃ hTO₃ hs₃=>?_);replace hTO₃:yW g₃ TO x b:=hTO₃;refine za (Xv (ze ?_));refine za (za (XV ?_));show zo _ _ (jv (.ref i2) >>= _) _ _ _;have up3:∀c o,c≠z->c≠TO->c≠i1->s.heap.get? c=some o->g₃.get? c=some o:=λc o c1 c2 c3 e=>hs₃.extBut _ _ c2 (WR.extBut _ _ c3 (WU.extBut _ _ c1 e));refine za (RI (h2.keep λo e=>up3 _ _ Ap.i2z Ap.TOi2.symm Ap.i12.symm e) (ub.keep λo e=>up3 _ _ n2.1 n2.2.1 n2.2.2.1 e) hy λg₄ h2₄ hs₄=>ze ?_);have hTO₄:yW g₄ TO x b:=hs₄.extBut _ _ Ap.TOi2 hTO₃;refine za (yp hTO₄ rfl ?_);refine za (Xu hTO₄ λWS hTO₅ hs₅=>?_);replace hTO₅:yW WS TO x y:=hTO₅;refine za (Xv (ze (ze ?_)));refine za (yp hTO₅ rfl ?_);refine za (Zm ?_);have hsz:WS.objs.size=s.heap.objs.size:=by rw[hs₅.1,hs₄.1,hs₃.1,WR.1,WU.1]
 have hz₅:ZV WS z TI TO .ellipsis:=hs₅.extBut _ _ Ap.TOz.symm (hs₄.extBut _ _ Ap.i2z.symm (hs₃.extBut _ _ Ap.TOz.symm (WR.extBut _ _ Ap.i1z.symm hz₁)));have hk₅:∀c o,c≠z->c≠TO->c≠i1->c≠i2->s.heap.get? c=some o->WS.get? c=some o:=λc o c1 c2 c3 c4 e=>hs₅.extBut _ _ c2 (hs₄.extBut _ _ c4 (up3 c o c1 c2 c3 e));have h1₅:SI k1 WS i1 l1 (i+1):=h1₂.keep λo e=>hs₅.extBut _ _ Ap.TOi1.symm (hs₄.extBut _ _ Ap.i12 (hs₃.extBut _ _ Ap.TOi1.symm e));have h2₅:SI k2 WS i2 l2 (i+1):=h2₄.keep λo e=>hs₅.extBut _ _ Ap.TOi2.symm e;have hzlt:z<WS.objs.size:=zt hz₅;show zo _ _ (ZI (.ref z) (.ref WS.objs.size) >>= _) _ _ _;refine za ?_;unfold ZI;have hz₆:ZV (WS.push {cls:=.type "tuple",data:=.seq #[x,y]}) z TI TO .ellipsis:=zc _ hz₅;refine za (yw hz₆ (by simp) λg₇ hz₇ hs₇=>?_);replace hz₇:ZV g₇ z TI TO (yC WS.objs.size):=hz₇;refine yw hz₇ (by simp) λg₈ hz₈ hs₈=>?_;replace hz₈:ZV g₈ z TI TO (yC WS.objs.size):=hz₈;have up:∀c o,c≠z->WS.get? c=some o->g₈.get? c=some o:=λc o c1 e=>hs₈.extBut _ _ c1 (hs₇.extBut _ _ c1 (zc _ e));have hT₈:yW g₈ WS.objs.size x y:=hs₈.extBut _ _ (xj hzlt) (hs₇.extBut _ _ (xj hzlt) (zn _ rfl));have hz8:g₈.objs.size=WS.objs.size+1:=by rw[hs₈.1,hs₇.1,jO]
 rw[hsz]at hz₈ hT₈ hz8;refine ze ⟨_,rfl,?_⟩;show Q (.ref WS.objs.size) _;rw[hsz];exact hQ g₈ hz₈ (up _ _ Ap.TOz hTO₅) (h1₅.keep λo e=>up _ o Ap.i1z e) (h2₅.keep λo e=>up _ o Ap.i2z e) hT₈ hz8 λc o c1 c2 c3 c4 e=>up c o c1 (hk₅ c o c1 c2 c3 c4 e)
theorem qg(hh:A.handled=none)(Ap:ZA z TI TO i1 i2)(n1:l1∉ [z,TO,i1,i2])(n2:l2∉ [z,TO,i1,i2])
 (hz:ZV s.heap z TI TO .none) (hTI:yW s.heap TI (.ref i1) (.ref i2)) (hTO:yW s.heap TO a b)
 (h1:SI k1 s.heap i1 l1 i) (h2:SI k2 s.heap i2 l2 i) (tz:SC k1 s.heap l1 xs) (ub:SC k2 s.heap l2 ys) (hend:xs[i]? =none\/ys[i]? =none)
 (hE:∀h' e,(∀c o,c≠z->c≠TO->c≠i1->c≠i2->s.heap.get? c=some o->h'.get? c=some o)->(∃o,h'.get? e=some o/\o.cls= .type "StopIteration")->E (.ref e) {s with heap:=h'}):
 zo (zA prog w) A (jQ.«zip.__next__» ⟨[.ref z], []⟩) Q E s:=by
 simp only[zr,zT,or_false,not_or]at n1 n2;show zo _ _ (field (.ref z) 2 >>= _) _ _ _;refine za (jG hz rfl rfl ?_);show zo _ _ (field (.ref z) 3 >>= _) _ _ _;refine za (jG hz rfl rfl ?_);refine za (yp hTI rfl ?_);show zo _ _ (yF (.ref z) >>= _) _ _ _;refine za ?_;unfold yF;refine za (jG hz rfl rfl (ze ?_));simp only[if_true];refine za (xE ?_);refine za (jG hz rfl rfl ?_);refine za (yw hz (by simp) λg₁ hz₁ WU=>?_);replace hz₁:ZV g₁ z TI TO .ellipsis:=hz₁;refine za ?_;simp only[List.zipIdx_cons,List.zipIdx_nil,Zs,YX];refine za (za (XV ?_));show zo _ _ (jv (.ref i1) >>= _) _ _ _;rcases hx:xs[i]? with _|x
 ·
   refine za (iL hh (h1.keep λo e=>WU.extBut _ _ Ap.i1z e) (tz.keep λo e=>WU.extBut _ _ n1.1 e) hx λg₂ e WR he=>?_);obtain⟨oe,hoe,hce⟩:=he;have hz₂:ZV g₂ z TI TO .ellipsis:=WR _ _ Ap.i1z.symm hz₁;have hez:e≠z:=λq=>by subst q;rw[hz₂]at hoe;cases hoe;simp at hce
   exact yw hz₂ (by simp) λg₃ _ hs₃=>hE g₃ e (λc o c1 _ c3 _ q=>hs₃.extBut _ _ c1 (WR _ _ c3 (WU.extBut _ _ c1 q))) ⟨oe,hs₃.extBut _ _ hez hoe,hce⟩
 ·
   have hy:ys[i]? =none:=by
    rcases hend with h|h
    ·rw[hx]at h;exact fH h
    ·exact h
   refine za (RI (h1.keep λo e=>WU.extBut _ _ Ap.i1z e) (tz.keep λo e=>WU.extBut _ _ n1.1 e) hx λg₂ h1₂ WR=>ze ?_);have hTO₂:yW g₂ TO a b:=WR.extBut _ _ Ap.TOi1 (WU.extBut _ _ Ap.TOz hTO);refine za (yp hTO₂ rfl ?_);refine za (Xu hTO₂ λg₃ hTO₃ hs₃=>?_);refine za (Xv (ze ?_));refine za (za (XV ?_));show zo _ _ (jv (.ref i2) >>= _) _ _ _;have up3:∀c o,c≠z->c≠TO->c≠i1->s.heap.get? c=some o->g₃.get? c=some o:=λc o c1 c2 c3 e=>hs₃.extBut _ _ c2 (WR.extBut _ _ c3 (WU.extBut _ _ c1 e));refine za (iL hh (h2.keep λo e=>up3 _ _ Ap.i2z Ap.TOi2.symm Ap.i12.symm e) (ub.keep λo e=>up3 _ _ n2.1 n2.2.1 n2.2.2.1 e) hy λg₄ e hs₄ he=>?_);obtain⟨oe,hoe,hce⟩:=he;have hz₄:ZV g₄ z TI TO .ellipsis:=hs₄ _ _ Ap.i2z.symm (hs₃.extBut _ _ Ap.TOz.symm (WR.extBut _ _ Ap.i1z.symm hz₁));have hez:e≠z:=λq=>by subst q;rw[hz₄]at hoe;cases hoe;simp at hce
   exact yw hz₄ (by simp) λWS _ hs₅=>hE WS e (λc o c1 c2 c3 c4 q=>hs₅.extBut _ _ c1 (hs₄ _ _ c4 (up3 c o c1 c2 c3 q))) ⟨oe,hs₅.extBut _ _ hez hoe,hce⟩
theorem Rz(Ap:ZA z TI TO i1 i2)(n1:l1∉ [z,TO,i1,i2])(n2:l2∉ [z,TO,i1,i2])
 (hz:ZV s.heap z TI TO .none) (hTI:yW s.heap TI (.ref i1) (.ref i2)) (hTO:yW s.heap TO a b)
 (h1:SI k1 s.heap i1 l1 i) (h2:SI k2 s.heap i2 l2 i) (tz:SC k1 s.heap l1 xs) (ub:SC k2 s.heap l2 ys) (hx:xs[i]? =some x) (hy:ys[i]? =some y)
 (hQ:∀h',ZV h' z TI TO (yC s.heap.objs.size)->yW h' TO x y->SI k1 h' i1 l1 (i+1)->SI k2 h' i2 l2 (i+1)->yW h' s.heap.objs.size x y->h'.objs.size=s.heap.objs.size+1->
   (∀c o,c≠z->c≠TO->c≠i1->c≠i2->s.heap.get? c=some o->h'.get? c=some o)->Q (some (.ref s.heap.objs.size)) {s with heap:=h'}):
 zo (zA prog w) A (xf (.ref z)) Q E s:=by
 have hT:s.TypeIs (.ref z) "zip":=⟨_,hz,rfl⟩;unfold xf;exact za (yD (ju hT YW (jk YW hT F.entry_zip_next
  (Hf Ap n1 n2 hz hTI hTO h1 h2 tz ub hx hy λh' a1 a2 a3 a4 a5 a6 a7=>ze (hQ h' a1 a2 a3 a4 a5 a6 a7)) (F.args_zip_next_1 _))))
theorem tV(hh:A.handled=none)(Ap:ZA z TI TO i1 i2)(n1:l1∉ [z,TO,i1,i2])(n2:l2∉ [z,TO,i1,i2])
 (hz:ZV s.heap z TI TO .none) (hTI:yW s.heap TI (.ref i1) (.ref i2)) (hTO:yW s.heap TO a b)
 (h1:SI k1 s.heap i1 l1 i) (h2:SI k2 s.heap i2 l2 i) (tz:SC k1 s.heap l1 xs) (ub:SC k2 s.heap l2 ys) (hend:xs[i]? =none\/ys[i]? =none)
 (hQ:∀h',(∀c o,c≠z->c≠TO->c≠i1->c≠i2->s.heap.get? c=some o->h'.get? c=some o)->Q none {s with heap:=h'}):zo (zA prog w) A (xf (.ref z)) Q E s:=by
 have hT:s.TypeIs (.ref z) "zip":=⟨_,hz,rfl⟩;unfold xf;refine za (yD (ju hT YW (jk YW hT F.entry_zip_next
  (qg hh Ap n1 n2 hz hTI hTO h1 h2 tz ub hend λh' e hk he=>?_) (F.args_zip_next_1 _))))
 obtain⟨o,ho,hc⟩:=he;exact za (xx ⟨o,ho,hc⟩ Xx (ze (hQ _ hk)))
end
def EC(k:Bool)(a:Addr):Obj:={cls:=.type (if k then "tuple_iterator" else "list_iterator"),data:=.fields #[.ref a,.int 0 0]}
abbrev zh1(k1:Bool)(h:Heap)(l1:Addr):Heap:=h.push (EC k1 l1)
abbrev zh2(k1 k2:Bool)(h:Heap)(l1 l2:Addr):Heap:=(zh1 k1 h l1).push (EC k2 l2)
abbrev zh3(k1 k2:Bool)(h:Heap)(l1 l2:Addr):Heap:=(zh2 k1 k2 h l1 l2).push {cls:=.type "tuple",data:=.seq #[.ref h.objs.size,.ref (zh1 k1 h l1).objs.size]}
abbrev zh4(k1 k2:Bool)(h:Heap)(l1 l2:Addr):Heap:=(zh3 k1 k2 h l1 l2).push {cls:=.type "tuple",data:=.seq #[.none,.none]}
abbrev zh5(k1 k2:Bool)(h:Heap)(l1 l2:Addr):Heap:=(zh4 k1 k2 h l1 l2).push {cls:=.type "zip",data:=.fields #[.none,.bool false,.bool false,.ref (zh2 k1 k2 h l1 l2).objs.size,.ref (zh3 k1 k2 h l1 l2).objs.size]}
theorem IL(hl:SC k s.heap a items)(h:Q (.ref s.heap.objs.size) {s with heap:=s.heap.push (EC k a)}):zo (zA prog w) A (Xw (.ref a)) Q E s:=by
 rcases k with _|_
 ·exact Zl hl h
 ·exact wpAny_pyIter_tuple hl h
theorem QU(k1 k2:Bool)(l1 l2:Addr)(xs ys:Array zg):
 Meets (jQ.«zip.__new__» ⟨[.type "zip",.ref l1,.ref l2], []⟩) (λ_ R s=>SC k1 s.heap l1 xs/\SC k2 s.heap l2 ys/\R (.ok (.ret (.ref (zh4 k1 k2 s.heap l1 l2).objs.size))) {s with heap:=zh5 k1 k2 s.heap l1 l2}):=
 .of_wp λprog w A R s h=>by
  obtain⟨hp,g,d,tk,os⟩:=s;obtain⟨tz,ub,h⟩:=h;have hsub:=sub_zip;have hL1:SC k1 (Shared.heap ⟨hp,g,d,tk,os⟩) l1 xs:=tz;have hL2:SC k2 (Shared.heap ⟨hp.push (EC k1 l1),g,d,tk,os⟩) l2 ys:=ub.keep λo e=>zc _ e
  wp_walk using IL hL1,IL hL2
  exact⟨_,rfl,h⟩
section
theorem Wm{ch:List Addr}(I:Inv X pins σ H s)(hf:∀b∈ch,A1 X pins H b)(k:∀b o,b∉ch->s.heap.get? b=some o->h'.get? b=some o)
 (hz:vs.length<=zi) (rv:m7 vs us) (ht:P4 h' s.heap.objs.size us.toArray):Inv X pins σ (upd H s.heap.objs.size (.tup vs)) {s with heap:=h',toks:=t'}:=by
 have hq:H s.heap.objs.size=none:=I.hok.fresh (zh _);have neq:∀b o,s.heap.get? b=some o->b≠s.heap.objs.size:=λb o e=>zC (zt e);have nch:∀b u,H b=some u->b∉ch:=λb u e z=>by rw[(hf b z).1]at e;cases e
 refine I.step (λb hb=>⟨(hf b hb).2.2.2.1,(hf b hb).2.1,(hf b hb).2.2.2.2.1,(hf b hb).2.2.2.2.2⟩) (λb o _ _ hc e _=>k b o hc e) (λb o _ _ hc e _=>⟨o.slots,k b o hc e⟩)
  (λb o _ e n=>by rw[o5 (neq b o e)];exact n) (λb o hc e=>⟨o,k b o hc e⟩) (λb xs e=>by rw[o5 (o7 e hq)];exact e) (λb o u e=>by rw[o5 (o7 e hq)];exact e)
  (λb ps e=>⟨#[],by rw[o5 (o7 e hq),e];simp⟩) (λm hm=>?_) (λb u e=>?_) I.bare
 ·obtain⟨o,es,ep,ho,r⟩:=hm;exact⟨o,es,ep,k _ o (λz=>(hf _ z).2.1 rfl) ho,r⟩
 · by_cases hb:b=s.heap.objs.size
   · subst hb;rw[K7]at e
     cases e
     exact⟨hz,us,rv,ht⟩
   · rw[o5 hb]at e;refine(I.hok b u e).stay (λc v hc q=>k c v ?_ q) (λc q=>by rw[o5 (o7 q hq)];exact q) λc xs q=>by rw[o5 (o7 q hq)];exact q
     rcases hc with z|z
     ·rw[z];exact nch b u e
     ·exact nch c _ z
theorem UK{ch:List Addr}(I:Inv X pins σ H s)(hf:∀b∈ch,A1 X pins H b)(k:∀b o,b∉ch->s.heap.get? b=some o->h'.get? b=some o):Inv X pins σ H {s with heap:=h',toks:=t'}:=by
 have nch:∀b u,H b=some u->b∉ch:=λb u e z=>by rw[(hf b z).1]at e;cases e
 refine I.step (λb hb=>⟨(hf b hb).2.2.2.1,(hf b hb).2.1,(hf b hb).2.2.2.2.1,(hf b hb).2.2.2.2.2⟩) (λb o _ _ hc e _=>k b o hc e) (λb o _ _ hc e _=>⟨o.slots,k b o hc e⟩)
  (λ_ _ _ _ n=>n) (λb o hc e=>⟨o,k b o hc e⟩) (λ_ _ e=>e) (λ_ _ _ e=>e) (λb ps e=>⟨#[],by rw[e];simp⟩) (λm hm=>?_) (λb u e=>?_) I.bare
 ·obtain⟨o,es,ep,ho,r⟩:=hm;exact⟨o,es,ep,k _ o (λz=>(hf _ z).2.1 rfl) ho,r⟩
 · refine(I.hok b u e).stay (λc v hc q=>k c v ?_ q) (λ_ q=>q) λ_ _ q=>q;rcases hc with z|z
   ·rw[z];exact nch b u e
   ·exact nch c _ z
end
def Sq(K:zj)(k:Bool)(H:Hp)(a:Addr)(vs:List V):Prop:=if k then SqT K H a vs else SqL K H a vs
theorem eC(I:Inv X pins σ H s)(h:Sq X.K k H a vs):∃qu:List zg,m7 vs qu/\SC k s.heap a qu.toArray/\vs.length<=zi:=by
 rcases k with _|_
 ·obtain⟨qu,r,p,z⟩:=I.list h;exact⟨qu,r,p.isList,z⟩
 ·obtain⟨qu,r,p,z⟩:=I.tuple h;exact⟨qu,r,p,z⟩
theorem KO(I:Inv X pins σ H s)(h:Sq X.K k H a vs)(h':Sq X.K k H a ws):vs=ws:=by
 rcases k with _|_
 ·exact I.list_inj h h'
 ·exact I.tuple_inj h h'
def Itz(K:zj)(k1 k2:Bool)(a b:Addr):It:=
 ⟨λi H=>∃xs ys x y,Sq K k1 H a xs/\Sq K k2 H b ys/\xs[i]? =some x/\ys[i]? =some y,
  λi H v H'=>∃q x y,H q=none/\v= .ref q/\H'=upd H q (.tup [x,y])/\(∀xs,Sq K k1 H a xs->xs[i]? =some x)/\∀ys,Sq K k2 H b ys->ys[i]? =some y,
  λi H=>∃xs ys,Sq K k1 H a xs/\Sq K k2 H b ys/\(xs.length<=i\/ys.length<=i)⟩
theorem BS(r:m7 vs qu){i:Nat}(h:vs[i]? =some x):∃u,qu.toArray[i]? =some u/\t6 x u:=by obtain⟨u,e,ru⟩:=r.get h;exact⟨u,by simpa using e,ru⟩
theorem kT{w:je}{K:zj}{es:List Expr}{x1:Nat}{tp:Pos}{l1 l2 z TI TO i1 i2:Addr}(Ap:ZA z TI TO i1 i2)(n1:l1∉ [z,TO,i1,i2])(n2:l2∉ [z,TO,i1,i2]):
 f8 P w K (.Tuple es x1 tp) (Itz K k1 k2 l1 l2) [z,TI,TO,i1,i2] z (λi h=>ZV h z TI TO .none/\yW h TI (.ref i1) (.ref i2)/\(∃a b,yW h TO a b)/\SI k1 h i1 l1 i/\SI k2 h i2 l2 i) where
 mem:=by simp
 obj:=λi h st b hb=>by
  obtain⟨s1,s2,⟨a,c,s3⟩,s4,s5⟩:=st;simp only[zr,zT,or_false]at hb;rcases hb with rfl|rfl|rfl|rfl|rfl
  ·exact⟨_,s1,λv z=>nomatch z⟩
  ·exact⟨_,s2,λv z=>nomatch z⟩
  ·exact⟨_,s3,λv z=>nomatch z⟩
  ·exact s4.there
  ·exact s5.there
 keep:=λi h h' st k=>by obtain⟨s1,s2,⟨a,c,s3⟩,s4,s5⟩:=st;exact⟨k _ (by simp) _ s1,k _ (by simp) _ s2,⟨a,c,k _ (by simp) _ s3⟩,s4.keep (k _ (by simp)),s5.keep (k _ (by simp))⟩
 item:=by
  intro X hP hw hK hc i pins s σ H E I hf st hg;subst hP hw hK;obtain⟨xs,ys,x,y,q1,q2,hx,hy⟩:=hg;obtain⟨its1,r1,c1,z1⟩:=eC I q1;obtain⟨ug,r2,c2,z2⟩:=eC I q2;obtain⟨u1,e1,ru1⟩:=BS r1 hx;obtain⟨u2,e2,ru2⟩:=BS r2 hy;obtain⟨s1,s2,⟨a,c,s3⟩,s4,s5⟩:=st;refine Rz Ap n1 n2 s1 s2 s3 s4 s5 c1 c2 e1 e2 λg b1 b2 b3 b4 b5 b6 b7=>⟨_,rfl,?_⟩;refine wpAny_letOwnedTupleGo_zip b1 λg2 c1' sb=>?_;have keep:∀b o,b∉ [z,TI,TO,i1,i2]->s.heap.get? b=some o->g2.get? b=some o:=λb o hb e=>by simp only[zr,zT,or_false,not_or]at hb;exact(sb.2 b hb.1).trans (b7 b o hb.1 hb.2.2.1 hb.2.2.2.1 hb.2.2.2.2 e)
  have zlt:z<s.heap.objs.size:=zt s1;have hnew:P4 g2 s.heap.objs.size [u1,u2].toArray:=⟨_,(sb.2 _ (xj zlt)).trans b5,rfl,_,rfl⟩;have hq:H s.heap.objs.size=none:=I.hok.fresh (zh _);refine⟨.ref s.heap.objs.size,upd H s.heap.objs.size (.tup [x,y]),Wm I hf keep (by show 2<=zi;decide) (.cons ru1 (.cons ru2 .nil)) hnew,rfl,⟨_,x,y,hq,rfl,rfl,λxs' h=>by rw[KO I h q1];exact hx,λys' h=>by rw[KO I h q2];exact hy⟩,?_,λb hb=>?_⟩
  ·refine⟨c1',?_,⟨_,_,(sb.2 _ Ap.TOz).trans b2⟩,b3.keep λo e=>(sb.2 _ Ap.i1z).trans e,b4.keep λo e=>(sb.2 _ Ap.i2z).trans e⟩;exact(sb.2 _ Ap.TIz).trans (b7 TI _ Ap.TIz Ap.TITO Ap.TIi1 Ap.TIi2 s2)
  · have ue:b<s.heap.objs.size:=by
     simp only[zr,zT,or_false]at hb;rcases hb with rfl|rfl|rfl|rfl|rfl
     ·exact zlt
     ·exact zt s2
     ·exact zt s3
     ·obtain⟨_,e,_⟩:=s4.there;exact zt e
     ·obtain⟨_,e,_⟩:=s5.there;exact zt e
    rw[o5 (zC ue)];exact(hf b hb).1
 done:=by intro X hP hw hK hc i pins s σ H E I hf st hg;subst hP hw hK;obtain⟨xs,ys,q1,q2,hend⟩:=hg;obtain⟨its1,r1,c1,z1⟩:=eC I q1;obtain⟨ug,r2,c2,z2⟩:=eC I q2;obtain⟨s1,s2,⟨a,c,s3⟩,s4,s5⟩:=st;have tz:=r1.length;have ub:=r2.length;refine tV (I.ok.hd hc) Ap n1 n2 s1 s2 s3 s4 s5 c1 c2 (by rcases hend with h|h;left;simp;lia;right;simp;lia) λg b7=>⟨rfl,UK I hf λb o hb e=>?_⟩;simp only[zr,zT,or_false,not_or]at hb;exact b7 b o hb.1 hb.2.2.1 hb.2.2.2.1 hb.2.2.2.2 e
 self:=λ_ _ _ _ _ st h=>wpAny_pyIter_zip st.1 h
def Nj(K:zj)(ta:TA):TI:=λσ H R=>ta σ H λvs H1=>∃k1 k2 a b xs ys,vs= [.ref a,.ref b]/\Sq K k1 H1 a xs/\Sq K k2 H1 b ys/\R (Itz K k1 k2 a b) H1
section
theorem MZ(tz:SC k1 s.heap l1 xs)(ub:SC k2 s.heap l2 ys)
 (h:Q (.ref (zh4 k1 k2 s.heap l1 l2).objs.size) {s with heap:=zh5 k1 k2 s.heap l1 l2}):zo (zA prog w) A (call (.type "zip") [.ref l1,.ref l2]) Q E s:=by
 refine callType_new F.called_zip (by decide) (F.typeCall_zip_2 _ _) (F.newCall_zip_2 _ _) (λobj=>F.args_object_init_3 obj _ _) F.entry_zip_new (QU k1 k2 l1 l2 xs ys) ⟨tz,ub,?_⟩;exact⟨⟨_,zn _ rfl,rfl⟩,h⟩
structure ZMk(k1 k2:Bool)(h h5:Heap)(l1 l2:Addr)(n:Nat):Prop where
 keep:∀b o,h.get? b=some o->h5.get? b=some o
 sz:h5.objs.size=n+5
 g5:ZV h5 (n+4:Nat) (n+2:Nat) (n+3:Nat) .none
 g4:yW h5 (n+3:Nat) .none .none
 g3:yW h5 (n+2:Nat) (.ref n) (.ref (n+1:Nat))
 s1:SI k1 h5 n l1 0
 s2:SI k2 h5 (n+1:Nat) l2 0
theorem zmk:(zh4 k1 k2 h l1 l2).objs.size=h.objs.size+4/\ZMk k1 k2 h (zh5 k1 k2 h l1 l2) l1 l2 h.objs.size:=by
 have z1:(zh1 k1 h l1).objs.size=h.objs.size+1:=jO ..;have z2:(zh2 k1 k2 h l1 l2).objs.size=h.objs.size+2:=by rw[jO,z1]
 have z3:(zh3 k1 k2 h l1 l2).objs.size=h.objs.size+3:=by rw[jO,z2]
 have z4:(zh4 k1 k2 h l1 l2).objs.size=h.objs.size+4:=by rw[jO,z3]
 have z5:(zh5 k1 k2 h l1 l2).objs.size=h.objs.size+5:=by rw[jO,z4]
 have g5:ZV (zh5 k1 k2 h l1 l2) (zh4 k1 k2 h l1 l2).objs.size (zh2 k1 k2 h l1 l2).objs.size (zh3 k1 k2 h l1 l2).objs.size .none:=zn _ rfl;have g4:yW (zh5 k1 k2 h l1 l2) (zh3 k1 k2 h l1 l2).objs.size .none .none:=zc _ (zn _ rfl);have g3:yW (zh5 k1 k2 h l1 l2) (zh2 k1 k2 h l1 l2).objs.size (.ref h.objs.size) (.ref (zh1 k1 h l1).objs.size):=zc _ (zc _ (zn _ rfl));have g2:(zh5 k1 k2 h l1 l2).get? (zh1 k1 h l1).objs.size=some (EC k2 l2):=zc _ (zc _ (zc _ (zn _ (by cases k2<;>rfl))));have g1:(zh5 k1 k2 h l1 l2).get? h.objs.size=some (EC k1 l1):=zc _ (zc _ (zc _ (zc _ (zn _ (by cases k1<;>rfl)))));rw[z4,z2,z3]at g5;rw[z3]at g4;rw[z2,z1]at g3;rw[z1]at g2;refine⟨z4,λb o e=>zc _ (zc _ (zc _ (zc _ (zc _ e)))),z5,g5,g4,g3,?_,?_⟩
 · rcases k1 with _|_
   ·exact⟨_,g1,rfl,rfl⟩
   ·exact⟨_,g1,rfl,rfl⟩
 · rcases k2 with _|_
   ·exact⟨_,g2,rfl,rfl⟩
   ·exact⟨_,g2,rfl,rfl⟩
theorem SC.lt(c:SC k h a xs): @LT.lt Nat instLTNat a h.objs.size:=by
 rcases k with _|_
 ·obtain⟨o,e,_⟩:=(show h.IsList a _ from c);exact zt e
 ·obtain⟨o,e,_⟩:=(show h.IsTuple a _ from c);exact zt e
theorem aq(tz:SC k1 s.heap l1 xs)(ub:SC k2 s.heap l2 ys)
 (h:∀h5 n,n=s.heap.objs.size->ZMk k1 k2 s.heap h5 l1 l2 n->Q (.ref (n+4:Nat)) {s with heap:=h5}):zo (zA prog w) A (call (.type "zip") [.ref l1,.ref l2]) Q E s:=by
 refine MZ tz ub ?_;have:=zmk (k1:=k1) (k2:=k2) (h:=s.heap) (l1:=l1) (l2:=l2);rw[this.1];exact h _ _ rfl this.2
theorem SU{es:List Expr}{ta:TA}{p pos:Pos}(hg:Gl X "zip")(hm:X.mg "zip" =none)(ha:PA X [a,b] ta)(hs:zX [a,b] X.env= [(false,eval a X.env),(false,eval b X.env)])(hs2:zX [b] X.env= [(false,eval b X.env)])(hbt:jb "zip" =some (.type "zip")):
 PI X (.Tuple es x1 tp) (.Call (.Name "zip" p) [a,b] [] pos) (Nj X.K ta):=by
 intro pins s σ H R I h;refine Call_ (D6 I hg hm hbt (yI (thn (ha pos pins s σ H _ I h) λus s1 sg=>sg.elim λvs H1 I1 r1 q1=>?_) (by rw[hs,hs2]) (by rw[hs2];rfl)));obtain⟨k1,k2,l1,l2,xs,ys,rfl,q1,q2,q⟩:=q1;obtain⟨u1,u2,rfl,ru1,ru2⟩:=KC r1
 cases ru1
 cases ru2
 obtain⟨its1,rr1,c1,z1⟩:=eC I1 q1;obtain⟨ug,rr2,c2,z2⟩:=eC I1 q2;refine aq c1 c2 λh5 n en Z=>?_;have n1:=EL (en▸c1.lt);have n2:=EL (en▸c2.lt);refine wpAny_pyIter_zip Z.g5 ?_;refine⟨(n+4:Nat),_,_,Itz X.K k1 k2 l1 l2,H1,rfl,I1.kept Z.keep,kT (Lz n) n1 n2,⟨Z.g5,Z.g3,⟨_,_,Z.g4⟩,Z.s1,Z.s2⟩,λb hb=>?_,q⟩;have ue:s1.heap.objs.size<=b:=en▸Hm hb;exact I1.fpOk ue (I1.hok.fresh ue)
end
section
open Classical in
def ckO(r:Nat)(o:DO):DH->Bool:=λG=>decide (G[r]? =some o)
def N4:D->M Src:=λx=>match x with
 | .tup l=>pure ⟨l,λ_=>true⟩
 | .ref r=>do
   let o <-K5 r
   let l <-listOf o
   pure ⟨l,ckO r o⟩
 |_=>M.stuck
def nj(c:Wc)(μ:List Addr)(H:Hp)(k:Bool)(a:Addr)(s:Src):Prop:=∀ X2 G' H',Ext μ H X2 H'->m8 c X2 G' H'->s.ck G'=true->∃vs,Sq c.K k H' a vs/\j6 c X2 H' s.items vs
theorem NI{H:Hp}{G:DH}{d:D}{v:V}{f:Src->M α}{K:α->List Addr->DH->Hp->Prop}(h:m8 c μ G H)(r:d7 c μ H d v)(p:c7 c Z μ H ((N4 d >>= f) G) K):
 ∃s k a vs,v= .ref a/\Sq c.K k H a vs/\j6 c μ H s.items vs/\nj c μ H k a s/\s.ck G=true/\(∀i,d= .ref i->k=false)/\c7 c Z μ H (f s G) K:=by
 rcases d with _|_|_|_|l|i|_|_<;>try (exact p.elim;done)
 ·
   unfold d7 at r;obtain⟨a,vs,rfl,q,rl⟩:=r;exact⟨⟨l,λ_=>true⟩,true,a,vs,rfl,q,rl,λX2 G' H' x h' _=>⟨vs,x.sqT q,rl.mono x⟩,rfl,(λi z=>nomatch z),p⟩
 ·
   unfold d7 at r;obtain⟨a,m,rfl⟩:=r;have p':c7 c Z μ H ((K5 i >>= λo=>(listOf o >>= λl=>(pure ⟨l,ckO i o⟩:M Src)) >>= f) G) K:=by rw[<-M.bind_assoc];exact p
   obtain⟨o,g,p2⟩:=G9 p';have ro:=h.obj i o a g m;have ck:ckO i o G=true:=by unfold ckO;simp[g]
   cases o with
   |lst l=>
     obtain⟨vs,q,rl⟩:=ro;refine⟨⟨l,ckO i (.lst l)⟩,false,a,vs,rfl,SqL.of q,rl,λX2 G' H' x h' sx=>?_,ck,(λ_ _=>rfl),p2⟩;have g':G'[i]? =some (.lst l):=by unfold ckO at sx;simpa using sx
     obtain⟨sy,q',si⟩:=h'.obj i _ a g' (sJ x.pre m);exact⟨sy,SqL.of q',si⟩
   |rol l=>
     obtain⟨vs,q,rl⟩:=ro;refine⟨⟨l,ckO i (.rol l)⟩,false,a,vs,rfl,q.sq,rl,λX2 G' H' x h' sx=>?_,ck,(λ_ _=>rfl),p2⟩;have g':G'[i]? =some (.rol l):=by unfold ckO at sx;simpa using sx
     obtain⟨sy,q',si⟩:=h'.obj i _ a g' (sJ x.pre m);exact⟨sy,q'.sq,si⟩
   |dct l=>exact p2.elim
   |rod l=>exact p2.elim
theorem fS{H:Hp}{i:Nat}{d:D}{x:V}(r:j6 c μ H l vs)(h:l[i]? =some d)(hx:vs[i]? =some x):d7 c μ H d x:=by
 obtain⟨v,e,q⟩:=r.get h;rw[hx]at e
 cases e
 exact q
def N8(lo:Int)(n:Nat):List D:=(zE n).map fun(i:Nat)=>D.int (lo+(i:Int))
def c5(fs:DSt->M (List D)):DSt->M Src:=λσ=>do
 match <-fs σ with
 |[.int j]=>if -(2 ^ 62)<=j/\j<2 ^ 62 then pure ⟨N8 0 j.toNat,λ_=>true⟩else M.stuck
 |_=>M.stuck
theorem iT(lo:Int)(n:Nat):ItD c μ H (Itr lo n) ⟨N8 lo n,λ_=>true⟩:=λX2 G' H' x' h' _ i=>by
 refine⟨λd hd=>?_,λhi=>?_⟩
 · have hi:i<n:=by have:=lt_of_get hd;simpa [N8]using this
   have e:d= .int (lo+i):=by unfold N8 at hd;rw[jp,List.getElem?_range hi]at hd;simp at hd;exact hd.symm
   subst e;exact⟨hi,λx H2 ⟨e1,e2⟩=>by subst e1 e2;exact⟨Ext.refl _ _,h',ofI⟩⟩
 ·show n<=i;simpa [N8]using hi
theorem Rv(hg:Gl X "range")(hm:X.mg "range" =none)(ha:DA X Z [a] fs)(hs:zX [a] X.env= [(false,eval a X.env)]):DI X Z tg (.Call (.Name "range" p) [a] [] pos) (c5 fs):=
 DI.of (dZ hg hm ha.h hs) λσ H R rc=>rc.elim λX9 μ G s h p=>⟨X9,μ,G,s,h,(c7.bind p).mono λds X0 G1 H1 x1 h1 p1 vs rv=>by
  rcases ds with _|⟨_|_|j|_|_|_|_|_,_|⟨_,_⟩⟩<;>dsimp only at p1<;>try exact p1.elim
  · split at p1
    · rename_i hj;obtain⟨v,t,rfl,r0,e⟩:=rv
      cases e
      exact⟨j,by rw[T7 r0],hj.1,hj.2,c7.ok p1 h1 _ (iT 0 _)⟩
    ·exact p1.elim⟩
def D8(fs:DSt->M (List D)):DSt->M Src:=λσ=>do
 match <-fs σ with
 |[a,b]=>do
   let s1 <-N4 a
   let s2 <-N4 b
   pure ⟨(s1.items.zip s2.items).map λp=>.tup [p.1,p.2],λG=>s1.ck G&&s2.ck G⟩
 |_=>M.stuck
theorem AW(h:m8 c μ G H)(hq:H q=none)(r:j6 c μ H ds vs):Ext μ H μ (upd H q (.tup vs))/\m8 c μ G (upd H q (.tup vs))/\d7 c μ (upd H q (.tup vs)) (.tup ds) (.ref q):=by have k:Ext μ H μ (upd H q (.tup vs)):=Ext.lay hq _;refine⟨k,h.same k λa o e n=>by rw[o5 (o7 e hq)];exact e,?_⟩;unfold d7;exact⟨q,vs,rfl,SqT.of K7,r.mono k⟩
theorem aZ{tp:Pos}{p pos:Pos}(hg:Gl X "zip")(hm:X.mg "zip" =none)(ha:DA X Z [a,b] fs)(hs:zX [a,b] X.env= [(false,eval a X.env),(false,eval b X.env)])(hs2:zX [b] X.env= [(false,eval b X.env)])(hbt:jb "zip" =some (.type "zip")):
 DI X Z (.Tuple es x1 tp) (.Call (.Name "zip" p) [a,b] [] pos) (D8 fs):=
 DI.of (SU hg hm ha.h hs hs2 hbt) λσ H R rc=>rc.elim λX9 μ G s h p=>⟨X9,μ,G,s,h,(c7.bind p).mono λds X0 G1 H1 x1 h1 p1 vs rv=>by
  rcases ds with _|⟨d1,_|⟨d2,_|⟨_,_⟩⟩⟩<;>dsimp only at p1<;>try exact p1.elim
  · obtain⟨v1,t1,rfl,r1,v2,t2,rfl,r2,e⟩:=rv
    cases e
    obtain⟨s1,k1,a1,w1,rfl,q1,l1,is1,ck1,_,p2⟩:=NI h1 r1 p1;obtain⟨s2,k2,a2,w2,rfl,q2,l2,is2,ck2,_,p3⟩:=NI h1 r2 p2;refine⟨k1,k2,a1,a2,w1,w2,rfl,q1,q2,c7.ok p3 h1 _ λX2 G' H' x' h' ck' i=>?_⟩;have ck'':s1.ck G'=true/\s2.ck G'=true:=by simpa using ck'
    obtain⟨u1,q1',l1'⟩:=is1 X2 G' H' x' h' ck''.1;obtain⟨u2,q2',l2'⟩:=is2 X2 G' H' x' h' ck''.2;refine⟨λd hd=>?_,λhi=>?_⟩
    · rw[jp]at hd;rcases hz:(s1.items.zip s2.items)[i]? with _|pr
      ·rw[hz]at hd;cases hd
      ·
        rw[hz]at hd;obtain⟨e1,e2⟩:=pr;have ui:d= .tup [e1,e2]:=by simpa using hd.symm
        subst ui;rw[List.getElem?_zip_eq_some]at hz;obtain⟨y1,hy1,ry1⟩:=l1'.get hz.1;obtain⟨y2,hy2,ry2⟩:=l2'.get hz.2;refine⟨⟨u1,u2,y1,y2,q1',q2',hy1,hy2⟩,λx H2 ⟨q,z1,z2,hq,ex,eH,f1,f2⟩=>?_⟩;subst ex eH;have g1:=f1 u1 q1';have g2:=f2 u2 q2';rw[hy1]at g1;rw[hy2]at g2
        cases g1
        cases g2
        exact AW h' hq ⟨y1,_,rfl,ry1,y2,_,rfl,ry2,rfl⟩
    ·refine⟨u1,u2,q1',q2',?_⟩;rw[<-l1'.length,<-l2'.length];simp at hi;lia⟩
end
def lenF:List D->M D:=λds=>match ds with
 |[.str z]=>if z.length<=zi then pure (.int z.length)else M.stuck
 |[.tup l]=>pure (.int l.length)
 |[.ref r]=>do
   match <-K5 r with
   | .lst l=>pure (.int l.length)
   | .rol l=>pure (.int l.length)
   | .dct l=>pure (.int l.length)
   | .rod _=>M.stuck
 |_=>M.stuck
def V8:List D->M D:=λds=>match ds with
 |[.tup l]=>pure (.tup l)
 |[.ref r]=>do
   let l <-K5 r >>= listOf
   pure (.tup l)
 |_=>M.stuck
def nA:List D->M D:=λds=>match ds with
 |[.tup l]=>J5 (.lst l)
 |[.ref r]=>do
   let l <-K5 r >>= listOf
   J5 (.lst l)
 |_=>M.stuck
def rB:List D->M D:=λds=>match ds with
 |[.int i,.int j]=>pure (.int (if j<i then j else i))
 |_=>M.stuck
def uE:List D->M D:=λds=>match ds with
 |[.int i,.int j]=>pure (.int (if j>i then j else i))
 |_=>M.stuck
def FB:List D->M D:=λds=>match ds with
 |[.int i]=>pure (.int (if i<0 then -i else i))
 |_=>M.stuck
def nN:List D->M D:=λds=>match ds with
 |[.int i]=>pure (.int i)
 |[.bl k]=>pure (.int (if k then 1 else 0))
 |_=>M.stuck
def UA:List D->Option (List Int)
 |[]=>some []
 | .int i::r=>(UA r).map (i :: ·)
 |_=>none
def RC:List D->Option (List Bool)
 |[]=>some []
 | .bl b::r=>(RC r).map (b :: ·)
 |_=>none
def eJ:List D->M D:=λds=>match ds with
 |[.ref r]=>do
   let l <-K5 r >>= listOf
   let bs <-U1 (RC l)
   pure (.bl (bs.any id))
 |_=>M.stuck
theorem ig{F:List D->M α}{c:Wc}{Z:XC}{H:Hp}{G:DH}{K:α->List Addr->DH->Hp->Prop}(p:c7 c Z μ H (F ds G) K)(h0:F []=M.stuck)(h2:∀a b t,F (a::b::t)=M.stuck)(hn:F [.non]=M.stuck)(hb:∀b,F [.bl b]=M.stuck)(hi:∀b,F [.int b]=M.stuck)(hs:∀b,F [.str b]=M.stuck)(ht:∀b,F [.tup b]=M.stuck)(hf:∀b,F [.fn b]=M.stuck)(hy:∀b,F [.ty b]=M.stuck):∃r,ds= [.ref r]:=by
 rcases ds with _|⟨d,_|⟨_,_⟩⟩
 ·rw[h0]at p;exact p.elim
 · rcases d with _|b|b|b|b|b|b|b
   ·rw[hn]at p;exact p.elim
   ·rw[hb]at p;exact p.elim
   ·rw[hi]at p;exact p.elim
   ·rw[hs]at p;exact p.elim
   ·rw[ht]at p;exact p.elim
   ·exact⟨b,rfl⟩
   ·rw[hf]at p;exact p.elim
   ·rw[hy]at p;exact p.elim
 ·rw[h2]at p;exact p.elim
section
theorem Q2(r:j6 c μ H [d] vs):∃v,vs= [v]/\d7 c μ H d v:=by
 obtain⟨v,t,rfl,q,e⟩:=r
 cases e
 exact⟨v,rfl,q⟩
theorem sF(r:j6 c μ H [d,e] vs):∃v w,vs= [v,w]/\d7 c μ H d v/\d7 c μ H e w:=by
 obtain⟨v,t,rfl,q,v',t',rfl,q',z⟩:=r
 cases z
 exact⟨v,v',rfl,q,q'⟩
theorem mU:O7 X Z (.builtin "len") lenF:=O7.of (T9.or Cc (T9.or lW GU)) λxs H Q rc=>rc.elim λds μ G rl hr p=>by
 rcases ds with _|⟨_|_|_|z|l|i|_|_,_|⟨_,_⟩⟩<;>try exact p.elim
 all_goals (delta lenF at p;dsimp only at p)
 · obtain⟨v,rfl,r⟩:=Q2 rl;split at p
   ·rename_i hz;exact .inr (.inl ⟨z,by rw[Q1 r],hz,c7.ok p hr _ ofI⟩)
   ·exact p.elim
 ·obtain⟨v,rfl,r⟩:=Q2 rl;unfold d7 at r;obtain⟨a,vs,rfl,q,si⟩:=r;exact .inl ⟨a,vs,rfl,.inr q,by rw[<-si.length];exact c7.ok p hr _ ofI⟩
 · obtain⟨v,rfl,r⟩:=Q2 rl;unfold d7 at r;obtain⟨a,m,rfl⟩:=r;obtain⟨o,g,p1⟩:=G9 p;have ro:=hr.obj i o a g m;rcases o with l|l|l|l
   ·obtain⟨vs,q,si⟩:=ro;exact .inl ⟨a,vs,rfl,.inl (SqL.of q),by rw[<-si.length];exact c7.ok p1 hr _ ofI⟩
   ·obtain⟨vs,q,si⟩:=ro;exact .inl ⟨a,vs,rfl,.inl q.sq,by rw[<-si.length];exact c7.ok p1 hr _ ofI⟩
   ·obtain⟨rb,q,rk⟩:=ro;exact .inr (.inr ⟨a,rb,rfl,q,by rw[<-rk.length];exact c7.ok p1 hr _ ofI⟩)
   ·exact p1.elim
theorem HG{f:List D->M α}{K:α->List Addr->DH->Hp->Prop}(h:m8 c μ G H)(rv:d7 c μ H (.ref r) v)(p:c7 c Z μ H (((K5 r >>= listOf) >>= f) G) K):
 ∃l a vs,v= .ref a/\j6 c μ H l vs/\SqL c.K H a vs/\c7 c Z μ H (f l G) K:=by
 obtain⟨l,a,vs,rfl,rl,p2,hq⟩:=SE h rv p;refine⟨l,a,vs,rfl,rl,?_,p2⟩;rcases hq with⟨z,_⟩|⟨_,_,_,⟨_,q⟩|⟨_,q⟩⟩
 ·cases z
 ·exact SqL.of q
 ·exact q.sq
theorem av:O7 X Z (.type "tuple") V8:=O7.of wv λxs H Q rc=>rc.elim λds μ G rl hr p=>by
 rcases ds with _|⟨_|_|_|_|l|i|_|_,_|⟨_,_⟩⟩<;>try exact p.elim
 all_goals (delta V8 at p;dsimp only at p)
 ·obtain⟨v,rfl,r⟩:=Q2 rl;have r':=r;unfold d7 at r';obtain⟨a,vs,rfl,q,si⟩:=r';exact⟨a,vs,rfl,.inr ⟨q,c7.ok p hr _ r⟩⟩
 ·obtain⟨v,rfl,r⟩:=Q2 rl;obtain⟨l,a,vs,rfl,si,q,p2⟩:=HG hr r p;exact⟨a,vs,rfl,.inl ⟨q,λl' hl=>AF hr si p2 l' hl⟩⟩
theorem Qb:O7 X Z (.type "list") nA:=O7.of fY λxs H Q rc=>rc.elim λds μ G rl hr p=>by
 rcases ds with _|⟨_|_|_|_|l|i|_|_,_|⟨_,_⟩⟩<;>try exact p.elim
 all_goals (delta nA at p;dsimp only at p)
 ·obtain⟨v,rfl,r⟩:=Q2 rl;unfold d7 at r;obtain⟨a,vs,rfl,q,si⟩:=r;exact⟨a,vs,rfl,.inr q,λl' hl=>O6 hr si p l' hl⟩
 ·obtain⟨v,rfl,r⟩:=Q2 rl;obtain⟨l,a,vs,rfl,si,q,p2⟩:=HG hr r p;exact⟨a,vs,rfl,.inl q,λl' hl=>O6 hr si p2 l' hl⟩
theorem pz(hc:X.calm=true):O7 X Z (.builtin "min") rB:=O7.of (vT hc) λxs H Q rc=>rc.elim λds μ G rl hr p=>by
 delta rB at p;rcases ds with _|⟨_|_|i|_|_|_|_|_,t⟩<;>try exact p.elim
 rcases t with _|⟨_|_|j|_|_|_|_|_,_|⟨_,_⟩⟩<;>try exact p.elim
 obtain⟨v,w,rfl,r,r'⟩:=sF rl;exact⟨_,_,by rw[T7 r,T7 r'],c7.ok p hr _ ofI⟩
theorem Dc(hc:X.calm=true):O7 X Z (.builtin "max") uE:=O7.of (wX hc) λxs H Q rc=>rc.elim λds μ G rl hr p=>by
 delta uE at p;rcases ds with _|⟨_|_|i|_|_|_|_|_,t⟩<;>try exact p.elim
 rcases t with _|⟨_|_|j|_|_|_|_|_,_|⟨_,_⟩⟩<;>try exact p.elim
 obtain⟨v,w,rfl,r,r'⟩:=sF rl;exact⟨_,_,by rw[T7 r,T7 r'],c7.ok p hr _ ofI⟩
theorem kb:O7 X Z (.builtin "abs") FB:=O7.of Hx λxs H Q rc=>rc.elim λds μ G rl hr p=>by
 rcases ds with _|⟨_|_|_|_|_|_|_|_,_|⟨_,_⟩⟩<;>try exact p.elim
 all_goals (delta FB at p;dsimp only at p)
 ·obtain⟨v,rfl,r⟩:=Q2 rl;exact⟨_,by rw[T7 r],c7.ok p hr _ ofI⟩
theorem NL:O7 X Z (.type "int") nN:=O7.of Sh λxs H Q rc=>rc.elim λds μ G rl hr p=>by
 rcases ds with _|⟨_|_|_|_|_|_|_|_,_|⟨_,_⟩⟩<;>try exact p.elim
 all_goals (delta nN at p;dsimp only at p)
 ·obtain⟨v,rfl,r⟩:=Q2 rl;exact .inr ⟨_,by rw[F6 r],c7.ok p hr _ ofI⟩
 ·obtain⟨v,rfl,r⟩:=Q2 rl;exact .inl ⟨_,by rw[T7 r],c7.ok p hr _ ofI⟩
theorem mP:∀ {l} {ns} {vs} {us},UA l=some ns->j6 c μ H l vs->m7 vs us->us.length=ns.length/\∀i u,us[i]? =some u->∃t,u=Value.int (ns.getD i 0) t
 |[],_,_,_,e,r,q=>by cases e;cases r;cases q;exact⟨rfl,λi u h=>by simp at h⟩
 |d::ds,ns,_,_,e,r,q=>by
   obtain⟨v,t,rfl,r0,rt⟩:=r
   cases q with
   |cons q0 qt=>
     rcases d with _|_|n|_|_|_|_|_<;>try (cases e;done)
     ·
       replace e:(UA ds).map (n :: ·)=some ns:=e;rcases h:UA ds with _|ms
       ·rw[h]at e;exact u6 e
       ·
         rw[h]at e
         cases e
         obtain⟨h1,h2⟩:=mP h rt qt;refine⟨by simp[h1],λi u hu=>?_⟩
         cases i with
         |zero=>
           simp at hu;subst hu;rw[T7 r0]at q0;exact q0
         |succ i=>simpa using h2 i u (by simpa using hu)
theorem IQ:∀ {l} {bs} {vs} {us},RC l=some bs->j6 c μ H l vs->m7 vs us->us.length=bs.length/\∀i u,us[i]? =some u->u=Value.bool (bs.getD i false)
 |[],_,_,_,e,r,q=>by cases e;cases r;cases q;exact⟨rfl,λi u h=>by simp at h⟩
 |d::ds,ns,_,_,e,r,q=>by
   obtain⟨v,t,rfl,r0,rt⟩:=r
   cases q with
   |cons q0 qt=>
     rcases d with _|n|_|_|_|_|_|_<;>try (cases e;done)
     ·
       replace e:(RC ds).map (n :: ·)=some ns:=e;rcases h:RC ds with _|ms
       ·rw[h]at e;exact u6 e
       ·
         rw[h]at e
         cases e
         obtain⟨h1,h2⟩:=IQ h rt qt;refine⟨by simp[h1],λi u hu=>?_⟩
         cases i with
         |zero=>
           simp at hu;subst hu;rw[F6 r0]at q0;exact q0
         |succ i=>simpa using h2 i u (by simpa using hu)
theorem lu(bs:List Bool):((zE bs.length).any λi=>bs.getD i false)=bs.any id:=by
 induction bs with
 |nil=>rfl
 |cons b t ih=>rw[zu,yQ,jw,List.any_map,jw];simp[Xh];rw[<-ih];simp
theorem kr{σ:St}{a:Addr}{qu:List zg}(hc:X.calm=true)(I:Inv X pins σ H s)(hl:s.heap.IsList a qu.toArray)
 (h:Walks X.prog X.w X.A.in1 s.heap.objs.size [s.heap.objs.size,a] [s.heap.objs.size] qu.toArray.size (λi v=>qu.toArray[i]? =some v) (λi h=>h.IsListIter s.heap.objs.size a i/\h.IsList a qu.toArray)->
   ∀h2:Heap,(h2.IsListIter s.heap.objs.size a 0/\h2.IsList a qu.toArray)->(∀b∈ [s.heap.objs.size,a],b<h2.objs.size)->(∀h' tk,(∀b o,b∉ [s.heap.objs.size]->h2.get? b=some o->h'.get? b=some o)->Inv X pins σ H {s with heap:=h',toks:=tk})->Q (.ref s.heap.objs.size) {s with heap:=h2}):
 zo (zA X.prog X.w) X.A.in1 (Xw (.ref a)) Q E s:=by
 have sd:a<s.heap.objs.size:=by obtain⟨_,e,_⟩:=hl;exact zt e
 refine Zl hl ?_;have hh:X.A.in1.handled=none:=I.ok.hd hc;refine h (Walks.list hh s.heap.objs.size a (zC sd) qu.toArray) _ ⟨⟨_,zn _ rfl,rfl,rfl⟩,hl.push _⟩ (λb hb=>?_) λh' tk k=>?_
 · rw[jO];simp only[zr,zT,or_false]at hb;rcases hb with rfl|rfl
   ·exact Zp _
   ·exact jT sd
 ·exact I.kept λb o e=>k b o (by simp only[zm];exact zC (zt e)) (zc _ e)
theorem Nk(hc:X.calm=true):O7 X Z (.builtin "any") eJ:=⟨by
 intro pins s σ H xs us Q I r rc;obtain⟨ds,μ,G,rl,hr,p⟩:=rc;obtain⟨i,rfl⟩:=ig p rfl (λa _ _=>by cases a<;>rfl) rfl (λ_=>rfl) (λ_=>rfl) (λ_=>rfl) (λ_=>rfl) (λ_=>rfl) λ_=>rfl
 · obtain⟨v,rfl,rv⟩:=Q2 rl;obtain⟨u,rfl,ru⟩:=Z9 r;obtain⟨l,a,vs,rfl,si,q,p2⟩:=HG hr rv p
   cases ru
   obtain⟨bs,en,p3⟩:=O5 p2;obtain⟨qu,rr,pl,hz⟩:=I.list q;obtain⟨h1,h2⟩:=IQ en si rr;refine call_any_walk (kr hc I pl.isList λW g hg hb hk=>⟨_,_,_,_,_,_,λi=>bs.getD i false,rfl,W,hg,λi v s' Q' E' hv hq=>?_,λh' tk k=>?_⟩)
   ·rw[h2 i v (by simpa using hv)];exact xP hq
   · refine⟨.bl (bs.any id),H,hk h' tk k,?_,c7.ok p3 hr _ ofB⟩;have e:qu.toArray.size=bs.length:=by rw[zk];exact h1
     rw[e,lu];rfl⟩
theorem ao(hg:Gl X x)(hm:X.mg x=none)(hv:jb x=some (.type n))(hn:x≠ "__name__")(hd:(x==("__debug__" :Str))=false):DE X Z (.Name x pos) (cE (.ty n)):=
 gD (v:=.ty n) (SV hg hm hv rfl hn hd) λ_ _=>by unfold d7;rfl
end
def X3:D->M Bool:=λx=>match x with
 | .non=>pure false
 | .bl b=>pure b
 | .int i=>pure (i != 0)
 | .str y=>if y.length<=zi then pure ((y.length:Int) != 0)else M.stuck
 | .tup l=>pure (!l.isEmpty)
 | .ref r=>do
   match <-K5 r with
   | .lst l=>pure (!l.isEmpty)
   | .rol l=>pure (!l.isEmpty)
   | .dct l=>pure (!l.isEmpty)
   | .rod _=>M.stuck
 |_=>M.stuck
def truthE(f:Fe):DSt->M Bool:=λσ=>do X3 (<-f σ)
section
theorem aC(r:j6 cc μ H l vs):vs.isEmpty=l.isEmpty:=by
 cases l with
 |nil=>cases r;rfl
 |cons _ _=>obtain⟨_,_,rfl,_⟩:=r;rfl
theorem tL(r:V0 cc μ H l vs):vs.isEmpty=l.isEmpty:=by
 cases l with
 |nil=>cases r;rfl
 |cons _ _=>obtain⟨_,_,rfl,_⟩:=r;rfl
theorem pV(ha:DE X Z a fa)(he:∀whole,isTrue a X.env whole= (do let v <-whole;standAt a.pos;Yw [v] (truthy v))):DT X Z a (truthE fa):=
 DT.of (FV ha.h he) λσ H Q rc=>rc.elim λX9 μ G s h p=>⟨X9,μ,G,s,h,(c7.bind p).mono λd X0 G1 H1 x1 h1 p1 v rv=>by
  cases d with
  |non=>rw[WC rv];exact⟨false,rfl,c7.ok p1 h1⟩
  |bl b=>rw[F6 rv];exact⟨b,rfl,c7.ok p1 h1⟩
  |int b=>rw[T7 rv];exact⟨_,rfl,c7.ok p1 h1⟩
  |str y=>
    rw[Q1 rv];unfold X3 at p1;dsimp only at p1;split at p1
    ·rename_i hz;exact⟨_,⟨hz,rfl⟩,c7.ok p1 h1⟩
    ·exact p1.elim
  |tup l=>
    unfold d7 at rv;obtain⟨a,vs,rfl,q,rl⟩:=rv;exact⟨!vs.isEmpty,.inr (.inl ⟨vs,q,rfl⟩),by rw[aC rl];exact c7.ok p1 h1⟩
  |ref r=>
    unfold d7 at rv;obtain⟨a,m,rfl⟩:=rv;obtain⟨o,g,p2⟩:=G9 p1;have ro:=h1.obj r o a g m
    cases o with
    |lst l=>obtain⟨vs,q,rl⟩:=ro;exact⟨!vs.isEmpty,.inl ⟨vs,SqL.of q,rfl⟩,by rw[aC rl];exact c7.ok p2 h1⟩
    |rol l=>obtain⟨vs,q,rl⟩:=ro;exact⟨!vs.isEmpty,.inl ⟨vs,q.sq,rfl⟩,by rw[aC rl];exact c7.ok p2 h1⟩
    |dct l=>obtain⟨vs,q,rl⟩:=ro;exact⟨!vs.isEmpty,.inr (.inr ⟨vs,q,rfl⟩),by rw[tL rl];exact c7.ok p2 h1⟩
    |rod l=>exact p2.elim
  |_=>exact p1.elim⟩
def wE(o o':D->D->M D)(fa fb fc:Fe):Fe:=λσ=>do
 let x <-fa σ
 let y <-fb σ
 if <-lE (<-o x y)then o' y (<-fc σ)else pure (.bl false)
end
def bF(osc scope:Scope)(N XN:List Str)(caps:List (Option Nat)):Bool:=
 decide (scope.kind= .function)&&scope.names.all (λy=>decide (y.2≠ .cell))&&scope.names.all (λy=>decide (y.2= .local->scope.names.lookup y.1=some .local)) &&
 scope.names.all (λy=>decide (y.2= .free->(osc.names.lookup y.1=some .cell\/osc.names.lookup y.1=some .free)))&&scope.names.all (λy=>decide (y.2= .free->scope.names.lookup y.1=some .free)) &&
 decide (caps.length=N.length)&&(zE caps.length).all λi=>match caps[i]? with
  |some (some j)=>match N[i]?,XN[j]? with
    |some x,some y=>decide (x=y)&&decide ((x,NameKind.free)∈scope.names)
    |_,_=>false
  |_=>true
theorem S3.of{caps:List (Option Nat)}(h:bF osc scope N XN caps=true)(hs:X.env.scope=osc)(hN:X.N=XN):S3 X scope N caps:=by
 unfold bF at h;simp only[jy,decide_eq_true_eq,xq]at h;obtain⟨⟨⟨⟨⟨⟨h1,h2⟩,h3⟩,h4⟩,h5⟩,h6⟩,h7⟩:=h;refine⟨h1,h2,h3,λy hy e=>?_,h5,h6,λi j e=>?_⟩
 ·have:=h4 y hy e;show X.env.scope.names.lookup y.1=_\/X.env.scope.names.lookup y.1=_;rw[hs];exact this
 · have hi:i∈zE caps.length:=by rw[jn];exact lt_of_get e
   have q:=h7 i hi;simp only[e]at q;rw[hN];split at q
   ·rename_i x y e1 e2;simp only[jy,decide_eq_true_eq]at q;exact⟨x,e1,by rw[e2,q.1],q.2⟩
   ·exact EF q
def m9(m:Nat)(fb:Fs):List D->M D:=λds=>do
 match <-fb (ds.map some++jI (m-ds.length) none) with
 | .nx _=>pure .non
 | .rt d=>pure d
 |_=>M.stuck
structure FF(K:zj)(mg:Str->Option zg)(x:Str)(st:Stmt)(ps:List Str)(f:Addr)(fd:xV):Prop where
 F:Fun K x x st f fd
 b:P3 K fd ps []
 m:mg x=some (.ref f)
theorem tX(r:j6 c μ H ds vs):u9 c μ H (ds.map some++jI (N.length-ds.length) none) (L2.start N vs):=by
 unfold L2.start;rw[r.length];refine⟨by simp[r.length],λi d e=>?_⟩;by_cases hi:i<ds.length
 · rw[zB (by simpa using hi),jp]at e;have hd:ds[i]? =some d:=by
    cases h:ds[i]? with
    |none=>rw[h]at e;exact u6 e
    |some d'=>rw[h]at e;simpa using e
   obtain⟨v,hv,rv⟩:=r.get hd;refine⟨v,?_,rv⟩;rw[zB (by simp;rw[<-r.length];exact hi),jp,hv];rfl
 ·rw[yB (by simpa using hi),List.getElem?_replicate]at e;split at e<;>cases e
theorem eO{w:je}{K:zj}{base:Heap}{x:Str}{st:Stmt}{f:Addr}{k n m:Nat}{fb:Fs}(F:FF K mg x st ps f fd)(S:V6 N ps (v4 st))(hn:ps.length=n)(hm:N.length=m)
 (hbody:∀(sn:zg) (A:jm) (outer:List Env) (s:zw) (H:Hp) (E:XK),P0 k (A.deeper (YF x (v4 st) s.heap.objs.size f sn))->DB (P7 CX0 P w K mg base N x (v4 st) f sn A outer s H E).nox ZF (U4 st) fb):
 F1 P w K mg base CX0 (k+1) f fd ps (spD ⟨K,mg⟩ n (m9 m fb)):=by
 refine F.F.ok S (λvs H Q E h=>by rw[hn];exact h.1) λsn A outer s H vs Q E hr h=>⟨_,(hbody sn A outer s H E hr).h,?_⟩;obtain⟨hl,ds,μ,G,rl,hG,p⟩:=h;subst hm;refine⟨_,μ,G,tX rl,hG,(c7.bind p).mono λfl X0 G1 H1 x1 h1 p1=>?_⟩
 cases fl with
 |nx X9=>exact λσ _=>c7.ok p1 h1 _ ofN
 |rt d=>exact λv rv=>c7.ok p1 h1 v rv
 |bk _=>exact p1.elim
 |ct _=>exact p1.elim
def qF(K:zj):Sp:=λvs H Q _=>∃(a:Addr) (ns:List Int),vs= [.ref a]/\SqL K H a (ns.map V.int)/\UG H/\ns.length<=63/\∀H',Q (.bl true) H'
theorem bS:∀ns:List Int,j6 c μ H (ns.map D.int) (ns.map V.int)
 |[]=>rfl
 |n::t=>⟨.int n,_,rfl,ofI,bS t⟩
theorem gu{w:je}{K:zj}{base:Heap}{f:Addr}{k:Nat}(hF:F1 P w K mg base CX0 k f fd ["script"] (spD ⟨K,mg⟩ 1 F))
 (pure:∀ns:List Int,ns.length<=63->∃G',F [.ref 0] [.rol (ns.map D.int)]=some (.ok (.bl true),G')):F1 P w K mg base CX0 k f fd ["script"] (qF K):=
 hF.imp λvs H Q E h=>by
  obtain⟨a,ns,rfl,hS,hO,hl,q⟩:=h;obtain⟨G',e⟩:=pure ns hl;refine⟨rfl, [.ref 0], [a], [.rol (ns.map D.int)],⟨.ref a, [],rfl,by unfold d7;exact⟨a,rfl,rfl⟩,rfl⟩,⟨rfl,λi j b e1 e2=>?_,λi o b e1 e2=>?_⟩,?_⟩
  ·have h1:=lt_of_get e1;have h2:=lt_of_get e2;simp at h1 h2;left;lia
  · have h1:=lt_of_get e2;simp at h1;subst h1;have e1':o= .rol (ns.map D.int):=by simpa using e1.symm
    have e2':b=a:=by simpa using e2.symm
    subst e1' e2';refine⟨ns.map V.int,?_,bS ns⟩;rcases hS with(hS|⟨o,hS⟩)|hS
    · rcases hO b with z|⟨o,xs,z⟩
      ·rw[z]at hS;exact u6 hS
      ·rw[z]at hS;cases hS
    ·exact .inl ⟨o,hS⟩
    ·exact .inr (.inr hS)
  ·rw[e];exact λX2 H' _ _ v rv=>by rw[F6 rv];exact q H'
theorem Lx:jb "len" =some (.builtin "len"):=by decide +kernel
theorem gm:jb "isinstance" =some (.builtin "isinstance"):=by decide +kernel
theorem nU:jb "any" =some (.builtin "any"):=by decide +kernel
theorem Dz:jb "min" =some (.builtin "min"):=by decide +kernel
theorem sY:jb "max" =some (.builtin "max"):=by decide +kernel
theorem GX:jb "abs" =some (.builtin "abs"):=by decide +kernel
theorem vE:jb "sorted" =some (.builtin "sorted"):=by decide +kernel
theorem km:jb "tuple" =some (.type "tuple"):=by decide +kernel
theorem iV:jb "list" =some (.type "list"):=by decide +kernel
theorem Qv:jb "int" =some (.type "int"):=by decide +kernel
theorem qd:jb "str" =some (.type "str"):=by decide +kernel
theorem MT:jb "dict" =some (.type "dict"):=by decide +kernel
theorem kY:jb "zip" =some (.type "zip"):=by decide +kernel
end DL
namespace DL
open PySem L2
def Wp{α:Type}(m:M α)(G:DH)(Q:α->DH->Prop):Prop:=∃a G',m G=some (.ok a,G')/\Q a G'
section
theorem Wp.mono(h:Wp m G Q)(k:∀a G',Q a G'->Q' a G'):Wp m G Q':=let ⟨a,G',e,q⟩:=h;⟨a,G',e,k a G' q⟩
theorem wp_pure:Wp (pure a) G Q↔Q a G:=by
 constructor
 · rintro⟨b,G',e,q⟩
   cases e
   exact q
 ·exact λq=>⟨a,G,rfl,q⟩
theorem QA:Wp (M.stuck:M α) G Q↔False:=by
 constructor
 ·rintro⟨b,G',e,q⟩;exact u6 e
 ·exact jU
theorem d9:Wp (m >>= f) G Q↔Wp m G λa G1=>Wp (f a) G1 Q:=by
 constructor
 · rintro⟨a,G',e,q⟩;rw[M.bind_eq]at e
   match h:m G,e with
   |some (.ok b,G1),e=>exact⟨b,G1,h,a,G',e,q⟩
 ·rintro⟨b,G1,e,a,G',e',q⟩;exact⟨a,G',by rw[M.bind_ok e];exact e',q⟩
theorem vA(h:m G=some (.ok a,G')):Wp m G Q↔Q a G':=⟨fun⟨b,G2,e,q⟩=>by rw[h]at e;cases e;exact q,λq=>⟨a,G',h,q⟩⟩
theorem n9:Wp (U1 o) G Q↔∃a,o=some a/\Q a G:=by
 rcases o with _|a
 ·
   constructor
   ·rintro⟨_,_,e,_⟩;exact u6 e
   ·rintro⟨_,e,_⟩;exact u6 e
 ·
   constructor
   · rintro⟨_,_,e,q⟩
     cases e
     exact⟨_,rfl,q⟩
   · rintro⟨_,e,q⟩
     cases e
     exact⟨_,_,rfl,q⟩
theorem M5{Q:DO->DH->Prop}:Wp (K5 r) G Q↔∃o,G[r]? =some o/\Q o G:=by
 constructor
 · rintro⟨a,G',e,q⟩;delta K5 at e;rcases h:G[r]? with _|o
   ·rw[h]at e;exact u6 e
   ·rw[h]at e;cases e;exact⟨_,rfl,q⟩
 ·rintro⟨o,e,q⟩;refine⟨o,G,?_,q⟩;delta K5;rw[e]
theorem M4{Q:DPP}:Wp (J5 o) G Q↔Q (.ref G.length) (G++[o]):=vA rfl
theorem BJ{Q:Unit->DH->Prop}:Wp (P5 r o) G Q↔Q () (G.set r o):=vA rfl
end
section
theorem R7:Wp (varE i σ) G Q↔∃d,σ[i]? =some (some d)/\Q d G:=by
 constructor
 · rintro⟨d,G',e,q⟩;delta varE at e;rcases h:σ[i]? with _|o
   ·rw[h]at e;exact u6 e
   ·
     rw[h]at e;rcases o with _|d'
     ·exact u6 e
     ·cases e;exact⟨_,rfl,q⟩
 ·rintro⟨d,h,q⟩;exact⟨d,G,by delta varE;rw[h],q⟩
theorem x5:Wp (cE d σ) G Q↔Q d G:=wp_pure
theorem l4:Wp (binE o a b σ) G Q↔Wp (a σ) G λx G1=>Wp (b σ) G1 λy G2=>Wp (o x y) G2 Q:=by unfold binE;simp only[d9]
theorem MG:Wp (unE o a σ) G Q↔Wp (a σ) G λx G1=>Wp (o x) G1 Q:=by unfold unE;simp only[d9]
theorem b9:Wp (if k=true then m else n) G R↔if k=true then Wp m G R else Wp n G R:=by cases k<;>exact Iff.rfl
theorem ON:Wp (lE d) G B↔∃k,d= .bl k/\B k G:=by
 constructor
 · rintro⟨k,G',e,q⟩;rcases d with _|b|_|_|_|_|_|_<;>try (cases e;done)
   ·cases e;exact⟨_,rfl,q⟩
 ·rintro⟨k,e,q⟩;subst e;exact⟨k,G,rfl,q⟩
theorem AA:Wp (ifE t a b σ) G Q↔Wp (t σ) G λk G1=>if k=true then Wp (a σ) G1 Q else Wp (b σ) G1 Q:=by unfold ifE;simp only[d9,b9]
theorem cA:Wp (B6 a σ) G B↔Wp (a σ) G λx G1=>∃k,x= .bl k/\B k G1:=by unfold B6;simp only[d9,ON]
theorem R1:Wp (truthE a σ) G B↔Wp (a σ) G λx G1=>Wp (X3 x) G1 B:=by unfold truthE;simp only[d9]
theorem wG:Wp (j3 t u σ) G B↔Wp (t σ) G λk G1=>if k=true then Wp (u σ) G1 B else B false G1:=by unfold j3;simp only[d9,b9,wp_pure]
theorem ke:Wp (orT t u σ) G B↔Wp (t σ) G λk G1=>if k=true then B true G1 else Wp (u σ) G1 B:=by unfold orT;simp only[d9,b9,wp_pure]
theorem X4:Wp (F4 t σ) G B↔Wp (t σ) G λk G1=>B (!k) G1:=by unfold F4;simp only[d9,wp_pure]
theorem o8:Wp (o0 σ) G R↔R [] G:=wp_pure
theorem O2:Wp (x0 a fs σ) G R↔Wp (a σ) G λx G1=>Wp (fs σ) G1 λxs G2=>R (x::xs) G2:=by unfold x0;simp only[d9,wp_pure]
theorem U5:Wp (C2 F fs σ) G Q↔Wp (fs σ) G λds G1=>Wp (F ds) G1 Q:=by unfold C2;simp only[d9]
theorem uB{α:Type}{m:M α}{R:α->DH->Prop}:Wp (noX m) G R↔Wp m G R:=by
 constructor
 · rintro⟨x,G',e,q⟩;delta noX at e;rcases h:m G with _|p
   ·rw[h]at e;exact u6 e
   ·
     rw[h]at e;obtain⟨_|y,G1⟩:=p
     ·exact u6 e
     ·cases e;exact⟨_,_,h,q⟩
 ·rintro⟨x,G',e,q⟩;exact⟨x,G',by delta noX;rw[e],q⟩
theorem V1:Wp (fnX n F ds) G Q↔ds.length=n/\Wp (F ds) G Q:=by
 unfold fnX;by_cases h:ds.length=n
 ·rw[if_pos h,uB];exact⟨λq=>⟨h,q⟩,λq=>q.2⟩
 ·rw[if_neg h];exact⟨λq=>(QA.mp q).elim,λq=>(h q.1).elim⟩
theorem M9:Wp (A2 fs σ) G Q↔Wp (fs σ) G λxs G1=>xs.length<=zi/\Q (.tup xs) G1:=by
 unfold A2;simp only[d9];constructor
 · rintro⟨xs,G1,e,q⟩;refine⟨xs,G1,e,?_⟩;by_cases h:xs.length<=zi
   ·rw[if_pos h]at q;exact⟨h,wp_pure.mp q⟩
   ·rw[if_neg h]at q;exact(QA.mp q).elim
 ·rintro⟨xs,G1,e,h,q⟩;exact⟨xs,G1,e,by dsimp only;rw[if_pos h];exact wp_pure.mpr q⟩
theorem BE:Wp (Q5 fs σ) G Q↔Wp (fs σ) G λxs G1=>xs.length<=zi/\Q (.ref G1.length) (G1++[.lst xs]):=by
 unfold Q5;simp only[d9];constructor
 · rintro⟨xs,G1,e,q⟩;refine⟨xs,G1,e,?_⟩;by_cases h:xs.length<=zi
   ·rw[if_pos h]at q;exact⟨h,M4.mp q⟩
   ·rw[if_neg h]at q;exact(QA.mp q).elim
 ·rintro⟨xs,G1,e,h,q⟩;exact⟨xs,G1,e,by dsimp only;rw[if_pos h];exact M4.mpr q⟩
theorem t7:Wp (t8 σ) G P↔P (.nx σ) G:=wp_pure
theorem d8:Wp (j5 f g σ) G P↔Wp (f σ) G λfl G1=>match fl with
 | .nx X1=>Wp (g X1) G1 P
 |r=>P r G1:=by
 delta j5;refine Iff.trans d9 ?_;constructor
 · rintro⟨fl,G1,e,q⟩;refine⟨fl,G1,e,?_⟩
   cases fl<;>first
    |exact q
    |exact wp_pure.mp q
 · rintro⟨fl,G1,e,q⟩;refine⟨fl,G1,e,?_⟩
   cases fl<;>first
    |exact q
    |exact wp_pure.mpr q
theorem A6:Wp (o9 a σ) G P↔Wp (a σ) G λd G1=>P (.rt d) G1:=by unfold o9;simp only[d9,wp_pure]
theorem l8:Wp (S5 a σ) G P↔Wp (a σ) G λ_ G1=>P (.nx σ) G1:=by unfold S5;simp only[d9,wp_pure]
theorem sC:Wp (ifS t f g σ) G P↔Wp (t σ) G λk G1=>if k=true then Wp (f σ) G1 P else Wp (g σ) G1 P:=by unfold ifS;simp only[d9,b9]
theorem B7:Wp (v7 a gg σ) G P↔Wp (a σ) G λd G1=>Wp (gg d σ) G1 λX1 G2=>P (.nx X1) G2:=by unfold v7;simp only[d9,wp_pure]
theorem J8:Wp (S0 i d σ) G S↔S (σ.set i (some d)) G:=wp_pure
theorem y7:Wp (m9 m f ds) G Q↔Wp (f (ds.map some++jI (m-ds.length) none)) G λfl G1=>match fl with
 | .nx _=>Q .non G1
 | .rt d=>Q d G1
 |_=>False:=by
 delta m9;refine Iff.trans d9 ?_;constructor
 · rintro⟨fl,G1,e,q⟩;refine⟨fl,G1,e,?_⟩
   cases fl<;>first
    |exact wp_pure.mp q
    |exact QA.mp q
 · rintro⟨fl,G1,e,q⟩;refine⟨fl,G1,e,?_⟩
   cases fl<;>first
    |exact wp_pure.mpr q
    |exact QA.mpr q
def LK(o:Option Bool)(g:Bool->Bool)(G:DH):Option (Except Str D×DH):=match o with
 |some b=>some (.ok (.bl (g b)),G)
 |none=>none
theorem QC{g:Bool->Bool}(h:m G=LK o g G):Wp m G Q↔∃k,o=some k/\Q (.bl (g k)) G:=by
 unfold Wp;rw[h];rcases o with _|k
 ·
   constructor
   ·rintro⟨_,_,e,_⟩;exact u6 e
   ·rintro⟨_,e,_⟩;exact u6 e
 ·
   constructor
   · rintro⟨_,_,e,q⟩
     cases e
     exact⟨_,rfl,q⟩
   · rintro⟨_,e,q⟩
     cases e
     exact⟨_,_,rfl,q⟩
theorem kA:Wp (eqD x y) G Q↔∃k,eqN 40 G x y=some k/\Q (.bl k) G:=QC rfl
theorem SK:Wp (neD x y) G Q↔∃k,eqN 40 G x y=some k/\Q (.bl (!k)) G:=QC rfl
theorem Lw:Wp (ltD x y) G Q↔∃k,ltN 40 G x y=some k/\Q (.bl k) G:=QC rfl
end
end DL
namespace DL
open PySem PySem.Spec L2
open PyProof.Rows hiding St
section
theorem oW(hc:X.calm=true)(hi:DI X Z tg iter it)(k:S3 X scope N caps)
 (hg:∀C s H ex,DG (N6 X scope N C s H ex) ZF tg gg) (ht:∀C s H ex,DTs (N6 X scope N C s H ex) ZF ifs tt) (he:∀C s H ex,DE (N6 X scope N C s H ex) ZF elt fe)
 (hs:∀x,xm iter X.env x=pure x) (hgo:DG X Z (.Name y py) g2) (hsw:swapsWith (.ListComp elt [⟨tg,iter,ifs,0⟩] scope pos) (some (.Name y py)) spos.line X.env=pure true):
 DS X Z (.Assign [.Name y py] (.ListComp elt [⟨tg,iter,ifs,0⟩] scope pos) spos) (v7 (M6 it caps gg tt fe) g2):=by
 refine⟨?_⟩;intro pins s σ H En I rc;refine rc.elim λX9 μ G sr hr p0=>?_;obtain⟨Q,hQ,p⟩:∃Q:VK,(∀v H',Q v H'->FC (wc X) Z g2 v σ H' En.nx)/\c7 (wc X) Z μ H (M6 it caps gg tt fe X9 G) λd X2 _ H'=>∀v,d7 (wc X) X2 H' d v->Q v H':=
  ⟨λv H'=>FC (wc X) Z g2 v σ H' En.nx,λ_ _ z=>z,(c7.bind p0).mono λd X0 G1 H1 x' h1 p1 v rv=>⟨d,X9,X0,G1,rv,sr.mono x',h1,(c7.bind p1).mono λdσ2 WX G2 H2 x2 h2 p2 σ2 s2=>c7.ok p2 h2 σ2 s2⟩⟩
 rw[exec_Assign_Name_used _ _ _ _ hsw];refine za (YB (za ?_));show zo _ X.A (do let _ <-comprehension (.ListComp elt [⟨tg,iter,ifs,0⟩] scope pos) scope X.env _ (newList []) false (eval iter X.env) (some (Xa (.Name y py) X.env))) _ _ s;refine za (jE (lQ hc hi k hg ht he hs I sr hr p λDD C s4 H' m o hn fin hCn hf q9=>?_) (λ_ s' hq=>ze (ze hq)) λ_ _ e=>e);have fC:∀ {H9:Hp},H9 C=none->∀b∈ [C],A1 X pins H9 b:=λ{H9} hn9 b hb=>by rw[zm]at hb;subst hb;exact hf H9 hn9
 obtain⟨oC,zC1,zC2,hoC,zC3⟩:=id hn;have I5:=(fin s4.heap ⟨rfl,λ_ _=>rfl⟩).pinned (fC hCn) (λb hb=>by rw[zm]at hb;subst hb;exact⟨oC,hoC,λv z=>by first|(rw[zC3.1]at z;cases z)|(rw[zC3.2.1]at z;cases z)⟩)
 refine thn (hgo.h _ s4 σ H' (.ref DD) (.ref DD) _ I5 rfl (hQ _ _ q9)) λ_ s5 ⟨σ5,H5,I6,q6⟩=>?_;obtain⟨g5,g5n,_⟩:=I6.pin (C,oC) (zN _ (zN _ (V9 (by simp) hoC)));refine⟨m,hn.at' (λo e=>by rw[hoC]at e;cases e;exact g5),λh'' sb=>⟨σ5,H5,UK I6.unpinned (fC g5n) λb o hb e=>(sb.2 b (by simpa using hb)).trans e,q6⟩⟩
end
def L9:List D->Option (List Str)
 |[]=>some []
 | .str x::r=>(L9 r).map (x :: ·)
 |_=>none
def J1:List (Key×D)->Option (List Str)
 |[]=>some []
 |(.inr x,_)::r=>(J1 r).map (x :: ·)
 |_=>none
section
end
section
theorem GP:∀ {l} {ss},J1 l=some ss->ss.length=l.length
 |[],_,e=>by cases e;rfl
 |(.inr x,_)::r,ss,e=>by
  replace e:=show (J1 r).map (_ :: ·)=some _ from e;rcases h:J1 r with _|t
  ·rw[h]at e;cases e
  ·rw[h]at e;cases e;simp[GP h]
 |(.inl _,_)::_,_,e=>by cases e
theorem rR{w:je}:∀ {l} {ss:List Str} {rb} {xs} {vs},J1 l=some ss->V0 c μ H l rb->KV rb xs->vs.length=xs.length->
 (∀(j:Nat) (v:zg),vs[j]? =some v->∃k x,xs[j]? =some (k,x)/\(u5 P w).is k v=true)->StrsAre vs ss
 |[],_,_,xs,vs,e,r,kv,hl,hv=>by
   cases e;cases r;cases kv
   rcases vs with _|⟨_,_⟩
   ·exact .nil
   ·simp at hl
 |(.inr x,d)::t,ss,rb,xs,vs,e,r,kv,hl,hv=>by
  replace e:=show (J1 t).map (_ :: ·)=some _ from e;rcases h:J1 t with _|q
  ·rw[h]at e;cases e
  ·
    rw[h]at e
    cases e
    obtain⟨v0,tl,rfl,r0,rt⟩:=r
    cases kv with
    |cons hk ht=>
      cases vs with
      |nil=>simp at hl
      |cons u us=>
        obtain⟨k,y,e1,e2⟩:=hv 0 u rfl;simp only[zG,zQ]at e1;have hk1:(Sum.inr x:Key)=_:=hk.1;rw[e1]at hk1;have e3:y8 (.inr x) u=true:=by rw[hk1];exact e2
        rcases w6 e3 with⟨_,_,z,_⟩|⟨x',t',z,eu⟩
        ·cases z
        · cases z
          subst eu;exact .cons _ _ (rR h rt ht (by simpa using hl) λj v hj=>by simpa using hv (j+1) v (by simpa using hj))
 |(.inl _,_)::_,_,_,_,_,e,_,_,_,_=>by cases e
theorem QM:∀ {out} {ss},StrsAre out ss->∃vs,vs=ss.map V.str/\m7 vs out/\j6 c μ H (ss.map D.str) vs
 |_,_,.nil=>⟨[],rfl,.nil,rfl⟩
 |_,_,.cons x t q=>by obtain⟨vs,e,h1,h2⟩:=QM q;subst e;exact⟨_,rfl,.cons ⟨t,rfl⟩ h1,_,_,rfl,by unfold d7;rfl,h2⟩
end
def Its(z:Str):It:=⟨λi _=>∃c,z.cps[i]? =some c,λi H x H'=>H'=H/\∃c,z.cps[i]? =some c/\x= .str ⟨#[c]⟩,λi _=>z.cps[i]? =none⟩
theorem OZ{K:zj}(z:Str)(t:Tok)(it:Addr):f8 P w K tg (Its z) [it] it (λi h=>h.IsStrIter it "str_ascii_iterator" z t i) where
 mem:=by simp
 obj:=λi h st b hb=>by
  have e:b=it:=by simpa using hb
  subst e;obtain⟨o,e,c,d⟩:=st;exact⟨o,e,λv z=>by rw[d]at z;cases z⟩
 keep:=λi h h' st k=>let ⟨o,ho,r⟩:=st;⟨o,k it (by simp) o ho,r⟩
 item:=by intro X hP hw hK hc i pins s σ H E I hf st hg;subst hP hw hK;obtain⟨c,hx⟩:=hg;obtain⟨f0,f1,f2,f3,f4,f5⟩:=hf it (by simp);refine wpAny_pyNext_ascii_item st hx λh' sh sb=>?_;have I1:Inv X pins σ H {s with heap:=h',toks:=s.toks+1}:=I.turned (λb o hb e=>(sb.2 b hb).trans e) f0 f1 f3 f4 f5;obtain⟨o,e,cc,d⟩:=id sh;exact⟨_,rfl,nC e cc d (by decide) ⟨.str ⟨#[c]⟩,H,I1,⟨_,rfl⟩,⟨rfl,c,hx,rfl⟩,sh,λb hb=>(hf b hb).1⟩⟩
 done:=by intro X hP hw hK hc i pins s σ H E I hf st hg;subst hP hw hK;obtain⟨f0,f1,f2,f3,f4,f5⟩:=hf it (by simp);exact wpAny_pyNext_ascii_end (I.ok.hd hc) st hg λh' eb=>⟨rfl,I.turned (λb o hb e=>eb b o hb e) f0 f1 f3 f4 f5⟩
 self:=λ_ _ _ _ _ st h=>wpAny_pyIter_striter_ascii st h
theorem Hv{K:zj}(z:Str)(t:Tok)(it:Addr):f8 P w K tg (Its z) [it] it (λi h=>h.IsStrIter it "str_iterator" z t i) where
 mem:=by simp
 obj:=λi h st b hb=>by
  have e:b=it:=by simpa using hb
  subst e;obtain⟨o,e,c,d⟩:=st;exact⟨o,e,λv z=>by rw[d]at z;cases z⟩
 keep:=λi h h' st k=>let ⟨o,ho,r⟩:=st;⟨o,k it (by simp) o ho,r⟩
 item:=by intro X hP hw hK hc i pins s σ H E I hf st hg;subst hP hw hK;obtain⟨c,hx⟩:=hg;obtain⟨f0,f1,f2,f3,f4,f5⟩:=hf it (by simp);refine wpAny_pyNext_wide_item st hx λh' sh sb=>?_;have I1:Inv X pins σ H {s with heap:=h',toks:=s.toks+1}:=I.turned (λb o hb e=>(sb.2 b hb).trans e) f0 f1 f3 f4 f5;obtain⟨o,e,cc,d⟩:=id sh;exact⟨_,rfl,nC e cc d (by decide) ⟨.str ⟨#[c]⟩,H,I1,⟨_,rfl⟩,⟨rfl,c,hx,rfl⟩,sh,λb hb=>(hf b hb).1⟩⟩
 done:=by intro X hP hw hK hc i pins s σ H E I hf st hg;subst hP hw hK;obtain⟨f0,f1,f2,f3,f4,f5⟩:=hf it (by simp);exact wpAny_pyNext_wide_end (I.ok.hd hc) st hg λh' eb=>⟨rfl,I.turned (λb o hb e=>eb b o hb e) f0 f1 f3 f4 f5⟩
 self:=λ_ _ _ _ _ st h=>wpAny_pyIter_striter_wide st h
section
def rK(z:Str):List D:=z.cps.toList.map λc=>.str ⟨#[c]⟩
def fG:D->M Src:=λx=>match x with
 | .str z=>pure ⟨rK z,λ_=>true⟩
 | .tup l=>N4 (.tup l)
 | .ref r=>N4 (.ref r)
 |_=>M.stuck
end
section
end
theorem cU{w:je}{K:zj}{base:Heap}{CX:CXT}{k n:Nat}{f:Addr}(hn:ps.length=n):F1 P w K mg base CX k f fd ps (spD ⟨K,mg⟩ n λ_=>M.stuck):=
 ⟨λvs H Q E h=>by rw[hn];exact h.1,λA outer s H args us vs Q E hr=>by
  intros;rename_i h
  first
   |exact h.2.elim
   |(obtain⟨_,_,_,_,_,_,z⟩:=h;exact z.elim)⟩
end DL
namespace W
open PySem PySem.Spec L2 DL
open PyProof.Rows hiding St
theorem st1:([d].map some++jI n none:DSt)[0]? =some (some d):=by rfl
theorem OB{P:Bool->Prop}:(∃k,D.bl b= .bl k/\P k)↔P b:=⟨fun⟨k,e,p⟩=>by cases e;exact p,λp=>⟨b,rfl,p⟩⟩
theorem Q0{P:α->Prop}:(∃k,some b=some k/\P k)↔P b:=⟨fun⟨k,e,p⟩=>by cases e;exact p,λp=>⟨b,rfl,p⟩⟩
theorem cD:Wp (gtD (.int i) (.int j)) G Q↔Q (.bl (decide (j<i))) G:=wp_pure
theorem ix_tup:Wp (ixD (.tup l) (.int i)) G Q↔∃d,atI l i=some d/\Q d G:=n9
theorem O9:Wp (X3 (.bl b)) G B↔B b G:=wp_pure
theorem SO:Wp (lenF [.tup l]) G Q↔Q (.int l.length) G:=wp_pure
theorem u7:Wp (eqD (.int i) (.int j)) G Q↔Q (.bl (decide (i=j))) G:=by
 have e:eqN 40 G (.int i) (.int j)=some (decide (i=j)):=by rfl
 rw[kA,e];exact Q0
theorem W4(h:Wp m G λa G'=>a=x/\G'=G):m G=some (.ok x,G):=by obtain⟨a,G',e,e1,e2⟩:=h;subst e1 e2;exact e
theorem dN{g:Fg}{e:Fe}{G:DH}{I:DSt->Prop}(sx:ck G=true):∀items (σ:DSt),I σ->
 (∀d∈items,∀ σ,I σ->∃ WY,g d σ G=some (.ok WY,G)/\I WY/\t WY G=some (.ok true,G)/\e WY G=some (.ok (f d),G))->J7 g t e ck items σ G=some (.ok (items.map f),G)
 |[],σ,_,_=>by unfold J7;simp only[sx,if_true,ZK]
 |d::r,σ,i,h=>by obtain⟨WY,h1,i1,h2,h3⟩:=h d (by simp) σ i;have h4:=dN sx r WY i1 λd hd=>h d (by simp[hd]);unfold J7;simp only[sx,if_true];rw[M.bind_ok h1,M.bind_ok h2,if_pos rfl,M.bind_ok h3,M.bind_ok h4];rfl
theorem Hg{it:DSt->M Src}{g:Fg}{e:Fe}{G:DH}{σ:DSt}{s:Src}(I:DSt->Prop)(hs:it σ G=some (.ok s,G))(hn:s.items.length<=zi)(sx:s.ck G=true)(hi:I (Z8 caps σ))
 (h:∀d∈s.items,∀ σ,I σ->∃ WY,g d σ G=some (.ok WY,G)/\I WY/\t WY G=some (.ok true,G)/\e WY G=some (.ok (f d),G)):
 Wp (M6 it caps g t e σ) G Q↔Q (.ref G.length) (G++[.lst (s.items.map f)]):=by
 unfold M6;simp only[d9];rw[vA hs,if_pos hn];simp only[d9,uB];rw[vA (dN sx s.items _ hi h),M4]
theorem lt_int:Wp (ltD (.int i) (.int j)) G Q↔Q (.bl (decide (i<j))) G:=by
 have e:ltN 40 G (.int i) (.int j)=some (decide (i<j)):=by rfl
 rw[Lw,e];exact Q0
theorem N9:Wp (addD (.int i) (.int j)) G Q↔Q (.int (i+j)) G:=wp_pure
theorem at0:atI [a,b] 0=some a:=by rfl
theorem at1:atI [a,b] 1=some b:=by rfl
section
theorem B8:Wp (B1 g b ck [] σ) G P↔ck G=true/\P (.nx σ) G:=by
 unfold B1;constructor
 · rintro⟨a,G',e,q⟩;by_cases h:ck G=true
   ·simp only[h,if_true]at e;cases e;exact⟨h,q⟩
   ·simp only[h]at e;exact u6 e
 ·rintro⟨h,q⟩;exact⟨_,G,by simp only[h,if_true],q⟩
theorem Q7:Wp (B1 g b ck (d::r) σ) G P↔ck G=true/\Wp (g d σ) G λWY G1=>Wp (b WY) G1 λfl G2=>match fl with
 | .nx X1=>Wp (B1 g b ck r X1) G2 P
 | .ct X1=>Wp (B1 g b ck r X1) G2 P
 | .bk X1=>P (.nx X1) G2
 | .rt d=>P (.rt d) G2:=by
 have e:Wp (B1 g b ck (d::r) σ) G P↔ck G=true/\Wp (do
  match <-b (<-g d σ) with
  | .nx X1=>B1 g b ck r X1
  | .ct X1=>B1 g b ck r X1
  | .bk X1=>pure (.nx X1)
  | .rt d=>pure (.rt d):M Fl) G P:=by
  rw[B1];constructor
  · rintro⟨a,G',e,q⟩;by_cases h:ck G=true
    ·simp only[h,if_true]at e;exact⟨h,a,G',e,q⟩
    ·simp only[h]at e;exact u6 e
  ·rintro⟨h,a,G',e,q⟩;exact⟨a,G',by simp only[h,if_true];exact e,q⟩
 rw[e];simp only[d9];refine and_congr_right λ_=>?_;constructor
 · rintro⟨WY,G1,e1,fl,G2,e2,q⟩;refine⟨WY,G1,e1,fl,G2,e2,?_⟩
   cases fl<;>first
    |exact q
    |exact wp_pure.mp q
 · rintro⟨WY,G1,e1,fl,G2,e2,q⟩;refine⟨WY,G1,e1,fl,G2,e2,?_⟩
   cases fl<;>first
    |exact q
    |exact wp_pure.mpr q
theorem g6:Wp (y3 it g b σ) G P↔Wp (it σ) G λs G1=>Wp (B1 g b s.ck s.items σ) G1 P:=by unfold y3;simp only[d9]
end
theorem OD:Wp (i9 (.int i) (.int j)) G Q↔Q (.int (i-j)) G:=wp_pure
theorem atI_nat{k:Nat}(h:l[k]? =some s):atI l (k:Int)=some s:=by
 have hk:k<l.length:=by
  by_cases hk:k<l.length
  ·exact hk
  ·rw[zZ (by omega)]at h;exact u6 h
 unfold atI ixN;rw[if_pos (by omega),if_pos (by omega)];simpa using h
section
theorem U6(h:0<j):Wp (D3 (.int i) (.int j)) G Q↔Q (.int (i % j)) G:=by have e:D3 (.int i) (.int j)=if 0<j then pure (.int (i % j))else M.stuck:=rfl;rw[e,if_pos h];exact wp_pure
theorem IC(h:0<j/\j<2 ^ 100):Wp (x9 (.int i) (.int j)) G Q↔Q (.int (i / j)) G:=by have e:x9 (.int i) (.int j)=if TB i j then pure (.int (i / j))else M.stuck:=rfl;rw[e,if_pos (show TB i j from h)];exact wp_pure
theorem O3(h:E7 i j):Wp (F2 (.int i) (.int j)) G Q↔Q (.int (i*j)) G:=by have e:F2 (.int i) (.int j)=if E7 i j then pure (.int (i*j))else M.stuck:=rfl;rw[e,if_pos h];exact wp_pure
theorem F7{l:List D}(h:G[r]? =some (.lst l)):Wp (ixD (.ref r) (.int i)) G Q↔∃d,atI l i=some d/\Q d G:=by
 have e:ixD (.ref r) (.int i)= (do
  let l <-K5 r >>= DL.listOf
  U1 (atI l i)):=rfl
 rw[e];simp only[d9,M5,h,Q0,DL.listOf,wp_pure,n9]
theorem TW{d:D}{R:Unit->DH->Prop}(h:G[r]? =some (.lst l))(hj:ixN l.length k=some j):Wp (AE (.ref r) (.int k) d) G R↔R () (G.set r (.lst (l.set j d))):=by unfold AE;simp only[d9,M5,h,Q0,hj,BJ]
theorem wx:Wp (pB fo fi d σ) G S↔Wp (fo σ) G λo G1=>Wp (fi σ) G1 λi G2=>Wp (AE o i d) G2 λ_ G3=>S σ G3:=by unfold pB;simp only[d9,wp_pure]
end
theorem mI(h:i7 i j):Wp (F3 (.int i) (.int j)) G Q↔Q (.int (i ^ j.toNat)) G:=by have e:F3 (.int i) (.int j)=if i7 i j then pure (.int (i ^ j.toNat))else M.stuck:=rfl;rw[e,if_pos h];exact wp_pure
theorem p18:Wp (F3 (.int 10) (.int 18)) G Q↔Q (.int 1000000000000000000) G:=by rw[mI (by decide)];exact Iff.rfl
theorem FI:Wp (E3 (.int i)) G Q↔Q (.int (-i)) G:=wp_pure
theorem bK{l:List D}{k:Int}(h0:0<=k)(h1:k<l.length):∃d,d∈l/\atI l k=some d:=by
 obtain⟨n,rfl⟩:=Ys h0;have hn:n<l.length:=by omega
 exact⟨l[n],Je hn,atI_nat (zq hn)⟩
theorem sz{l:List D}(h:Nat.ble l.length 100=true:=by rfl):l.length<=zi:=zS (Nat.le_of_ble_eq_true h) (by decide)
theorem Hk{G t:DH}:(G++t)[G.length+k]? =t[k]? :=by rw[yB (by omega)];congr 1;omega
theorem pO{G t:DH}:(G++t)[G.length]? =t[0]? :=Hk (k:=0)
section
theorem df:Wp (rB [.int i,.int j]) G Q↔Q (.int (if j<i then j else i)) G:=wp_pure
theorem A3:Wp (mtE t m fo fs σ) G Q↔Wp (fo σ) G λx G1=>Wp (t x) G1 λ_ G2=>Wp (fs σ) G2 λxs G3=>Wp (m x xs) G3 Q:=by unfold mtE;simp only[d9]
theorem N7(h:G[r]? =some (.lst l)):Wp (v5 (.ref r)) G R↔R () G:=by delta v5;exact d9.trans ((M5.trans (by rw[h];exact Q0)).trans wp_pure)
theorem Q8{l:List D}(h:G[r]? =some (.lst l))(hl:l.length<zi):Wp (v8 (.ref r) [y]) G Q↔Q .non (G.set r (.lst (l++[y]))):=by
 have e:v8 (.ref r) [y]= (do
  let l <-lstM r
  if l.length<zi then do
   let _ <-P5 r (.lst (l++[y]))
   pure .non
  else M.stuck):=rfl
 rw[e];unfold lstM;simp only[d9,M5,h,Q0,wp_pure,hl,if_true,BJ]
theorem W3{l:List D}(h:G[r]? =some (.lst l)):Wp (V8 [.ref r]) G Q↔Q (.tup l) G:=by
 have e:V8 [.ref r]= (do
  let l <-K5 r >>= DL.listOf
  pure (.tup l)):=rfl
 rw[e];simp only[d9,M5,h,Q0,DL.listOf,wp_pure]
theorem aV:Wp (nA [.tup l]) G Q↔Q (.ref G.length) (G++[.lst l]):=M4
theorem ME:Wp (c5 fs σ) G R↔Wp (fs σ) G λxs G1=>Wp (match xs with
 |[.int j]=>if -(2 ^ 62)<=j/\j<2 ^ 62 then pure ⟨N8 0 j.toNat,λ_=>true⟩else M.stuck
 |_=>M.stuck:M Src) G1 R:=by
 delta c5;exact d9
theorem wD(h: -(2 ^ 62)<=j/\j<2 ^ 62):Wp (match [D.int j] with
 |[.int j]=>if -(2 ^ 62)<=j/\j<2 ^ 62 then pure ⟨N8 0 j.toNat,λ_=>true⟩else M.stuck
 |_=>M.stuck:M Src) G R↔R ⟨N8 0 j.toNat,λ_=>true⟩ G:=by
 show Wp (if -(2 ^ 62)<=j/\j<2 ^ 62 then pure ⟨N8 0 j.toNat,λ_=>true⟩else M.stuck:M Src) G R↔_;rw[if_pos h];exact wp_pure
theorem rA{a b:List D}(ha:G[i]? =some (.lst a))(hb:G[j]? =some (.lst b))(hl:a.length+b.length<=zi):Wp (addD (.ref i) (.ref j)) G Q↔Q (.ref G.length) (G++[.lst (a++b)]):=by
 have e:addD (.ref i) (.ref j)= (do
  match <-K5 i,<-K5 j with
  | .lst a,.lst b=>if a.length+b.length<=zi then J5 (.lst (a++b))else M.stuck
  |_,_=>M.stuck):=rfl
 rw[e];simp only[d9,M5,ha,hb,Q0,if_pos hl,M4]
theorem UO(hl:a.length+b.length<=zi):Wp (addD (.tup a) (.tup b)) G Q↔Q (.tup (a++b)) G:=by have e:addD (.tup a) (.tup b)=if a.length+b.length<=zi then pure (.tup (a++b))else M.stuck:=rfl;rw[e,if_pos hl];exact wp_pure
theorem tO:Wp (c8 σ) G R↔R none G:=wp_pure
theorem fQ:Wp (T6 f σ) G R↔Wp (f σ) G λx G1=>∃i,x= .int i/\R (some i) G1:=by
 delta T6;refine Iff.trans d9 ?_;constructor
 · rintro⟨x,G1,e,q⟩;refine⟨x,G1,e,?_⟩;rcases x with _|_|i|_|_|_|_|_<;>try (exact(QA.mp q).elim;done)
   ·exact⟨i,rfl,wp_pure.mp q⟩
 ·rintro⟨x,G1,e,i,rfl,q⟩;exact⟨_,G1,e,wp_pure.mpr q⟩
theorem sl_tup{lo hi:Option Int}:Wp (slD (.tup l) lo hi) G Q↔Q (.tup (DL.cutD l lo hi)) G:=wp_pure
theorem TX{P:Int->Prop}:(∃k,D.int i= .int k/\P k)↔P i:=⟨fun⟨k,e,p⟩=>by cases e;exact p,λp=>⟨i,rfl,p⟩⟩
end
theorem f9{G:DH}:(G++[o])[G.length]? =some o:=pO
theorem v9{G t:DH}{p:Nat}(e:G[p]? =some o):(G++t)[p]? =some o:=by
 have sd:p<G.length:=by
  by_cases hi:p<G.length
  ·exact hi
  ·rw[zZ (by omega)]at e;exact u6 e
 rw[zB sd];exact e
def okD:D->Bool
 | .non=>true
 | .bl _=>true
 | .int _=>true
 | .str _=>true
 | .tup _=>true
 |_=>false
theorem Vb:Wp (eqD (.tup xs) (.tup [])) G Q↔Q (.bl xs.isEmpty) G:=by
 have h:eqN 40 G (.tup xs) (.tup [])=some xs.isEmpty:=by
  rw[fE]
  cases xs<;>rfl
 rw[kA,h];exact Q0
def Gr(G G':DH):Prop:=G.length<=G'.length/\∀i,i<G.length->G'[i]? =G[i]?
theorem vQ:∀ns:List Int,UA (ns.map D.int)=some ns
 |[]=>rfl
 |a::r=>by show (UA (r.map D.int)).map (a :: ·)=_;rw[vQ r];rfl
theorem wz{σ:DSt}{l:List D}{R:Src->DH->Prop}(e:G[p]? =some (.lst l)):Wp (N4 (.ref p)) G R↔R ⟨l,ckO p (.lst l)⟩ G:=by
 have h:N4 (.ref p)= (do
  let o <-K5 p
  let l <-DL.listOf o
  pure ⟨l,ckO p o⟩):=rfl
 rw[h];simp only[d9,M5,e,Q0,DL.listOf,wp_pure]
def ok1:D->Bool
 | .tup l=>l.all okD
 |d=>okD d
def ok2:D->Bool
 | .tup l=>l.all ok1&&decide (l.length<=40)
 |d=>okD d
section
theorem VN:Wp (wE o o' a b c σ) G Q↔Wp (a σ) G λx G1=>Wp (b σ) G1 λy G2=>Wp (o x y) G2 λz G3=>∃k,z= .bl k/\if k=true then Wp (c σ) G3 λw G4=>Wp (o' y w) G4 Q else Q (.bl false) G3:=by unfold wE;simp only[d9,ON,b9,wp_pure]
theorem lD:Wp (J7 g t e ck [] σ) G R↔ck G=true/\R [] G:=by
 unfold J7;constructor
 · rintro⟨a,G',e,q⟩;by_cases h:ck G=true
   ·simp only[h,if_true]at e;cases e;exact⟨h,q⟩
   ·simp only[h]at e;exact u6 e
 ·rintro⟨h,q⟩;exact⟨_,G,by simp only[h,if_true],q⟩
theorem uG:Wp (J7 g t e ck (d::r) σ) G R↔ck G=true/\Wp (g d σ) G λWY G1=>Wp (t WY) G1 λb G2=>if b=true then Wp (e WY) G2 λy G3=>Wp (J7 g t e ck r WY) G3 λys G4=>R (y::ys) G4 else Wp (J7 g t e ck r WY) G2 R:=by
 have h0:Wp (J7 g t e ck (d::r) σ) G R↔ck G=true/\Wp (do
  let WY <-g d σ
  if <-t WY then do
   let y <-e WY
   let ys <-J7 g t e ck r WY
   pure (y::ys)
  else J7 g t e ck r WY:M (List D)) G R:=by
  rw[J7];constructor
  · rintro⟨a,G',e,q⟩;by_cases h:ck G=true
    ·simp only[h,if_true]at e;exact⟨h,a,G',e,q⟩
    ·simp only[h]at e;exact u6 e
  ·rintro⟨h,a,G',e,q⟩;exact⟨a,G',by simp only[h,if_true];exact e,q⟩
 rw[h0];simp only[d9,b9,wp_pure]
theorem wp_comp:Wp (M6 it caps g t e σ) G Q↔Wp (it σ) G λs G1=>s.items.length<=zi/\Wp (J7 g t e s.ck s.items (Z8 caps σ)) G1 λys G2=>Q (.ref G2.length) (G2++[.lst ys]):=by
 unfold M6;simp only[d9];constructor
 · rintro⟨s,G1,e1,q⟩;refine⟨s,G1,e1,?_⟩;by_cases h:s.items.length<=zi
   ·rw[if_pos h]at q;simp only[d9,uB,M4]at q;exact⟨h,q⟩
   ·rw[if_neg h]at q;exact(QA.mp q).elim
 ·rintro⟨s,G1,e1,h,q⟩;refine⟨s,G1,e1,?_⟩;dsimp only;rw[if_pos h];simp only[d9,uB,M4];exact q
theorem uK(sx:ck G=true)(S:DSt->Prop):∀items σ,S σ->
 (∀d∈items,∀ σ,S σ->∃ WY,g d σ G=some (.ok WY,G)/\S WY/\t WY G=some (.ok (p d),G)/\e WY G=some (.ok d,G))->J7 g t e ck items σ G=some (.ok (items.filter p),G)
 |[],σ,_,_=>by unfold J7;simp only[sx,if_true,List.filter_nil]
 |d::r,σ,i,h=>by
   obtain⟨WY,h1,i1,h2,h3⟩:=h d (by simp) σ i;have h4:=uK sx S r WY i1 λd hd=>h d (by simp[hd]);unfold J7;simp only[sx,if_true];rw[M.bind_ok h1,M.bind_ok h2];by_cases hp:p d=true
   ·rw[if_pos hp,M.bind_ok h3,M.bind_ok h4,List.filter_cons_of_pos hp];rfl
   ·rw[if_neg hp,h4,List.filter_cons_of_neg hp]
end
section
theorem uH:Wp (eqD (.str a) (.str b)) G Q↔Q (.bl (a==b)) G:=by
 have e:eqN 40 G (.str a) (.str b)=some (a==b):=by rfl
 rw[kA,e];exact Q0
theorem Mb:Wp (neD (.str a) (.str b)) G Q↔Q (.bl (!(a==b))) G:=by
 have e:eqN 40 G (.str a) (.str b)=some (a==b):=by rfl
 rw[SK,e];exact Q0
theorem Mc:Wp (leD (.str a) (.str b)) G Q↔Q (.bl (!decide (b.cps.toList<a.cps.toList))) G:=wp_pure
theorem KK(h:a.length+b.length<=zi):Wp (addD (.str a) (.str b)) G Q↔Q (.str (a++b)) G:=by have e:addD (.str a) (.str b)=if a.length+b.length<=zi then pure (.str (a++b))else M.stuck:=rfl;rw[e,if_pos h];exact wp_pure
theorem NC(h:z.length<=zi):Wp (lenF [.str z]) G Q↔Q (.int z.length) G:=by have e:lenF [.str z]=if z.length<=zi then pure (.int z.length)else M.stuck:=rfl;rw[e,if_pos h];exact wp_pure
theorem Mm:Wp (qC x y) G Q↔∃k,inB x y G=some k/\Q (.bl (!k)) G:=QC (by unfold qC LK;cases inB x y G<;>rfl)
theorem OV:Wp (inD x y) G Q↔∃k,inB x y G=some k/\Q (.bl k) G:=QC (by unfold inD LK;cases inB x y G<;>rfl)
theorem vb(e:G[p]? =some (.lst l)):Wp (fG (.ref p)) G R↔R ⟨l,ckO p (.lst l)⟩ G:=wz (σ:= []) e
end
def gN(c:Nat):Bool:=decide (97<=c)&&decide (c<=122)
def gR(z:Str):Bool:=z.cps.toList.all gN
end W
namespace DL
open PySem PySem.Spec L2
open PyProof.Rows hiding St
section
end
section
theorem Sd{qu:List zg}(h:ItemsOf (λi v=>qu.toArray[qu.toArray.size-1-i]? =some v) rz qu.toArray.size):rz.toList=qu.reverse:=by
 have hl:rz.toList.length=qu.length:=by rw[zF,h.1];simp
 apply XM;intro i;by_cases hi:i<qu.length
 · have hi':i<rz.size:=by rw[h.1];simpa using hi
   have hv:=h.2 i rz[i] (zU hi');rw[List.getElem?_reverse hi,zK,zU hi',<-hv];simp
 ·rw[zZ (by lia),zZ (by rw[Zx];lia)]
end
end DL
namespace DL
open PySem PySem.Spec L2 Builtin Builtin.Str
open PyProof.Rows hiding St
section
variable{X:Cx}{Z:XC}{e:Expr}{fa:Fe}{p2 pos:Pos}{lo hi:Option Expr}{fl fh:Fo}
theorem rQ(p:IsPart v o):∃l:Option (Int×Tok),v=partValue l/\l.map (·.1)=o:=by
 cases p with
 |none=>exact⟨none,rfl,rfl⟩
 |int i t=>exact⟨some (i,t),rfl,rfl⟩
theorem oi:SlR X (λx lo hi H Q=>∃z,x= .str z/\z.length<=zi/\Q (.str (ZH z lo hi)) H):=by
 intro pins s σ H x v vl vu lo hi sl Q I rx hs pl pu h;obtain⟨z,rfl,hz,q⟩:=h;obtain⟨t,rfl⟩:=rx;obtain⟨l,el,eml⟩:=rQ pl;obtain⟨u,eu,emu⟩:=rQ pu;subst el eu eml emu;refine⟨"str",_,PySem.F.slot_str_getitem.lookup,typeIs_str _ z t,?_⟩;refine wpAny_getItem_str_slice (st:=none) (let ⟨o,h1,h2,h3⟩:=hs;⟨o,h1,h2,h3⟩) rfl ?_;unfold sliceMade;unfold ZH at q;unfold slicePicked;have e1:((Option.map (λx:Int×Tok=>x.1) none).getD 1)= (1:Int):=rfl;simp only[e1];by_cases hc:((1:Int)==1&&(strSliceIndices (l.map (·.1)) (u.map (·.1)) 1 z.length).length==z.length)=true
 ·rw[if_pos hc]at q;rw[if_pos hc];exact⟨.str z,H,I,⟨t,rfl⟩,q⟩
 ·rw[if_neg hc]at q;rw[if_neg hc];refine⟨?_,.str _,H,I.tok _,⟨_,rfl⟩,q⟩;have hle:=Txt.slice_le z (l.map (·.1)) (u.map (·.1));unfold ZH at hle;rw[if_neg hc]at hle;exact zS hle hz
def slT:D->Option Int->Option Int->M D:=λx lo hi=>match x with
 | .str z=>if z.length<=zi then pure (.str (ZH z lo hi))else M.stuck
 | .tup l=>slD (.tup l) lo hi
 | .ref r=>slD (.ref r) lo hi
 |_=>M.stuck
def d6(f:Fe)(lo hi:Fo):Fe:=λσ=>do
 let x <-f σ
 let l <-lo σ
 let h <-hi σ
 slT x l h
theorem Bk:SlD X Z slT:=SlR.mono (oi.or (qU)) λx lo hi H Q ⟨dx,μ,G,rx,hr,p⟩=>by
 rcases dx with _|_|_|z|l|r|_|_<;>try (exact p.elim;done)
 ·
   unfold slT at p;dsimp only at p;split at p
   ·rename_i hz;exact .inl ⟨z,Q1 rx,hz,c7.ok p hr _ (by unfold d7;rfl)⟩
   ·exact p.elim
 ·exact .inr ⟨.tup l,μ,G,rx,hr,p⟩
 ·exact .inr ⟨.ref r,μ,G,rx,hr,p⟩
theorem IZ(he:DE X Z e fa)(hl:DOp X Z lo fl)(hu:DOp X Z hi fh):DE X Z (.Subscript e (.Slice lo hi none p2) pos) (d6 fa fl fh):=
 DE.of (iq Bk he.h hl.h hu.h) λσ H Q rc=>rc.elim λX9 μ G s h p=>⟨X9,μ,G,s,h,(c7.bind p).mono λd X0 G1 H1 x1 h1 p1 v rv=>
  ⟨X9,X0,G1,s.mono x1,h1,(c7.bind p1).mono λl WX G2 H2 x2 h2 p2=>⟨X9,WX,G2,s.mono (x1.trans x2),h2,(c7.bind p2).mono λu WN G3 H3 x3 h3 p3=>⟨d,WN,G3,rv.mono (x2.trans x3),h3,p3⟩⟩⟩⟩
end
section
end
end DL
namespace W
open PySem PySem.Spec L2 DL Builtin Builtin.Str
open PyProof.Rows hiding St
section
theorem OE{lo hi:Fo}:Wp (d6 f lo hi σ) G Q↔Wp (f σ) G λx G1=>Wp (lo σ) G1 λl G2=>Wp (hi σ) G2 λh G3=>Wp (slT x l h) G3 Q:=by unfold d6;simp only[d9]
theorem nR{lo hi:Option Int}(h:z.length<=zi):Wp (slT (.str z) lo hi) G Q↔Q (.str (ZH z lo hi)) G:=by have e:slT (.str z) lo hi=if z.length<=zi then pure (.str (ZH z lo hi))else M.stuck:=rfl;rw[e,if_pos h];exact wp_pure
end
end W
namespace DL
open PySem PySem.Spec L2
open PyProof.Rows hiding St
def S2:D->D->M D:=λx y=>match y with
 | .non=>pure (.bl (KI x))
 | .bl c=>match x with
   | .bl d=>pure (.bl (d==c))
   |_=>M.stuck
 |_=>M.stuck
def F8:D->D->M D:=λx y=>match y with
 | .non=>pure (.bl (!KI x))
 | .bl c=>match x with
   | .bl d=>pure (.bl (d != c))
   |_=>M.stuck
 |_=>M.stuck
def WF(a b:Fe):Fe:=λσ=>do
 let x <-a σ
 if <-X3 x then pure x else b σ
def C4(a b:Fe):Fe:=λσ=>do
 let x <-a σ
 if <-X3 x then b σ else pure x
section
theorem rX:OpR X (ja .Is) (λx y H Q=>(y= .non/\Q (.bl (decide (x= .non))) H)\/∃c d,x= .bl c/\y= .bl d/\Q (.bl (c==d)) H):=by
 intro pins s σ H x y v u Q I rx ry h;rcases h with h|⟨c,d,rfl,rfl,q⟩
 ·exact oq pins s σ H x y v u Q I rx ry h
 · cases rx
   cases ry
   exact is_bool ⟨.bl (c==d),H,I,rfl,q⟩
theorem cu:OpR X (ja .IsNot) (λx y H Q=>(y= .non/\Q (.bl (!decide (x= .non))) H)\/∃c d,x= .bl c/\y= .bl d/\Q (.bl (c != d)) H):=by
 intro pins s σ H x y v u Q I rx ry h;rcases h with h|⟨c,d,rfl,rfl,q⟩
 ·exact Bv pins s σ H x y v u Q I rx ry h
 · cases rx
   cases ry
   exact isnot_bool ⟨.bl (c != d),H,I,rfl,q⟩
theorem Nq:OpD X Z (ja .Is) S2:=OpD.of rX λx y H Q rc=>rc.elim λdx dy μ G sk su hr p=>by
 rcases dy with _|d|_|_|_|_|_|_<;>try (exact p.elim;done)
 ·exact .inl ⟨WC su,by rw[qP sk];exact c7.ok p hr _ ofB⟩
 ·
   rcases dx with _|c|_|_|_|_|_|_<;>try (exact p.elim;done)
   ·exact .inr ⟨c,d,F6 sk,F6 su,c7.ok p hr _ ofB⟩
theorem kg:OpD X Z (ja .IsNot) F8:=OpD.of cu λx y H Q rc=>rc.elim λdx dy μ G sk su hr p=>by
 rcases dy with _|d|_|_|_|_|_|_<;>try (exact p.elim;done)
 ·exact .inl ⟨WC su,by rw[qP sk];exact c7.ok p hr _ ofB⟩
 ·
   rcases dx with _|c|_|_|_|_|_|_<;>try (exact p.elim;done)
   ·exact .inr ⟨c,d,F6 sk,F6 su,c7.ok p hr _ ofB⟩
theorem mN{G:DH}{d:D}{v:V}{f:Bool->M α}{K:α->List Addr->DH->Hp->Prop}(h:m8 (wc X) μ G H)(rv:d7 (wc X) μ H d v)(p:c7 (wc X) Z μ H ((X3 d >>= f) G) K):
 ∃k,aL X.K v H k/\c7 (wc X) Z μ H (f k G) K:=by
 have p1:=c7.bind p;rcases d with _|b|b|y|l|r|_|_<;>try (exact p1.elim;done)
 ·rw[WC rv];exact⟨false,rfl,c7.ok p1 h⟩
 ·rw[F6 rv];exact⟨b,rfl,c7.ok p1 h⟩
 ·rw[T7 rv];exact⟨_,rfl,c7.ok p1 h⟩
 ·
   rw[Q1 rv];unfold X3 at p1;dsimp only at p1;split at p1
   ·rename_i hz;exact⟨_,⟨hz,rfl⟩,c7.ok p1 h⟩
   ·exact p1.elim
 ·
   unfold d7 at rv;obtain⟨a,vs,rfl,q,rl⟩:=rv;exact⟨!vs.isEmpty,.inr (.inl ⟨vs,q,rfl⟩),by rw[aC rl];exact c7.ok p1 h⟩
 ·
   unfold d7 at rv;obtain⟨a,m,rfl⟩:=rv;obtain⟨o,g,p2⟩:=G9 p1;have ro:=h.obj r o a g m;rcases o with l|l|l|l
   ·obtain⟨vs,q,rl⟩:=ro;exact⟨!vs.isEmpty,.inl ⟨vs,SqL.of q,rfl⟩,by rw[aC rl];exact c7.ok p2 h⟩
   ·obtain⟨vs,q,rl⟩:=ro;exact⟨!vs.isEmpty,.inl ⟨vs,q.sq,rfl⟩,by rw[aC rl];exact c7.ok p2 h⟩
   ·obtain⟨vs,q,rl⟩:=ro;exact⟨!vs.isEmpty,.inr (.inr ⟨vs,q,rfl⟩),by rw[tL rl];exact c7.ok p2 h⟩
   ·exact p2.elim
theorem eV{rest:List Expr}(ha:DE X Z a fa)(hb:DE X Z (.BoolOp .Or (b::rest) pos) fb):DE X Z (.BoolOp .Or (a::b::rest) pos) (WF fa fb):=by
 refine⟨?_⟩;intro pins s σ H Q I rc;refine rc.elim λX9 μ G sr h p=>?_;refine BoolOp_or (thn (ha.h pins s σ H _ I ⟨X9,μ,G,sr,h,(c7.bind p).mono λd X0 G1 H1 x1 h1 p1 v rv=>(⟨d,X0,G1,x1,rv,h1,p1⟩:∃d X0 G1,Ext μ H X0 H1/\d7 (wc X) X0 H1 d v/\m8 (wc X) X0 G1 H1/\c7 (wc X) Z X0 H1 ((X3 d >>= λk=>if k=true then pure d else fb X9) G1) λd X2 _ H'=>∀v,d7 (wc X) X2 H' d v->Q v H')⟩) λv s1 ⟨x,H1,I1,r1,d,X0,G1,x1,rd,h1,p1⟩=>?_);obtain⟨k,tk,p2⟩:=mN h1 rd p1;refine thn (uI pins s1 σ H1 x v (λc H'=>c=k/\H'=H1) I1 r1 ⟨k,tk,rfl,rfl⟩) λc s2 ⟨H2,I2,e1,e2⟩=>?_;subst e1 e2;rcases c with _|_
 ·exact hb.h pins s2 σ H2 Q I2 ⟨X9,X0,G1,sr.mono x1,h1,p2⟩
 ·exact⟨x,H2,I2,r1,c7.ok p2 h1 _ rd⟩
theorem gb{rest:List Expr}(ha:DE X Z a fa)(hb:DE X Z (.BoolOp .And (b::rest) pos) fb):DE X Z (.BoolOp .And (a::b::rest) pos) (C4 fa fb):=by
 refine⟨?_⟩;intro pins s σ H Q I rc;refine rc.elim λX9 μ G sr h p=>?_;refine BoolOp_and (thn (ha.h pins s σ H _ I ⟨X9,μ,G,sr,h,(c7.bind p).mono λd X0 G1 H1 x1 h1 p1 v rv=>(⟨d,X0,G1,x1,rv,h1,p1⟩:∃d X0 G1,Ext μ H X0 H1/\d7 (wc X) X0 H1 d v/\m8 (wc X) X0 G1 H1/\c7 (wc X) Z X0 H1 ((X3 d >>= λk=>if k=true then fb X9 else pure d) G1) λd X2 _ H'=>∀v,d7 (wc X) X2 H' d v->Q v H')⟩) λv s1 ⟨x,H1,I1,r1,d,X0,G1,x1,rd,h1,p1⟩=>?_);obtain⟨k,tk,p2⟩:=mN h1 rd p1;refine thn (uI pins s1 σ H1 x v (λc H'=>c=k/\H'=H1) I1 r1 ⟨k,tk,rfl,rfl⟩) λc s2 ⟨H2,I2,e1,e2⟩=>?_;subst e1 e2;rcases c with _|_
 ·exact⟨x,H2,I2,r1,c7.ok p2 h1 _ rd⟩
 ·exact hb.h pins s2 σ H2 Q I2 ⟨X9,X0,G1,sr.mono x1,h1,p2⟩
end
end DL
namespace W
open PySem PySem.Spec L2 DL
open PyProof.Rows hiding St
section
theorem VM:Wp (WF a b σ) G Q↔Wp (a σ) G λx G1=>Wp (X3 x) G1 λk G2=>if k=true then Q x G2 else Wp (b σ) G2 Q:=by unfold WF;simp only[d9,b9,wp_pure]
theorem US:Wp (C4 a b σ) G Q↔Wp (a σ) G λx G1=>Wp (X3 x) G1 λk G2=>if k=true then Wp (b σ) G2 Q else Q x G2:=by unfold C4;simp only[d9,b9,wp_pure]
end
end W
namespace DL
open PySem PySem.Spec L2
open PyProof.Rows hiding St
structure sA(F:List D->M D)(n:Nat)(x:Str)(P:zV)(w:je)(K:zj)(mg:Str->Option zg)(base:Heap)(k:Nat):Prop where
 ex:∃f fd ps,F1 P w K mg base CX0 k f fd ps (spD ⟨K,mg⟩ n F)/\mg x=some (.ref f)/\yS K (.ref f)=true/\P3 K fd ps []
theorem sA.of{P:zV}{w:je}{K:zj}{base:Heap}{k n:Nat}{x:Str}{st:Stmt}{f:Addr}(c:FF K mg x st ps f fd)(h:F1 P w K mg base CX0 k f fd ps (spD ⟨K,mg⟩ n F)):sA F n x P w K mg base k:=
 ⟨f,fd,ps,h,c.m,c.F.kp,c.b⟩
def bltL:List Str:= ["len", "isinstance", "all", "any", "sum", "min", "max", "abs", "sorted", "tuple", "list", "int", "str", "bool", "dict", "zip", "enumerate", "range", "reversed", "set"]
structure BLs(mg:Str->Option zg):Prop where
 h:∀b∈bltL,mg b=none
theorem eD:(xF p l).any (·.1)=l.any (·.1):=by unfold xF;rw[List.any_map];rfl
theorem IB:∀ {es},es.all O1=true->(zX es env).any (·.1)=false
 |[],_=>rfl
 |e::es,h=>by rw[jX,jy]at h;rw[f6 h.1,jw,IB h.2];rfl
section
theorem iX(hN:∃N ps sc,V6 N ps sc/\X.N=N)(hi:X.N[i]? =some x)(hx:Loc X.env.scope x)(hf:X.fn x=true\/X.env.scope.names.lookup x=some .local):DG X Z (.Name x pos) (S0 i):=by obtain⟨N,ps,sc,S,e⟩:=hN;exact RP (by rw[e];exact S.nd) hi hx hf
theorem Sb(ha:DE X Z e fa)(hr:DA X Z es fs)(hs:O1 e=true):DA X Z (e::es) (x0 fa fs):=mJ ha hr (f6 hs)
theorem HZ(hF:∃k kk,sA F n x X.prog X.w X.K X.mg X.base k/\P0 kk X.A/\k<=kk)(hg:Gl X x)(ha:DA X Z (e::es) fs)(hdb:(x==("__debug__" :Str))=false)(hs:(e::es).all O1=true):
 DE X Z (.Call (.Name x p) (e::es) [] pos) (C2 (fnX n F) fs):=by
 obtain⟨k,kk,hF,hr,hk⟩:=hF;obtain⟨f,fd,ps,h1,h2,h3,h4⟩:=hF.ex;rw[jX,jy]at hs;exact Tf h1 (hr.mono hk) hg h2 h3 h4 ha hdb (f6 hs.1) (by rw[eD];exact IB hs.2)
structure BD(F:List D->M D)(x:Str)(X:Cx)(Z:XC):Prop where
 ex:(∃id,O7 X Z (.builtin id) F/\jb x=some (.builtin id))\/(∃T,O7 X Z (.type T) F/\jb x=some (.type T))
theorem hW(hc:X.calm=true)(hF:X.calm=true->BD F x X Z)(hb:BLs X.mg)(hx:bltL.elem x=true)(hg:Gl X x)(ha:DA X Z (e::es) fs)(hn:x≠ "__name__")(hdb:(x==("__debug__" :Str))=false)(hs:(e::es).all O1=true):
 DE X Z (.Call (.Name x p) (e::es) [] pos) (C2 F fs):=by
 have hm:=hb.h x (List.elem_iff.mp hx);rw[jX,jy]at hs;rcases (hF hc).ex with⟨id,h1,h2⟩|⟨T,h1,h2⟩
 ·exact hV h1 hg hm h2 ha hn hdb (f6 hs.1) (by rw[eD];exact IB hs.2)
 ·exact fW h1 hg hm h2 ha hn hdb (f6 hs.1) (by rw[eD];exact IB hs.2)
theorem Qk(_:X.calm=true):BD lenF "len" X Z:=⟨.inl ⟨_,mU,Lx⟩⟩
theorem vX(_:X.calm=true):BD K6 "isinstance" X Z:=⟨.inl ⟨_,bx,gm⟩⟩
theorem aU(h:X.calm=true):BD eJ "any" X Z:=⟨.inl ⟨_,Nk h,nU⟩⟩
theorem dX(h:X.calm=true):BD rB "min" X Z:=⟨.inl ⟨_,pz h,Dz⟩⟩
theorem Nv(h:X.calm=true):BD uE "max" X Z:=⟨.inl ⟨_,Dc h,sY⟩⟩
theorem Rq(_:X.calm=true):BD FB "abs" X Z:=⟨.inl ⟨_,kb,GX⟩⟩
theorem wV(_:X.calm=true):BD V8 "tuple" X Z:=⟨.inr ⟨_,av,km⟩⟩
theorem Tc(_:X.calm=true):BD nA "list" X Z:=⟨.inr ⟨_,Qb,iV⟩⟩
theorem cv:∀n∈ ["int", "bool", "str", "tuple", "list", "dict"],jb (jh n)=some (.type n):=by decide +kernel
theorem ar(hb:BLs X.mg)(hn:n∈ ["int", "bool", "str", "tuple", "list", "dict"])(hx:bltL.elem (jh n)=true)(hg:Gl X (jh n))(hnn:jh n≠ "__name__")(hd:(jh n==("__debug__" :Str))=false):DE X Z (.Name (jh n) pos) (cE (.ty n)):=
 ao hg (hb.h _ (List.elem_iff.mp hx)) (cv n hn) hnn hd
theorem Bp(hb:BLs X.mg)(hg:Gl X "range")(ha:DA X Z [a] fs)(hs:O1 a=true):DI X Z tg (.Call (.Name "range" p) [a] [] pos) (c5 fs):=Rv hg (hb.h _ (by decide +kernel)) ha (T8 hs)
theorem vg(hb:BLs X.mg)(hg:Gl X "zip")(ha:DA X Z [a,b] fs)(hs:O1 a=true)(hs2:O1 b=true):DI X Z (.Tuple es1 x1 tp) (.Call (.Name "zip" p) [a,b] [] pos) (D8 fs):=aZ hg (hb.h _ (by decide +kernel)) ha (NY hs hs2) (T8 hs2) kY
def C5(sc:Scope):List Str:=(sc.names.filterMap λy=>if y.2 == .local&&y.1 != (".0" :Str)then some y.1 else none)++(sc.names.filterMap λy=>if y.2 == .free then some y.1 else none)
theorem dq(hc:X.calm=true)(hi:DI X Z tg iter it)(k:∃XN ps osc,V6 XN ps osc/\X.env.scope=osc/\X.N=XN/\bF osc scope (C5 scope) XN caps=true)(nd:(C5 scope).Nodup)
 (hg:(C5 scope).Nodup->∀C s H ex,DG (N6 X scope (C5 scope) C s H ex) ZF tg gg) (ht:∀C s H ex,DTs (N6 X scope (C5 scope) C s H ex) ZF ifs tt) (he:∀C s H ex,DE (N6 X scope (C5 scope) C s H ex) ZF elt fe)
 (hf:∀x,xm iter X.env x=pure x):DE X Z (.ListComp elt [⟨tg,iter,ifs,0⟩] scope pos) (M6 it caps gg tt fe):=let ⟨_,_,_,_,hs,hN,k⟩:=k;cW hc hi (S3.of k hs hN) (hg nd) ht he hf
theorem Kx(hc:X.calm=true)(hi:DI X Z tg iter it)(k:∃XN ps osc,V6 XN ps osc/\X.env.scope=osc/\X.N=XN/\bF osc scope (C5 scope) XN caps=true)(nd:(C5 scope).Nodup)
 (hg:(C5 scope).Nodup->∀C s H ex,DG (N6 X scope (C5 scope) C s H ex) ZF tg gg) (ht:∀C s H ex,DTs (N6 X scope (C5 scope) C s H ex) ZF ifs tt) (he:∀C s H ex,DE (N6 X scope (C5 scope) C s H ex) ZF elt fe)
 (hf:∀x,xm iter X.env x=pure x) (hgo:DG X Z (.Name y py) g2) (hsw:swapsWith (.ListComp elt [⟨tg,iter,ifs,0⟩] scope pos) (some (.Name y py)) spos.line X.env=pure true):
 DS X Z (.Assign [.Name y py] (.ListComp elt [⟨tg,iter,ifs,0⟩] scope pos) spos) (v7 (M6 it caps gg tt fe) g2):=let ⟨_,_,_,_,hs,hN,k⟩:=k;oW hc hi (S3.of k hs hN) (hg nd) ht he hf hgo hsw
end
section
end
end DL
namespace W
open PySem PySem.Spec L2 DL
open PyProof.Rows hiding St
section
end
end W
namespace DL
open PySem PySem.Spec L2
open PyProof.Rows hiding St
def Itd(a:Addr)(o:Obj)(rb:List (Key×V)):It:=
 ⟨λi H=>H a=some (.frz o (.dK rb))/\∃kv,rb[i]? =some kv,λi H x H'=>H'=H/\∃kv,rb[i]? =some kv/\x=kV kv.1,λi H=>H a=some (.frz o (.dK rb))/\rb.length<=i⟩
theorem vM:∀ {rb} {vs} {i:Nat} {kv:κ×V},KV rb vs->rb[i]? =some kv->∃v,vs[i]? =some (kv.1,v)
 |_,_,_,_,.nil,e=>by simp at e
 |_,_,0,_,.cons h t,e=>by simp only[zG,zQ]at e;subst e;exact⟨_,by rw[zG,h.1]⟩
 |_,_,i+1,_,.cons h t,e=>by simp only[zW]at e ⊢;exact vM t e
theorem Cv(h:(u5 P w).is k u=true):t6 (kV k) u:=by
 rcases w6 h with⟨i,t,rfl,rfl⟩|⟨x,t,rfl,rfl⟩
 ·exact⟨t,rfl⟩
 ·exact⟨t,rfl⟩
theorem nO(I:Inv X pins σ H s)(ho:o.data= .dict es ep)(e:H a=some (.frz o (.dK rb))):
 (a==xU)=false/\∃vs,KV rb vs/\s.heap.DictAt (u5 X.prog X.w) a vs ep:=by
 obtain⟨hget,hz,hS,vs,r,m⟩:=(show O4 X.prog X.w H s.heap a (.frz o (.dK rb))from I.hok a _ e);obtain⟨ep',dat⟩:=m.dictAt;have hep:ep'=ep:=by
  obtain⟨o',uh,h1,_,h3,_⟩:=id dat;rw[hget]at h1
  cases h1
  rw[ho]at h3
  cases h3
  rfl
 subst hep;exact⟨hS,vs,r,dat⟩
theorem OO{P:zV}{w:je}{K:zj}{tg:Expr}{a:Addr}{o:Obj}{ep:Nat}(ho:o.data= .dict es ep)(it:Addr):f8 P w K tg (Itd a o rb) [it] it (λi h=>h.IsKeyIter it a i rb.length ep) where
 mem:=by simp
 obj:=λi h st b hb=>by
  have e:b=it:=by simpa using hb
  subst e;obtain⟨o,e,c,d⟩:=st;exact⟨o,e,λv z=>by rw[d]at z;cases z⟩
 keep:=λi h h' st k=>let ⟨o,ho,r⟩:=st;⟨o,k it (by simp) o ho,r⟩
 item:=by intro X hP hw hK hc i pins s σ H E I hf st hg;subst hP hw hK;obtain⟨hfr,kv,hx⟩:=hg;obtain⟨f0,f1,f2,f3,f4,f5⟩:=hf it (by simp);obtain⟨hS,vs,rel,dat⟩:=nO I ho hfr;obtain⟨v,hv⟩:=vM rel hx;have re:rb.length=vs.length:=xy rel;rw[re]at st;refine wpAny_pyNext_dict_item st dat hv λkey h' hk sh sb=>?_;have I1:Inv X pins σ H {s with heap:=h'}:=I.turned (λb o hb e=>(sb.2 b hb).trans e) f0 f1 f3 f4 f5;obtain⟨o',e,cc,d⟩:=id sh;refine⟨_,rfl,nC e cc d (by decide) ⟨kV kv.1,H,I1,Cv hk,⟨rfl,kv,hx,rfl⟩,by rw[re];exact sh,λb hb=>(hf b hb).1⟩⟩
 done:=by intro X hP hw hK hc i pins s σ H E I hf st hg;subst hP hw hK;obtain⟨hfr,hi⟩:=hg;obtain⟨f0,f1,f2,f3,f4,f5⟩:=hf it (by simp);obtain⟨hS,vs,rel,dat⟩:=nO I ho hfr;have re:rb.length=vs.length:=xy rel;rw[re]at st hi;exact wpAny_pyNext_dict_end (I.ok.hd hc) st dat (zZ hi) λh' eb=>⟨rfl,I.turned (λb o hb e=>eb b o hb e) f0 f1 f3 f4 f5⟩
 self:=λ_ _ _ _ _ st h=>wpAny_pyIter_keyiter st h
theorem m8.setR(h:m8 c μ G H)(g:G[i]? =some o)(n:¬E4 (some o))(m:μ[i]? =some a)(k:Ext μ H μ (upd H a u))(ho:A7 c μ (upd H a u) a o'):m8 c μ (G.set i o') (upd H a u):=by
 have hi:i<G.length:=lt_of_get g;have get:∀j,(G.set i o')[j]? =if i=j then some o' else G[j]? :=λj=>by
  rw[XJ];by_cases e:i=j
  ·subst e;simp[hi]
  ·simp[e]
 refine⟨by simp[h.len],λj l b ej el=>?_,λj o2 b gj mj=>?_⟩
 · rcases h.inj j l b ej el with e|e|e
   ·exact .inl e
   · by_cases ij:i=j
     ·subst ij;rw[g]at e;exact(n e).elim
     ·right;left;rw[get,if_neg ij];exact e
   · by_cases ij:i=l
     ·subst ij;rw[g]at e;exact(n e).elim
     ·right;right;rw[get,if_neg ij];exact e
 · rw[get]at gj;by_cases ij:i=j
   · subst ij;rw[if_pos rfl]at gj
     cases gj
     rw[m]at mj
     cases mj
     exact ho
   · rw[if_neg ij]at gj;have q:=h.obj j o2 b gj mj;by_cases hr:E4 (some o2)
     ·exact q.mono k (.inr hr)
     · have nb:b≠a:=λe=>by
        subst e;rcases h.inj i j b m mj with e|e|e
        ·exact ij e
        ·rw[g]at e;exact n e
        ·rw[gj]at e;exact hr e
       exact q.mono k (.inl (o5 nb))
section
theorem Inv.freeze(I:Inv X pins σ H s)(e:H a=some (.dK rb))(ho:s.heap.get? a=some o):Inv X pins σ (upd H a (.frz o (.dK rb))) s:=by have q:O4 X.prog X.w H s.heap a (.dK rb):=I.hok a _ e;exact I.write (by rw[e];exact trivial) (.inl rfl) (λb u _ z=>z) ⟨o,ho⟩ ⟨ho,q⟩
def iW(K:zj)(tl:TE):TI:=λσ H R=>tl σ H λx H1=>((∃z,x= .str z/\R (Its z) H1)\/(∃k a xs,x= .ref a/\Sq K k H1 a xs/\R (if k=true then Itt K a else Itl K a) H1))\/
 (∃a rb,x= .ref a/\H1 a=some (.dK rb)/\∀o,R (Itd a o rb) (upd H1 a (.frz o (.dK rb))))\/(∃a o rb,x= .ref a/\H1 a=some (.frz o (.dK rb))/\R (Itd a o rb) H1)
theorem mr(hl:PE X e tl):PI X tg e (iW X.K tl):=by
 intro pins s σ H R I h;refine thn (hl pins s σ H _ I h) λv s1 sg=>sg.elim λx H1 I1 r1 q1=>?_;have fpo:∀b∈ [s1.heap.objs.size],A1 X pins H1 b:=λb hb=>by
  have z:b=s1.heap.objs.size:=by simpa using hb
  subst z;exact I1.fpOk (zh _) (I1.hok.fresh (zh _))
 rcases q1 with(⟨z,rfl,q⟩|⟨k,a,xs,rfl,hq,q⟩)|⟨a,rb,rfl,hq,q⟩|⟨a,o,rb,rfl,hq,q⟩
 · obtain⟨t,rfl⟩:=(show ∃t,v=Value.str z t from r1);refine wpAny_pyIter_strU ?_;have I2:Inv X pins σ H1 {s1 with heap:=s1.heap.push {cls:=.type (Zz z),data:=.fields #[.str z t,.int 0 0]}}:=I1.kept λb o z=>zc _ z;have hg:(s1.heap.push {cls:=.type (Zz z),data:=.fields #[.str z t,.int 0 0]}).get? s1.heap.objs.size=some {cls:=.type (Zz z),data:=.fields #[.str z t,.int 0 0]}:=zn _ rfl;by_cases ha:z.cps.all (· < 128)=true
   · have e:Zz z= "str_ascii_iterator":=by unfold Zz;rw[if_pos ha]
     refine⟨s1.heap.objs.size, [s1.heap.objs.size],_,_,H1,rfl,I2,OZ z t _,?_,fpo,q⟩;rw[e]at hg ⊢;exact⟨_,hg,rfl,rfl⟩
   · have e:Zz z= "str_iterator":=by unfold Zz;rw[if_neg ha]
     refine⟨s1.heap.objs.size, [s1.heap.objs.size],_,_,H1,rfl,I2,Hv z t _,?_,fpo,q⟩;rw[e]at hg ⊢;exact⟨_,hg,rfl,rfl⟩
 · cases r1
   rcases k with _|_
   ·
     obtain⟨qu,rv,p,hz⟩:=I1.list hq;exact Zl p.isList ⟨s1.heap.objs.size, [s1.heap.objs.size],_,_,H1,rfl,I1.kept λb o z=>zc _ z,oz a _,⟨_,zn _ rfl,rfl,rfl⟩,fpo,q⟩
   ·
     obtain⟨qu,rv,p,hz⟩:=I1.tuple hq;exact wpAny_pyIter_tuple (show s1.heap.IsTuple a qu.toArray from p) ⟨s1.heap.objs.size, [s1.heap.objs.size],_,_,H1,rfl,I1.kept λb o z=>zc _ z,ip a _,⟨_,zn _ rfl,rfl,rfl⟩,fpo,q⟩
 · cases r1
   obtain⟨hz,hS,vs,rel,dd⟩:=AI I1.hok hq;obtain⟨ep,dat⟩:=dd.dictAt;obtain⟨o,es,h1,h2,h3,h4⟩:=id dat;have re:rb.length=vs.length:=xy rel;have I2:=DL.Inv.freeze I1 hq h1;have fpo2:∀b∈ [s1.heap.objs.size],A1 X pins (upd H1 a (.frz o (.dK rb))) b:=λb hb=>by
    have z:b=s1.heap.objs.size:=by simpa using hb
    subst z;exact I2.fpOk (zh _) (I2.hok.fresh (zh _))
   refine wpAny_pyIter_dict hS dat ⟨s1.heap.objs.size, [s1.heap.objs.size],_,_,upd H1 a (.frz o (.dK rb)),rfl,I2.kept λb o z=>zc _ z,OO h3 _,?_,fpo2,q o⟩;rw[re];exact⟨_,zn _ rfl,rfl,rfl⟩
 · cases r1
   obtain⟨hget,hz,hS,vs,rel,dd⟩:=(show O4 X.prog X.w H1 s1.heap a (.frz o (.dK rb))from I1.hok a _ hq);obtain⟨ep,dat⟩:=dd.dictAt;obtain⟨o',es,h1,h2,h3,h4⟩:=id dat;rw[hget]at h1
   cases h1
   have re:rb.length=vs.length:=xy rel;refine wpAny_pyIter_dict hS dat ⟨s1.heap.objs.size, [s1.heap.objs.size],_,_,H1,rfl,I1.kept λb o z=>zc _ z,OO h3 _,?_,fpo,q⟩;rw[re];exact⟨_,zn _ rfl,rfl,rfl⟩
def OJ:Key->D
 | .inl i=>.int i
 | .inr x=>.str x
def GE(l:List (Key×D)):List D:=l.map λkv=>OJ kv.1
def dD:D->M Src:=λx=>match x with
 | .ref r=>do
   match <-K5 r with
   | .dct l=>do
     let _ <-P5 r (.rod l)
     pure ⟨GE l,λ_=>true⟩
   | .rod l=>pure ⟨GE l,λ_=>true⟩
   |_=>fG (.ref r)
 |d=>fG d
def itW(f:Fe):DSt->M Src:=λσ=>do dD (<-f σ)
theorem gK{v:V}{R:It->Hp->Prop}(h1:m8 (wc X) X0 G1 H1)(rv:d7 (wc X) X0 H1 d v)(p1:c7 (wc X) Z X0 H1 (fG d G1) λs X2 _ H'=>∀J,ItD (wc X) X2 H' J s->R J H'):
 (∃z,v= .str z/\R (Its z) H1)\/(∃k a xs,v= .ref a/\Sq X.K k H1 a xs/\R (if k=true then Itt X.K a else Itl X.K a) H1):=by
 have main:∀dd:D,(∀z,dd≠ .str z)->d7 (wc X) X0 H1 dd v->c7 (wc X) Z X0 H1 (N4 dd G1) (λs X2 _ H'=>∀J,ItD (wc X) X2 H' J s->R J H')->(∃z,v= .str z/\R (Its z) H1)\/(∃k a xs,v= .ref a/\Sq X.K k H1 a xs/\R (if k=true then Itt X.K a else Itl X.K a) H1):=by
  intro dd _ rv p1;have p1':c7 (wc X) Z X0 H1 ((N4 dd >>= λs=>(pure s:M Src)) G1) λs X2 _ H'=>∀J,ItD (wc X) X2 H' J s->R J H':=by
   have e:(N4 dd >>= λs=>(pure s:M Src))=N4 dd:=by
    funext G;rw[M.bind_eq];rcases N4 dd G with _|q
    ·rfl
    ·obtain⟨r,G'⟩:=q;cases r<;>rfl
   rw[e];exact p1
  obtain⟨sr,k,a,vs,rfl,q,rl,is,ck,_,p2⟩:=NI h1 rv p1';refine .inr ⟨k,a,vs,rfl,q,c7.ok p2 h1 _ λX2 G' H' x' h' ck' i=>?_⟩;obtain⟨sy,q',si⟩:=is X2 G' H' x' h' ck';refine⟨λd hd=>?_,λhi=>?_⟩
  · obtain⟨y,hy,ry⟩:=si.get hd
    cases k with
    |true=>
      rw[if_pos rfl];exact⟨⟨sy,y,q',hy⟩,λx H2 ⟨e1,e2⟩=>by subst e1;exact⟨Ext.refl _ _,h',fS si hd (e2 sy q')⟩⟩
    |false=>
      rw[if_neg zz];exact⟨⟨sy,y,q',hy⟩,λx H2 ⟨e1,e2⟩=>by subst e1;exact⟨Ext.refl _ _,h',fS si hd (e2 sy q')⟩⟩
  · cases k with
    |true=>rw[if_pos rfl];exact⟨sy,q',by rw[<-si.length];exact hi⟩
    |false=>rw[if_neg zz];exact⟨sy,q',by rw[<-si.length];exact hi⟩
 cases d with
 |str z=>
   refine .inl ⟨z,Q1 rv,c7.ok p1 h1 _ λX2 G' H' x' h' ck' i=>⟨λd hd=>?_,λhi=>?_⟩⟩
   · simp only[rK,jp]at hd
     cases hc:z.cps.toList[i]? with
     |none=>rw[hc]at hd;cases hd
     |some c=>
       rw[hc]at hd
       cases hd
       have hc':z.cps[i]? =some c:=by rw[<-zK];exact hc
       exact⟨⟨c,hc'⟩,λx H2 ⟨e1,c2,e2,e3⟩=>by
        subst e1;rw[hc']at e2
        cases e2
        exact⟨Ext.refl _ _,h',by rw[e3];unfold d7;rfl⟩⟩
   ·simp only[rK,zf]at hi;show z.cps[i]? =none;rw[<-zK];exact zZ hi
 |tup l=>exact main (.tup l) (λz q=>nomatch q) rv p1
 |ref r=>exact main (.ref r) (λz q=>nomatch q) rv p1
 |_=>exact p1.elim
theorem CQ{H:Hp}:∀ {l} {rb} {i:Nat} {kd},V0 c μ H l rb->l[i]? =some kd->∃v,rb[i]? =some (kd.1,v)
 |[],_,_,_,_,e=>by simp at e
 |(k,d)::r,_,0,_,h,e=>by obtain⟨v,t,rfl,_,_⟩:=h;simp only[zG,zQ]at e;subst e;exact⟨v,rfl⟩
 |(k,d)::r,_,i+1,_,h,e=>by obtain⟨v,t,rfl,_,ht⟩:=h;simp only[zW]at e ⊢;exact CQ ht e
theorem bm(k:Key):d7 c μ H (OJ k) (kV k):=by
 cases k<;>(unfold OJ d7;rfl)
theorem MR{c:Wc}{H:Hp}(e:H a=some (.frz o (.dK rb)))(rk:V0 c μ H l rb):ItD c μ H (Itd a o rb) ⟨GE l,λ_=>true⟩:=by
 intro X2 G' H' x h' _ i;have e':=x.frz _ _ _ e;refine⟨λd hd=>?_,λhi=>⟨e',by rw[<-rk.length];simpa [GE]using hi⟩⟩;simp only[GE,jp]at hd
 cases hl:l[i]? with
 |none=>rw[hl]at hd;cases hd
 |some kd=>
   rw[hl]at hd
   cases hd
   obtain⟨v,hv⟩:=CQ rk hl;exact⟨⟨e',_,hv⟩,λy H2 ⟨e1,kv,e2,e3⟩=>by
    subst e1;rw[hv]at e2
    cases e2
    exact⟨Ext.refl _ _,h',by rw[e3];exact bm _⟩⟩
theorem pc(he:DE X Z e f):DI X Z tg e (itW f):=
 DI.of (mr he.h) λσ H R rc=>rc.elim λX9 μ G s h p=>⟨X9,μ,G,s,h,(c7.bind p).mono λd X0 G1 H1 x1 h1 p1 v rv=>by
  cases d with
  |ref r=>
    have rv':=rv;unfold d7 at rv';obtain⟨a,m,rfl⟩:=rv';obtain⟨o,g,p2⟩:=G9 p1;have ro:=h1.obj r o a g m;rcases o with l|l|l|l
    ·exact .inl (gK h1 rv p2)
    ·exact .inl (gK h1 rv p2)
    ·
      obtain⟨rb,q,rk⟩:=ro;refine .inr (.inl ⟨a,rb,rfl,q,λo=>?_⟩);have x:Ext X0 H1 X0 (upd H1 a (.frz o (.dK rb))):=Ext.mut (jK m) q (λ_ z=>nomatch z) (λ_ _ z=>nomatch z) _;have uj:=rk.mono x;have h2:m8 (wc X) X0 (G1.set r (.rod l)) (upd H1 a (.frz o (.dK rb))):=h1.setR g (λz=>z) m x ⟨rb,o,K7,uj⟩;have p3:=c7.from p2 x;exact c7.ok p3 h2 _ (MR K7 uj)
    ·
      obtain⟨rb,o,q,rk⟩:=ro;exact .inr (.inr ⟨a,o,rb,rfl,q,c7.ok p2 h1 _ (MR q rk)⟩)
  |_=>exact .inl (gK h1 rv p1)⟩
end
end DL
namespace W
open PySem PySem.Spec L2 DL
open PyProof.Rows hiding St
section
theorem wp_itW:Wp (itW f σ) G R↔Wp (f σ) G λx G1=>Wp (dD x) G1 R:=by unfold itW;simp only[d9]
theorem srcW_tup:Wp (dD (.tup l)) G R↔R ⟨l,λ_=>true⟩ G:=wp_pure
theorem gB(e:G[p]? =some (.lst l)):Wp (dD (.ref p)) G R↔R ⟨l,ckO p (.lst l)⟩ G:=by unfold dD;simp only[d9,M5,e,Q0];exact vb e
end
end W
namespace DL
open PySem PySem.Spec L2
open PyProof.Rows hiding St
section
end
section
theorem sH:∀ {l} {ss} {vs} {us},L9 l=some ss->j6 c μ H l vs->m7 vs us->StrsAre us ss
 |[],_,_,_,e,r,v=>by cases e;cases r;cases v;exact .nil
 | .str x::t,ss,_,_,e,r,v=>by
   replace e:=show (L9 t).map (_ :: ·)=some _ from e;rcases h:L9 t with _|q
   ·rw[h]at e;exact u6 e
   ·
     rw[h]at e
     cases e
     obtain⟨v0,tl,rfl,r0,rt⟩:=r
     cases v with
     |cons ru rt2=>
       rw[Q1 r0]at ru;obtain⟨tk,rfl⟩:=ru;exact .cons _ _ (sH h rt rt2)
 | .non::_,_,_,_,e,_,_=>by exact u6 e
 | .bl _::_,_,_,_,e,_,_=>by exact u6 e
 | .int _::_,_,_,_,e,_,_=>by exact u6 e
 | .tup _::_,_,_,_,e,_,_=>by exact u6 e
 | .ref _::_,_,_,_,e,_,_=>by exact u6 e
 | .fn _::_,_,_,_,e,_,_=>by exact u6 e
 | .ty _::_,_,_,_,e,_,_=>by exact u6 e
end
end DL
namespace W
open PySem PySem.Spec L2 DL
open PyProof.Rows hiding St
section
end
end W
namespace DL
open PySem
theorem UV:Ji (.type "list") "keys" =pure none:=by rw[yR,yb];kernel_rfl
section
theorem eU{h:Heap}{t:Nat}{os:OsState}{a:Addr}{o:Obj}{k:Nat}
 (hx:h.get? a=some o) (hc:o.cls= .type "list") (tw:o.data= .seq xs k) (hd:o.dict=none) (hA:A.handled=none)
 (hq:∀h' tk,(∀b ob,h.get? b=some ob->h'.get? b=some ob)->Q none ⟨h',g,d,tk,os⟩):
 zo (zA prog w) A (getAttr? (.ref a) "keys") Q E ⟨h,g,d,t,os⟩:=by
 obtain⟨c,dct,dat,sl⟩:=o;simp only at hc tw hd;subst hc tw hd;have hT:∀tk',(⟨h,g,d,tk',os⟩:zw).TypeIs (.ref a) "list":=λ_=>⟨_,hx,rfl⟩;have f1:=sub_AttributeError;have f3:=Yr.lookup;have f4:=Yr.bind (.ref a);have f5:=am_list_getattr_none;unfold getAttr? getAttrBy? getAttrBy
 repeat (any_goals (first|assumption|exact hT _|((with_reducible show zo _ _ (call (Value.builtin "list.__getattribute__") _ _) _ _ _);refine call_meets Yr (hT _) am_entry_list_getattribute (F.args_list_getattribute_2 _ _) (meets_getattribute_miss_list a xs k sl "keys" _ UV (by decide +kernel) (by decide +kernel)) ⟨hx,hA,λh' tk' e hx'=>?_⟩)|wp_step))
 obtain⟨t',u',he⟩:=hx'.there;have hTe:∀tk'',(⟨h',g,d,tk'',os⟩:zw).TypeIs (.ref e) "AttributeError":=λ_=>⟨_,he,rfl⟩;show zo _ _ (getattributeRaised _ _ _ _ _ _ _) _ _ _;unfold getattributeRaised
 repeat (any_goals (first|assumption|exact hTe _|wp_step))
 exact hq _ _ hx'.keeps
end
end DL
namespace DL
open PySem
open PyProof.Rows (IsTup)
theorem pL:Xy table "dict.update.loop" =some jQ.«dict.update.loop»:=YR (by kernel_rfl)
theorem V7:plainId "dict.update.loop" =true:=by decide +kernel
section
variable{prog:zV}{w:je}{A:jm}{R:Result->zw->Prop}{I:Addr}{fp wr:List Addr}{n:Nat}{P:Nat->zg->Prop}{St:Nat->Heap->Prop}{K:Type}[DecidableEq K]{knd:KeyKind prog w K}
theorem Mw(h:xY s.heap ta #[x,y])(q:Q [x,y] s):zo (zA prog w) A (Jc (.ref ta)) Q E s:=by obtain⟨o,ho,hc,m,hd⟩:=h;have hT:s.TypeIs (.ref ta) "tuple":=⟨_,ho,hc⟩;unfold Jc;refine za (xD hT ?_);rw[if_pos (by decide)];exact za (yp ho hd (ze q))
theorem HU(W:Walks prog w A.in1 I fp wr n P St)(S:Addr)(hSf:S∉fp)(h0:Heap)(ps:List (K×zg))(hn:ps.length=n)
 (hval:∀i v,P i v->∃ta key kv,v= .ref ta/\ps[i]? =some kv/\xY h0 ta #[key,kv.2]/\knd.is kv.1 key=true/\ta≠S/\ta∉wr) (hsz:n<=zi):
 ∀k i s m tk,n-i=k->i<=n->St i s.heap->s.heap.DictOf knd S (merged [] (ps.take i))->(∀b o,b≠S->b∉wr->h0.get? b=some o->s.heap.get? b=some o)->
  (∀h' tk',h'.DictOf knd S (merged [] ps)->(∀b o,b≠S->b∉wr->h0.get? b=some o->h'.get? b=some o)->R (.ok (.ret .none)) {s with heap:=h',toks:=tk'})->
  xZ (zA prog w) A (.builtin "dict.update.loop" ⟨[.ref S,.ref I,.int m tk,.none], []⟩) R s:=by
 have hSw:S∉wr:=λh=>hSf (W.sub _ h);intro k
 induction k with
 |zero=>
   intro i s m tk hk hi hst hS hh hR;have hin:i=n:=by lia
   subst hin;refine yt pL ?_;rw[jS V7 _];show zo _ A.in1 (xf (.ref I) >>= _) _ _ s;refine za (W.done s _ _ hst λh' tk' hm=>?_);show zo _ A.in1 (Builtin.Dict.addKeywords S [] >>= _) _ _ _;refine za (ze ?_);refine ze (hR h' tk' ?_ λb o hb ue e=>hm b o ue (hh b o hb ue e));rw[yP (by lia)]at hS;obtain⟨o,es,ep,ho,rest⟩:=hS;exact⟨o,es,ep,hm S _ hSw ho,rest⟩
 |succ k ih=>
   intro i s m tk hk hi hst hS hh hR;have sd:i<n:=by lia
   refine yt pL ?_;rw[jS V7 _];show zo _ A.in1 (xf (.ref I) >>= _) _ _ s;refine za (W.item i s _ _ sd hst λv h' tk' hP hst' hm=>?_);obtain⟨ta,key,kv,rfl,hkv,⟨ot,hot,hct,mt,hdt⟩,hkey,sf,hnw⟩:=hval i v hP;have tu:h'.DictOf knd S (merged [] (ps.take i)):=by obtain⟨o,es,ep,ho,rest⟩:=hS;exact⟨o,es,ep,hm S _ hSw ho,rest⟩
   have ht':xY h' ta #[key,kv.2]:=⟨ot,hm ta _ hnw (hh ta _ sf hnw hot),hct,mt,hdt⟩;refine za (jt ?_);refine za (wpAny_tryCatch (Mw ht' ?_));refine jt ?_;have re:(merged [] (ps.take i)).length<=zi:=by have:=merged_length_le [] (ps.take i);rw[jW,yM]at this;lia
   refine wpAny_dictSet_pairs hkey tu λh'' hd'' hsb=>?_;refine ze ⟨yJ V7 _,ih (i+1) _ _ _ (by lia) sd (W.frame _ _ _ hst' λb hb o e=>?_) ?_ (λb o hb ue e=>?_) λh3 tk3 hd3 hk3=>hR h3 tk3 hd3 hk3⟩
   ·rw[hsb.2 b (λh:b=S=>hSf (by rw[<-h];exact hb))];exact e
   ·rw[merged_take_succ [] ps i kv hkv];exact hd''
   ·rw[hsb.2 b hb];exact hm b o ue (hh b o hb ue e)
end
section
variable{prog:zV}{w:je}{A:jm}{E:VSP}{s:zw}{K:Type}[DecidableEq K]{knd:KeyKind prog w K}
theorem cx{m:Nat}(hx:s.heap.get? src=some o)(hc:o.cls= .type "list")(hd:o.data= .seq items m)(hdict:o.dict=none)(hA:A.handled=none)
 (hn:ps.length=items.size) (hsz:items.size<=zi) (hval:∀(i:Nat) (v:zg),items[i]? =some v->∃(ta:Addr) (key:zg) (kv:K×zg),v= .ref ta/\ps[i]? =some kv/\xY s.heap ta #[key,kv.2]/\knd.is kv.1 key=true)
 (h:∀h' tk,h'.DictOf knd s.heap.objs.size (merged [] ps)->(∀b o,s.heap.get? b=some o->h'.get? b=some o)->Q (.ref s.heap.objs.size) {s with heap:=h',toks:=tk}):
 zo (zA prog w) A (call (.type "dict") [.ref src]) Q E s:=by
 refine callType_codes (Q₁:=λobj W1=>obj= .ref s.heap.objs.size/\W1= {s with heap:=s.heap.push {cls:=.type "dict",data:=.dict #[]}}) F.kt_called_dict (F.kt_typeCall_dict_1 _) F.entry_dict_init (kt_code_dict_new _ ⟨rfl,rfl⟩) ?_;rintro obj W1 ⟨rfl,rfl⟩;have hnew:(s.heap.push {cls:=.type "dict",data:=.dict #[]}).DictOf knd s.heap.objs.size []:=Heap.DictOf.new s.heap;have sd:src<s.heap.objs.size:=zt hx;have hx1:(s.heap.push {cls:=.type "dict",data:=.dict #[]}).get? src=some o:=zc _ hx;have hT1:Shared.TypeIs {s with heap:=s.heap.push {cls:=.type "dict",data:=.dict #[]}} (.ref src) "list":=⟨_,hx1,hc⟩;refine⟨hnew.typeIs,F.args_dict_init_2 _ _,?_⟩;unfold jQ.«dict.__init__»;refine za ?_;unfold Builtin.Dict.selfAndRest;refine za (wpAny_notOrdered_dict hnew.typeIs ?_);show zo _ _ (pure (s.heap.objs.size, [Value.ref src])) _ _ _;refine ze ?_;show zo _ _ (XR "dict.__init__" s.heap.objs.size (.ref src) [] .none) _ _ _;unfold XR;refine za (xD hT1 ?_);rw[if_pos (by decide)];have hA2:A.in1.in1.handled=none:=by simp[hA]
 refine za (eU hx1 hc hd hdict hA2 λh2 tk2 k2=>?_);simp only[Option.isNone_none,if_true];refine za (xE ?_);have hx2:h2.get? src=some o:=k2 _ _ hx1;have ub:h2.IsList src items:=⟨o,hx2,hc,m,hd⟩;have hS2:h2.DictOf knd s.heap.objs.size []:=by obtain⟨o,es,ep,ho,rest⟩:=hnew;exact⟨o,es,ep,k2 _ _ ho,rest⟩
 have hlt2:s.heap.objs.size<h2.objs.size:=by obtain⟨o,es,ep,ho,rest⟩:=hS2;exact zt ho
 refine za (Zl ub ?_);have hA1:A.in1.in1.handled=none:=hA2;refine ze ⟨yJ V7 _,?_⟩;have hkeep:∀b ob,s.heap.get? b=some ob->h2.get? b=some ob:=λb ob e=>k2 _ _ (zc _ e);refine HU (knd:=knd) (Walks.list hA1 h2.objs.size src (zC (Zi sd hlt2)) items) s.heap.objs.size ?_ s.heap ps hn ?_ hsz items.size 0 _ _ _ (by lia) (zL _) ?_ ?_ ?_ ?_
 ·simp only[zr,zT,or_false,not_or];exact⟨zC hlt2,xj sd⟩
 · intro i v hv;obtain⟨ta,key,kv,e1,e2,e3,e4⟩:=hval i v hv;have hta:ta<s.heap.objs.size:=by obtain⟨_,e,_⟩:=e3;exact zt e
   exact⟨ta,key,kv,e1,e2,e3,e4,zC hta,by simp only[zr,zT,or_false];exact zC (Zi hta hlt2)⟩
 ·exact⟨⟨_,zn _ rfl,rfl,rfl⟩,ub.push _⟩
 ·show Heap.DictOf knd (h2.push _) _ _;exact hS2.push _
 ·intro b ob hb ue e;exact zc _ (hkeep b ob e)
 · intro h' tk' ui uj;refine⟨rfl,h h' tk' ui λb ob e=>uj b ob ?_ ?_ e⟩
   ·exact zC (zt e)
   ·simp only[zr,zT,or_false];exact zC (Zi (zt e) hlt2)
end
end DL
namespace DL
open PySem PySem.Spec L2
open PyProof.Rows hiding St
def CB:D->Option (Key×D)
 | .tup [k,v]=>match r8 k with
   |some q=>some (q,v)
   |none=>none
 |_=>none
def lA:List D->Option (List (Key×D))
 |[]=>some []
 |d::r=>match CB d,lA r with
   |some p,some ps=>some (p::ps)
   |_,_=>none
def LC(rz:List (Key×D))(l:List (Key×D)):List (Key×D):=l.foldl (λrz kv=>fB rz kv.1 kv.2) rz
def mB:List D->M D:=λds=>match ds with
 |[.ref r]=>do
   let l <-K5 r >>= listOf
   let ps <-U1 (lA l)
   J5 (.dct (LC [] ps))
 |_=>M.stuck
section
variable{X:Cx}{Z:XC}{μ:List Addr}{H:Hp}{G:DH}
theorem eX(h:CB d=some p):∃k,d= .tup [k,p.2]/\r8 k=some p.1:=by
 rcases d with _|_|_|_|l|_|_|_<;>try (cases h;done)
 rcases l with _|⟨k,_|⟨v,_|⟨_,_⟩⟩⟩<;>try (cases h;done)
 delta CB at h;dsimp only at h;rcases e:r8 k with _|q
 ·rw[e]at h;cases h
 ·rw[e]at h;cases h;exact⟨k,rfl,e⟩
theorem BN{σ:St}(I:Inv X pins σ H s):∀ {l:List D} {ps} {vs:List V} {qu},lA l=some ps->j6 (wc X) μ H l vs->m7 vs qu->
 ∃(rb:List (Key×V)) (ws:List (Key×zg)),V0 (wc X) μ H ps rb/\KV rb ws/\ws.length=qu.length/\∀(i:Nat) v,qu[i]? =some v->∃(ta:Addr) (key:zg) (kv:Key×zg),v= .ref ta/\ws[i]? =some kv/\xY s.heap ta #[key,kv.2]/\(u5 X.prog X.w).is kv.1 key=true
 |[],ps,vs,qu,e,rl,rv=>by
   cases e;cases rl;cases rv
   exact⟨[], [],rfl,.nil,rfl,λi v h=>by simp at h⟩
 |d::r,ps,vs,qu,e,rl,rv=>by
   replace e:(match CB d,lA r with|some p,some ps=>some (p::ps)|_,_=>none)=some ps:=e;rcases e1:CB d with _|p
   ·rw[e1]at e;cases e
   ·
     rcases e2:lA r with _|qs
     ·rw[e1,e2]at e;cases e
     ·
       rw[e1,e2]at e
       cases e
       obtain⟨v,t,rfl,r0,rt⟩:=rl
       cases rv with
       |cons q0 qt=>
         obtain⟨rb,ws,h1,h2,h3,h4⟩:=BN I e2 rt qt;obtain⟨k,rfl,hk⟩:=eX e1;unfold d7 at r0;obtain⟨a,us,rfl,hq,ru⟩:=r0;obtain⟨x,y,rfl,rx,ry⟩:=sF ru;obtain⟨ug,rr,ht,_⟩:=I.tuple hq;obtain⟨p1,p2⟩:=p
         cases rr with
         |cons rr0 rr1=>
           cases rr1 with
           |cons rr2 rr3=>
             cases rr3
             rename_i w0 w1;have ex:=QH hk rx;subst ex
             cases (show _=Value.ref a from q0)
             refine⟨(p1,y)::rb,(p1,w1)::ws,⟨y,rb,rfl,ry,h1⟩,.cons ⟨rfl,rr2⟩ h2,by simp[h3],λi v hv=>?_⟩
             cases i with
             |zero=>
               simp only[zG,zQ]at hv;subst hv;exact⟨a,w0,(p1,w1),rfl,rfl,ht,uC rr0⟩
             |succ i=>exact h4 i v (by simpa using hv)
theorem NQ:∀ {ps} {rb} {rz} {rf},V0 c μ H ps rb->V0 c μ H rz rf->V0 c μ H (LC rz ps) (rb.foldl (λrz kv=>v3 rz kv.1 kv.2) rf)
 |[],_,_,_,r,q=>by cases r;exact q
 |(k,d)::t,_,_,_,r,q=>by obtain⟨v,kt,rfl,rv,rt⟩:=r;have z:=NQ rt (CL (k:=k) rv q);exact z
theorem AS:∀ {rb} {ws} {rz:List (Key×V)} {rf},KV rb ws->KV rz rf->KV (rb.foldl (λrz kv=>v3 rz kv.1 kv.2) rz) (merged rf ws)
 |_,_,_,_,.nil,q=>q
 |_,_,_,_,.cons (a:=p) (b:=r) ⟨e,rv⟩ t,q=>by
   obtain⟨k,v⟩:=p;obtain⟨k',u⟩:=r
   cases (show k=k' from e)
   have z:=AS t (q.put k rv);exact z
theorem LU{σ:St}{Q:VK}{ps:List (Key×D)}{h':Heap}{tk:Nat}(I:Inv X pins σ H s)(hr:m8 (wc X) μ G H)(h1:V0 (wc X) μ H ps rb)(h2:KV rb ws)(hz:ws.length<=zi)
 (p:c7 (wc X) Z μ H (J5 (.dct (LC [] ps)) G) λd X2 _ H'=>∀v,d7 (wc X) X2 H' d v->Q v H')
 (hd:h'.DictOf (u5 X.prog X.w) s.heap.objs.size (merged [] ws)) (hk:∀b o,s.heap.get? b=some o->h'.get? b=some o):EP X pins σ Q (.ref s.heap.objs.size) {s with heap:=h',toks:=tk}:=by
 have k3:=AS h2 (.nil:KV [] []);have hl:(rb.foldl (λrz kv=>v3 rz kv.1 kv.2) []).length<=zi:=by rw[k3.length];have:=merged_length_le [] ws;rw[yM]at this;lia
 have hq:H s.heap.objs.size=none:=I.hok.fresh (zh _);refine⟨.ref s.heap.objs.size,_,I.laid hk (zh _) (wL hl (beq_eq_false_iff_ne.mpr (Ne.symm (zC I.big))) k3 hd),rfl,?_⟩;have k:Ext μ H (μ++[s.heap.objs.size]) (upd H s.heap.objs.size (.dK (rb.foldl (λrz kv=>v3 rz kv.1 kv.2) []))):=Ext.add hq _;have e0:V0 (wc X) μ H (LC [] ps) (rb.foldl (λrz kv=>v3 rz kv.1 kv.2) []):=NQ h1 rfl;refine p (μ++[s.heap.objs.size]) _ k (hr.new hq ⟨_,K7,e0.mono k⟩) _ ?_;unfold d7;exact⟨s.heap.objs.size,by rw[<-hr.len];simp,rfl⟩
theorem BX(hc:X.calm=true):O7 X Z (.type "dict") mB:=⟨by
 intro pins s σ H xs us Q I r rc;obtain⟨ds,μ,G,rl,hr,p⟩:=rc;have hh:X.A.handled=none:=I.ok.hd hc;rcases ds with _|⟨_|_|_|_|l|i|_|_,_|⟨_,_⟩⟩<;>try exact p.elim
 all_goals (delta mB at p;dsimp only at p)
 · obtain⟨v,rfl,rv⟩:=Q2 rl;obtain⟨u,rfl,ru⟩:=Z9 r;obtain⟨l,a,vs,rfl,si,q,p1⟩:=HG hr rv p
   cases ru
   obtain⟨ps,eps,p2⟩:=O5 p1;obtain⟨qu,rr,⟨o,n,g1,g2,g3,g4⟩,hz⟩:=I.list q;obtain⟨rb,ws,h1,h2,h3,h4⟩:=BN I eps si rr;have re:=rr.length;exact cx g1 g2 g4 g3 hh (by simpa using h3) (by simp only[zk];lia) (λi v hv=>h4 i v (by simpa using hv)) λh' tk hd hk=>LU I hr h1 h2 (by lia) p2 hd hk⟩
theorem Kz(h:X.calm=true):BD mB "dict" X Z:=⟨.inr ⟨_,BX h,MT⟩⟩
end
def FG:D->List D->M D:=λx xs=>match x,xs with
 | .ref r, [.int k]=>do
   let l <-lstM r
   match l[k.toNat]? with
   |some y=>
     if 0<=k/\k<2 ^ 62 then do
      let _ <-P5 r (.lst (l.eraseIdx k.toNat))
      pure y
     else M.stuck
   |none=>M.stuck
 |_,_=>M.stuck
section
theorem j6.eraseIdx(n:Nat)(h:j6 c μ H l vs):j6 c μ H (l.eraseIdx n) (vs.eraseIdx n):=by rw[XU,XU];exact(j6.take _ h).append (j6.drop _ h)
theorem oT:MtD X Z "list.pop" FG:=by
 intro pins s σ H x xs v us Q I rx rs rc;obtain⟨d,ds,μ,G,rd,rds,hr,p⟩:=rc;rcases d with _|_|_|_|_|r|_|_<;>try (exact p.elim;done)
 ·
   unfold d7 at rd;obtain⟨a,m,rfl⟩:=rd;rcases ds with _|⟨kd,t⟩
   ·exact p.elim
   ·
     rcases t with _|⟨_,_⟩
     ·
       rcases kd with _|_|k|_|_|_|_|_<;>try (exact p.elim;done)
       ·
         obtain⟨kv,rfl,rk⟩:=Q2 rds;have ek:=T7 rk;subst ek;obtain⟨l,vs,g,ea,rl,p1⟩:=qO hr m p;rcases hy:l[k.toNat]? with _|y
         ·simp only[hy]at p1;exact p1.elim
         ·
           simp only[hy]at p1;split at p1
           · rename_i hz;obtain⟨x1,h1,p2⟩:=UL hr g m (λx=>(rl.mono x).eraseIdx _) p1;obtain⟨yv,e1,ry⟩:=rl.get hy;have sd:k.toNat<vs.length:=by
              by_cases q:k.toNat<vs.length
              ·exact q
              ·rw[zZ (by lia)]at e1;exact u6 e1
             refine fq pins s σ H (.ref a) [.int k] v us Q I rx rs ⟨a,vs,k,k.toNat,yv,rfl,rfl,ea,by lia,by lia,?_,e1,c7.ok p2 h1 _ (ry.mono x1)⟩;unfold JQ;have h0:¬k<0:=by lia
             have h2:(0<=k&&k<(vs.length:Int))=true:=by simp;lia
             simp only[if_neg h0,h2,if_true]
           ·exact p1.elim
     ·cases kd<;>exact p.elim
end
end DL
namespace W
open PySem PySem.Spec L2 DL
open PyProof.Rows hiding St
theorem ww(h:G[r]? =some (.lst (y::l))):Wp (FG (.ref r) [.int 0]) G Q↔Q y (G.set r (.lst l)):=by
 have e:FG (.ref r) [.int 0]= (do
  let l <-lstM r
  match l[(0:Int).toNat]? with
  |some y=>
    if 0<=(0:Int)/\(0:Int)<2 ^ 62 then do
     let _ <-P5 r (.lst (l.eraseIdx (0:Int).toNat))
     pure y
    else M.stuck
  |none=>M.stuck):=rfl
 rw[e];unfold lstM;simp only[d9,M5,h,Q0,wp_pure];show Wp (if 0<=(0:Int)/\(0:Int)<2 ^ 62 then (do let _ <-P5 r (.lst l);pure y)else M.stuck) G Q↔_;rw[if_pos (by decide)];simp only[d9,wp_pure,BJ]
end W
namespace DL
open PySem PySem.Spec L2
open PyProof.Rows hiding St
section
end
end DL
namespace W
open PySem PySem.Spec L2 DL
open PyProof.Rows hiding St
end W
namespace DL
open PySem PySem.W
open PyProof.Rows hiding St
def tOk{α:Type}(lt:Nat->Nat->Bool)(n:Nat):KasT α->(α->Prop)->Prop
 | .ret a,Q=>Q a
 | .ask i j k,Q=>i<n/\j<n/\tOk lt n (k (lt i j)) Q
section
theorem tOk.bind:∀t,tOk lt n t (λa=>tOk lt n (f a) Q)->tOk lt n (t.bind f) Q
 | .ret _,h=>h
 | .ask i j k,h=>⟨h.1,h.2.1,tOk.bind (k (lt i j)) h.2.2⟩
theorem tOk.mono(hq:∀a,Q a->Q' a):∀t,tOk lt n t Q->tOk lt n t Q'
 | .ret a,h=>hq a h
 | .ask i j k,h=>⟨h.1,h.2.1,tOk.mono hq (k (lt i j)) h.2.2⟩
theorem tOk.wp(hc:∀i j C,i<n->j<n->C (lt i j) s->cmp i j C s):∀t,tOk lt n t Q->t.kasWp cmp (λa s'=>s'=s/\Q a) s
 | .ret a,h=>⟨rfl,h⟩
 | .ask i j k,h=>hc i j _ h.1 h.2.1 (tOk.wp hc (k (lt i j)) h.2.2)
end
structure m6(lt:Nat->Nat->Bool)(n:Nat):Prop where
 tr:∀i j k,lt i j=true->lt j k=true->lt i k=true
 tot:∀i j,i<n->j<n->i≠j->lt i j=false->lt j i=true
structure J2(p:Array Nat)(n:Nat):Prop where
 pm:p.toList.Perm (zE n)
section
theorem J2.size(h:J2 p n):p.size=n:=by have:=h.pm.length_eq;simpa using this
theorem J2.bd(h:J2 p n)(hk:k<n):p.getD k 0<n:=by
 have hs:=h.size;have e:p.getD k 0=p[k]'(by lia):=by simp[ZG,hs,hk]
 rw[e];have:p[k]'(by lia)∈p.toList:=by simp
 have:=h.pm.mem_iff.mp this;simpa using this
theorem J2.ne(h:J2 p n)(hi:i<n)(hj:j<n)(hij:i≠j):p.getD i 0≠p.getD j 0:=by
 have hs:=h.size;have nd:p.toList.Nodup:=h.pm.nodup_iff.mpr List.nodup_range;have e1:p.getD i 0=p.toList[i]'(by simp;lia):=by simp[ZG,hs,hi]
 have e2:p.getD j 0=p.toList[j]'(by simp;lia):=by simp[ZG,hs,hj]
 rw[e1,e2];intro e;exact hij ((Jf nd).mp e)
def A4(lt:Nat->Nat->Bool)(p:Array Nat)(m:Nat):Prop:=∀i j,i<j->j<m->lt (p.getD i 0) (p.getD j 0)=true
def VB(lt:Nat->Nat->Bool)(p:Array Nat)(m:Nat):Prop:=∀i j,i<j->j<m->lt (p.getD j 0) (p.getD i 0)=true
theorem Wx(O:m6 lt n)(hk:1<=k)(h:A4 lt p k)(hl:lt (p.getD (k-1) 0) (p.getD k 0)=true):A4 lt p (k+1):=by
 intro i j hij hj;by_cases hj':j<k
 ·exact h i j hij hj'
 · have ej:j=k:=by lia
   subst ej;by_cases hi:i=j-1
   ·rw[hi];exact hl
   ·exact O.tr _ _ _ (h i (j-1) (by lia) (by lia)) hl
theorem cf(O:m6 lt n)(hk:1<=k)(h:VB lt p k)(hl:lt (p.getD k 0) (p.getD (k-1) 0)=true):VB lt p (k+1):=by
 intro i j hij hj;by_cases hj':j<k
 ·exact h i j hij hj'
 · have ej:j=k:=by lia
   subst ej;by_cases hi:i=j-1
   ·rw[hi];exact hl
   ·exact O.tr _ _ _ hl (h i (j-1) (by lia) (by lia))
theorem pK(O:m6 lt n)(P:J2 p n):∀f k,1<=k->k+f<=n->A4 lt p k->tOk lt n (kas_asc p f k) (λm=>k<=m/\m<=k+f/\A4 lt p m/\(m<k+f->lt (p.getD m 0) (p.getD (m-1) 0)=true))
 |0,k,h1,h2,u=>⟨zh _,zh _,u,λz=>by lia⟩
 |f+1,k,h1,h2,u=>by
   unfold kas_asc;refine⟨P.bd (by lia),P.bd (by lia),?_⟩;rcases e:lt (p.getD k 0) (p.getD (k-1) 0)with _|_
   ·
     have hl:=O.tot _ _ (P.bd (show k<n by lia)) (P.bd (show k-1<n by lia)) (P.ne (by lia) (by lia) (by lia)) e;simp only[zy,if_false];exact(pK O P f (k+1) (by lia) (by lia) (Wx O h1 u hl)).mono λm ⟨a,b,c,d⟩=>⟨by lia,by lia,c,λz=>d (by lia)⟩
   ·exact⟨zh _,by lia,u,λ_=>e⟩
theorem QL(O:m6 lt n)(P:J2 p n):∀f k,1<=k->k+f<=n->VB lt p k->tOk lt n (kas_desc f p k 0) (λr=>r.1=p/\r.2.2=0/\k<=r.2.1/\r.2.1<=k+f/\VB lt p r.2.1)
 |0,k,h1,h2,u=>⟨rfl,rfl,zh _,zh _,u⟩
 |f+1,k,h1,h2,u=>by
   unfold kas_desc;refine⟨P.bd (by lia),P.bd (by lia),?_⟩;rcases e:lt (p.getD k 0) (p.getD (k-1) 0)with _|_
   ·
     have hl:=O.tot _ _ (P.bd (show k<n by lia)) (P.bd (show k-1<n by lia)) (P.ne (by lia) (by lia) (by lia)) e;simp only[zy,if_false];refine⟨P.bd (by lia),P.bd (by lia),?_⟩;rw[hl];exact⟨rfl,rfl,zh _,xS _ _,u⟩
   ·
     simp only[if_true,yU,if_false,gt_iff_lt];exact(QL O P f (k+1) (by lia) (by lia) (cf O h1 u e)).mono λr ⟨a,b,c,d,g⟩=>⟨a,b,by lia,by lia,g⟩
theorem V3(p:Array Nat)(k:Nat):p.getD k 0= (p[k]?).getD 0:=by by_cases h:k<p.size<;>simp[ZG,h]
theorem lB(P:J2 p n):J2 (kas_rev p i j) n:=⟨(ZE.mp (mirror_perm p i j _)).trans P.pm⟩
theorem Gx(P:J2 p n)(hm:m<=n)(d:VB lt p m):A4 lt (kas_rev p 0 m) m:=by
 intro i j hij hj;have hs:=P.size;have e:∀k,k<m->(kas_rev p 0 m).getD k 0=p.getD (m-1-k) 0:=λk hk=>by rw[V3,V3];unfold kas_rev;rw[getElem?_mirror_all (by lia),if_pos ⟨zL _,hk⟩,Nat.zero_add]
 rw[e i (by lia),e j hj];exact d (m-1-j) (m-1-i) (by lia) (by lia)
theorem QS(O:m6 lt n)(P:J2 p n)(h2:2<=n)(d:VB lt p 2):tOk lt n (kas_descPart 1 n p) (λr=>J2 r.2 n/\1<=r.1/\r.1<=n/\A4 lt r.2 r.1):=by unfold kas_descPart;refine tOk.bind _ ((QL O P (n-(1+1)) (1+1) (by lia) (by lia) d).mono λr ⟨a,b,c,e,g⟩=>?_);obtain⟨r1,r2,r3⟩:=r;dsimp only at a b c e g ⊢;subst a b;rw[if_neg (yU 0)];unfold kas_tail3;refine tOk.bind _ ((pK O (lB P) (n-r2) r2 (by lia) (by lia) (Gx P (by lia) g)).mono λm ⟨a1,a2,a3,_⟩=>?_);exact⟨lB P,by lia,by lia,a3⟩
theorem fw(O:m6 lt n)(P:J2 p n)(h2:2<=n):tOk lt n (kas_count n p) (λr=>J2 r.2 n/\1<=r.1/\r.1<=n/\A4 lt r.2 r.1):=by
 unfold kas_count;refine tOk.bind _ ((pK O P (n-1) 1 (zh _) (by lia) (λi j _ _=>by lia)).mono λm ⟨a1,a2,a3,a4⟩=>?_);by_cases hm:m=n
 ·rw[if_pos (by simpa using hm)];exact⟨P,a1,by lia,a3⟩
 · rw[if_neg (by simpa using hm)];by_cases h1:m>1
   ·rw[if_pos h1];refine⟨P.bd (by lia),P.bd (by lia),?_⟩;rw[a3 0 (m-1) (by lia) (by lia)];exact⟨P,a1,by lia,a3⟩
   · rw[if_neg h1];have em:m=1:=by lia
     subst em;refine QS O P h2 λi j hij hj=>?_;have e1:i=0:=by lia
     have e2:j=1:=by lia
     subst e1 e2;exact a4 (by lia)
theorem CI(O:m6 lt n)(P:J2 p n)(hk:k<n)(u:A4 lt p k):∀f l r,l<=r->r<=k->r-l<=f->(∀i,i<l->lt (p.getD i 0) (p.getD k 0)=true)->(∀i,r<=i->i<k->lt (p.getD k 0) (p.getD i 0)=true)->
 tOk lt n (kas_place p k f l r) (λL=>L<=k/\(∀i,i<L->lt (p.getD i 0) (p.getD k 0)=true)/\∀i,L<=i->i<k->lt (p.getD k 0) (p.getD i 0)=true)
 |0,l,r,h1,h2,h3,a,b=>⟨by lia,a,λi hi=>b i (by lia)⟩
 |f+1,l,r,h1,h2,h3,a,b=>by
   unfold kas_place;by_cases h:l>=r
   ·rw[if_pos h];exact⟨by lia,a,λi hi=>b i (by lia)⟩
   · rw[if_neg h];have hm1:l<=(l+r) / 2:=by lia
     have hm2:(l+r) / 2<r:=by lia
     refine⟨P.bd hk,P.bd (by lia),?_⟩;rcases e:lt (p.getD k 0) (p.getD ((l+r) / 2) 0)with _|_
     ·
       simp only[zy,if_false];have hl:=O.tot _ _ (P.bd hk) (P.bd (show (l+r) / 2<n by lia)) (P.ne hk (by lia) (by lia)) e;refine CI O P hk u f _ r (by lia) h2 (by lia) (λi hi=>?_) b;by_cases ei:i= (l+r) / 2
       ·rw[ei];exact hl
       ·exact O.tr _ _ _ (u i ((l+r) / 2) (by lia) (by lia)) hl
     ·
       simp only[if_true];refine CI O P hk u f l _ hm1 (by lia) (by lia) a λi hi hik=>?_;by_cases ei:i= (l+r) / 2
       ·rw[ei];exact e
       ·exact O.tr _ _ _ e (u _ i (by lia) hik)
theorem TL(O:m6 lt n):∀f k p,J2 p n->k+f=n->A4 lt p k->tOk lt n (kas_bin f p k) (λq=>J2 q n/\A4 lt q n)
 |0,k,p,P,h,u=>⟨P,by rw[<-h];exact u⟩
 |f+1,k,p,P,h,u=>by
   unfold kas_bin;refine tOk.bind _ ((CI O P (show k<n by lia) u k 0 k (zL _) (zh _) (by lia) (λi hi=>by lia) (λi h1 h2=>by lia)).mono λL ⟨hL,a,b⟩=>?_);have hs:=P.size;refine TL O f (k+1) _ ⟨(ZE.mp (bubble_perm p k (k-L))).trans P.pm⟩ (by lia) ?_;have e:∀i,(bubble p k (k-L)).getD i 0=if i=L then p.getD k 0 else if L<i/\i<=k then p.getD (i-1) 0 else p.getD i 0:=λi=>by
    rw[V3,getElem?_bubble (by lia) _ (by lia),show k-(k-L)=L by lia];split
    ·rw[<-V3]
    ·split<;>rw[<-V3]
   intro i j hij hj;rw[e i,e j];by_cases h1:i=L
   ·rw[if_pos h1,if_neg (by lia),if_pos (by lia)];exact b (j-1) (by lia) (by lia)
   · rw[if_neg h1];by_cases h2:j=L
     ·rw[if_pos h2,if_neg (by lia)];exact a i (by lia)
     · rw[if_neg h2];by_cases h3:L<i
       ·rw[if_pos (by lia),if_pos (by lia)];exact u _ _ (by lia) (by lia)
       · rw[if_neg (by lia)];by_cases h4:L<j
         · rw[if_pos (by lia)];by_cases h5:i<j-1
           ·exact u _ _ h5 (by lia)
           ·lia
         ·rw[if_neg (by lia)];exact u _ _ hij (by lia)
theorem RQ(O:m6 lt n)(h2:2<=n):tOk lt n (kas_sort n) (λq=>J2 q n/\A4 lt q n):=by
 unfold kas_sort;refine tOk.bind _ ((fw O ⟨by simp⟩ h2).mono λr ⟨a,b,c,d⟩=>?_);by_cases h:r.1<n
 ·rw[if_pos h,show max r.1 1=r.1 by lia];exact TL O _ _ _ a (by lia) d
 ·rw[if_neg h];exact⟨a,by rw[show n=r.1 by lia];exact d⟩
end
end DL
namespace DL
open PySem PySem.Spec L2
open PyProof.Rows hiding St
def Q9(F:List D->M D):List D->M (List D)
 |[]=>pure []
 |d::r=>do
   let k <-noX (F [d])
   let ks <-Q9 F r
   pure (k::ks)
def pA:D->Option (Int×Str)
 | .tup [.int a,.str x]=>some (a,x)
 |_=>none
def RV:D->Option (Int×Str)
 | .str x=>some (0,x)
 |_=>none
def S4(f:D->Option (Int×Str)):List D->Option (List (Int×Str))
 |[]=>some []
 |d::r=>match f d,S4 f r with
   |some a,some b=>some (a::b)
   |_,_=>none
def PC(l:List D):Option (List (Int×Str)):=match S4 pA l with
 |some q=>some q
 |none=>S4 RV l
def W2(p q:Int×Str):Bool:=if p.1=q.1 then decide (p.2.cps.toList<q.2.cps.toList)else decide (p.1<q.1)
def A8(p q:(Int×Str)×D):Bool:= !W2 q.1 p.1
def A5(qs:List (Int×Str))(l:List D):List D:=((qs.zip l).mergeSort A8).map (·.2)
def cB(F:List D->M D)(l:List D):M D:=do
 let ks <-Q9 F l
 let qs <-U1 (PC ks)
 if qs.Nodup then J5 (.lst (A5 qs l))else M.stuck
def IA(F:List D->M D):D->M D
 | .tup l=>if l.length<64 then cB F l else M.stuck
 | .ref r=>do
   match <-K5 r with
   | .lst l=>if l.length<64 then cB F l else M.stuck
   | .dct l=>do
     let ss <-U1 (J1 l)
     if ss.length<64 then cB F (ss.map .str)else M.stuck
   |_=>M.stuck
 |_=>M.stuck
def RD(F:List D->M D)(f:Fe):Fe:=λσ=>do
 let x <-f σ
 IA F x
theorem oE(p:Int×Str):W2 p p=false:=by unfold W2;rw[if_pos rfl,decide_eq_false];exact List.lt_irrefl _
theorem oA(h1:W2 p q=true)(h2:W2 q r=true):W2 p r=true:=by
 unfold W2 at *;by_cases e1:p.1=q.1
 · rw[if_pos e1]at h1;by_cases e2:q.1=r.1
   ·rw[if_pos e2]at h2;rw[if_pos (e1.trans e2)];simp only[decide_eq_true_eq]at *;exact List.lt_trans h1 h2
   ·rw[if_neg e2]at h2;rw[if_neg (by rw[e1];exact e2),e1];exact h2
 · rw[if_neg e1]at h1;simp only[decide_eq_true_eq]at h1;by_cases e2:q.1=r.1
   ·rw[if_pos e2]at h2;rw[if_neg (by rw[<-e2];exact e1),<-e2];exact decide_eq_true h1
   ·rw[if_neg e2]at h2;simp only[decide_eq_true_eq]at h2;rw[if_neg (by lia)];exact decide_eq_true (by lia)
theorem GB(h:p≠q)(h1:W2 p q=false):W2 q p=true:=by
 unfold W2 at *;by_cases e1:p.1=q.1
 · rw[if_pos e1]at h1;rw[if_pos e1.symm];simp only[decide_eq_false_iff_not,decide_eq_true_eq]at *;have hle:q.2.cps.toList<=p.2.cps.toList:=h1;refine jr λn=>h ?_;have hle2:p.2.cps.toList<=q.2.cps.toList:=n;have e:=List.le_antisymm hle2 hle
   cases p with|mk a x=>cases q with|mk b y=>
   dsimp only at e1 e;subst e1;congr 1
   cases x;cases y
   congr 1;exact xo.mp e
 ·rw[if_neg e1]at h1;rw[if_neg (λe=>e1 e.symm)];simp only[decide_eq_false_iff_not,decide_eq_true_eq]at *;lia
theorem vU{qs:List (Int×Str)}(nd:qs.Nodup):∀a∈qs.zip l,∀b∈qs.zip l,a.1=b.1->a=b:=by intro a ha b hb e;obtain⟨i,hi,rfl⟩:=xO.mp ha;obtain⟨j,hj,rfl⟩:=xO.mp hb;simp only[List.getElem_zip]at e ⊢;have:=(Jf nd).mp e;subst this;rfl
theorem WH(nd:qs.Nodup){z:List ((Int×Str)×D)}(hp:z.Perm (qs.zip l))(hs:z.Pairwise λa b=>A8 a b=true):z.map (·.2)=A5 qs l:=by
 unfold A5;congr 1;have h2:((qs.zip l).mergeSort A8).Pairwise λa b=>A8 a b=true:=Yn (λa b c h1 h2=>by
  unfold A8 at *;simp only[yK]at *;refine xJ.mpr λh=>?_;by_cases e:a.1=b.1
  ·rw[e]at h;rw[h]at h2;cases h2
  ·have:=oA h (GB (λz=>e z.symm) h1);rw[this]at h2;cases h2) (λa b=>by
  unfold A8;by_cases e:a.1=b.1
  ·rw[e,oE];rfl
  · cases q:W2 b.1 a.1 with
    |false=>rfl
    |true=>
      have:W2 a.1 b.1=false:=by refine xJ.mpr λh=>?_;have:=oA q h;rw[oE]at this;cases this
      rw[this];rfl) _
 refine Jo (λa b ha hb h1 h2=>?_) hs h2 (hp.trans (Zw _ _).symm);refine vU nd a (hp.mem_iff.mp ha) b ((Zw _ _).mem_iff.mp hb) (jr λn=>?_);unfold A8 at *;simp only[yK]at *;have:=GB (λz=>n z.symm) h1;rw[this]at h2;cases h2
def Cx.rm(X:Cx)(A:jm):Cx:={X with A:=A,xe:=λ_ _=>False}
section
theorem bq(I:Inv X pins σ H s)(h1:A.handled=X.A.handled)(h2:A.frames=X.A.frames/\A.guards=X.A.guards):Inv (Cx.rm X A) pins σ H s:=
 ⟨⟨I.ok.mod,I.ok.kind,I.ok.glob,I.ok.blt,I.ok.above,I.ok.inj,I.ok.has,I.ok.cab,λc=>h1.trans (I.ok.hd c),h2.1.trans I.ok.frames,I.ok.stk,I.ok.exf,I.ok.bs,I.ok.bsz,I.ok.noex,I.ok.exfs,I.ok.funs,I.ok.frf,h2.2.trans I.ok.gd⟩,I.os,I.bare,I.base,I.loc,I.cell,I.free,I.freeC,I.pin,I.hok,I.len⟩
theorem EX(I:Inv (Cx.rm X A) pins σ H s)(h1:A.handled=X.A.handled)(h2:A.frames=X.A.frames/\A.guards=X.A.guards):Inv X pins σ H s:=
 ⟨⟨I.ok.mod,I.ok.kind,I.ok.glob,I.ok.blt,I.ok.above,I.ok.inj,I.ok.has,I.ok.cab,λc=>h1.symm.trans (I.ok.hd c),h2.1.symm.trans I.ok.frames,I.ok.stk,I.ok.exf,I.ok.bs,I.ok.bsz,I.ok.noex,I.ok.exfs,I.ok.funs,I.ok.frf,h2.2.symm.trans I.ok.gd⟩,I.os,I.bare,I.base,I.loc,I.cell,I.free,I.freeC,I.pin,I.hok,I.len⟩
end
section
theorem sK(hF:F1 X.prog X.w X.K X.mg X.base CX0 k f fd ps (spD (wc X) 1 F))(hb:P3 X.K fd ps [])(hA:P0 k A)(h1:A.handled=X.A.handled)(h2:A.frames=X.A.frames/\A.guards=X.A.guards){a kS:Addr}{e1:Nat}
 (fa:∀H':Hp,H' a=none->A1 X pins H' a) (fk:∀H':Hp,H' kS=none->A1 X pins H' kS) (ne:a≠kS) {R:zw->Prop}
 (hbd:∀x s (R:zw->Prop),zo (zA X.prog X.w) A (call (.ref f) [x]) (λk s'=>∃ks e,xv ks<64/\s'.heap.get? kS=some (zO "list" (zI ks) e)/\R {s' with heap:=s'.heap.update kS (zP (·.push k))}) (λ_ _=>False) s->
   zo (zA X.prog X.w) A (body x ⟨⟩) (λr s'=>r= .yield ⟨⟩/\R s') E s):∀(r:List D) (rv:List V) ru (dn:List D) (dv:List V) (du:List zg) (e:Nat) (μ:List Addr) (G:DH) (H:Hp) (s:zw),
   j6 (wc X) μ H r rv->m7 rv ru->j6 (wc X) μ H dn dv->m7 dv du->m8 (wc X) μ G H->Inv X pins σ H s->s.heap.get? kS=some (zO "list" (zI du) e)->s.heap.get? a=some (zO "list" #[] e1)->H a=none->H kS=none->du.length+ru.length<64->
   c7 (wc X) ZF μ H (Q9 F r G) (λks X2 G' H'=>∀(s':zw) (kv:List V) (ku:List zg) (e':Nat),Ext μ H X2 H'->m8 (wc X) X2 G' H'->j6 (wc X) X2 H' (dn++ks) kv->m7 kv ku->Inv X pins σ H' s'->s'.heap.get? kS=some (zO "list" (zI ku) e')->s'.heap.get? a=some (zO "list" #[] e1)->H' a=none->H' kS=none->R s')->
   zo (zA X.prog X.w) A (forIn ru PUnit.unit body) (λ_ s'=>R s') E s
 |[],_,_,dn,dv,du,e,μ,G,H,s,r1,r2,q1,q2,hr,I,g1,g2,n1,n2,hl,p=>by
   cases r1;cases r2
   rw[YX];exact ze (c7.ok p hr s dv du e (Ext.refl _ _) hr (by rw[jH];exact q1) q2 I g1 g2 n1 n2)
 |d::r,_,_,dn,dv,du,e,μ,G,H,s,r1,r2,q1,q2,hr,I,g1,g2,n1,n2,hl,p=>by
   obtain⟨v,rv,rfl,rd,rr⟩:=r1
   cases r2 with
   |cons ru rur=>
   rename_i u ur;rw[Zs];have hfp:∀b∈ [a,kS],A1 X pins H b:=λb hb=>by
    rcases zr.mp hb with rfl|hb
    ·exact fa H n1
    ·rw[zm]at hb;subst hb;exact fk H n2
   have IX:=bq (I.pinned hfp (λb hb=>by
    rcases zr.mp hb with rfl|hb
    ·exact⟨_,g2,λv z=>by cases z⟩
    ·rw[zm]at hb;subst hb;exact⟨_,g1,λv z=>by cases z⟩)) h1 h2
   have pb:=bI (c7.bind p);have call:=ML (X:=Cx.rm X A) (Q:=λv' H'=>∃k X0 G1,Ext μ H X0 H'/\m8 (wc X) X0 G1 H'/\d7 (wc X) X0 H' k v'/\c7 (wc X) ZF X0 H' ((Q9 F r >>= λks=>pure (k::ks)) G1) _) hF hA hb .nil UN IX (show m7 [v] [u]from .cons ru .nil)
    (⟨rfl, [d],μ,G,⟨v, [],rfl,rd,rfl⟩,hr,pb.mono λk X0 G1 H1 x1 hr1 p1 v' rv'=>⟨k,X0,G1,x1,hr1,rv',p1⟩⟩)
   refine za (jE (hbd u s (λs'=>zo (zA X.prog X.w) A (forIn ur PUnit.unit body) (λ_ s'=>R s') E s') (jE call (λkv s' hk=>?_) λ_ _ z=>z)) (λq s' hq=>?_) λ_ _ z=>z)
   · obtain⟨v',H',I',rv',k0,X0,G1,x1,hr1,rk,p1⟩:=hk;have I2:=EX I' h1 h2;obtain⟨g1',n2',_⟩:=I2.pin (kS,zO "list" (zI du) e) (zN _ (zN _ (V9 (by simp) g1)));obtain⟨g2',n1',_⟩:=I2.pin (a,zO "list" #[] e1) (zN _ (zN _ (V9 (by simp) g2)));rw[zu]at hl;refine⟨du,e,by lia,g1',?_⟩;have ea:(zI du).push kv=zI (du++[kv]):=by simp
     obtain⟨c2,hc2⟩:∃c2,(s'.heap.update kS (zP (·.push kv))).get? kS=some (zO "list" (zI (du++[kv])) c2):=⟨_,by rw[<-ea];exact xl g1' (·.push kv)⟩;have I3:=UK (h':=s'.heap.update kS (zP (·.push kv))) (t':=s'.toks) I2.unpinned (λb hb=>by rw[zm]at hb;subst hb;exact fk H' n2') (λb o hb e=>by rw[zm]at hb;rw[jq _ _ _ _ hb];exact e)
     refine sK hF hb hA h1 h2 fa fk ne hbd r rv ur (dn++[k0]) (dv++[v']) (du++[kv]) c2 X0 G1 H' _ (rr.mono x1) rur (j6.append (q1.mono x1) ⟨v', [],rfl,rk,rfl⟩) (q2.append (show m7 [v'] [kv]from .cons rv' .nil)) hr1 I3 hc2 (by rw[jq _ _ _ _ ne];exact g2') n1' n2' (by rw[zd,jY];lia) ?_;refine(c7.bind p1).mono λks WX G2 H2 x2 hr2 p2 s3 kv2 ku2 e2 x2' hr2' a1 a2 a3 a4 a5 a6 a7=>?_;exact c7.ok p2 hr2 s3 kv2 ku2 e2 (x1.trans x2) hr2 (by rw[zJ]at a1;exact a1) a2 a3 a4 a5 a6 a7
   ·obtain⟨rfl,hq⟩:=hq;exact hq
end
section
theorem GS{ch:List Addr}(I:Inv X pins σ H s)(hf:∀b∈ch,A1 X pins H b)(ha:a∈ch)(k:∀b o,b∉ch->s.heap.get? b=some o->h'.get? b=some o)
 (new:O4 X.prog X.w (upd H a (.lst ws)) h' a (.lst ws)):Inv X pins σ (upd H a (.lst ws)) {s with heap:=h',toks:=t'}:=by
 have hq:H a=none:=(hf a ha).1;have nch:∀b u,H b=some u->b∉ch:=λb u e z=>by rw[(hf b z).1]at e;cases e
 refine I.step (λb hb=>⟨(hf b hb).2.2.2.1,(hf b hb).2.1,(hf b hb).2.2.2.2.1,(hf b hb).2.2.2.2.2⟩) (λb o _ _ hc e _=>k b o hc e) (λb o _ _ hc e _=>⟨o.slots,k b o hc e⟩)
  (λb o hc e n=>by rw[o5 (λz=>hc (by rw[z];exact ha))];exact n) (λb o hc e=>⟨o,k b o hc e⟩) (λb xs e=>by rw[o5 (o7 e hq)];exact e) (λb o u e=>by rw[o5 (o7 e hq)];exact e)
  (λb ps e=>⟨#[],by rw[o5 (o7 e hq),e];simp⟩) (λm hm=>?_) (λb u e=>?_) I.bare
 ·obtain⟨o,es,ep,ho,r⟩:=hm;exact⟨o,es,ep,k _ o (λz=>(hf _ z).2.1 rfl) ho,r⟩
 · by_cases hb:b=a
   · subst hb;rw[K7]at e
     cases e
     exact new
   · rw[o5 hb]at e;refine(I.hok b u e).stay (λc v hc q=>k c v ?_ q) (λc q=>by rw[o5 (o7 q hq)];exact q) λc xs q=>by rw[o5 (o7 q hq)];exact q
     rcases hc with z|z
     ·rw[z];exact nch b u e
     ·exact nch c _ z
def E5(h:Heap)(u:zg)(q:Int×Str):Prop:=∃a t t',u= .ref a/\xY h a #[.int q.1 t,.str q.2 t']
def VA(u:zg)(q:Int×Str):Prop:=∃t,q.1=0/\u= .str q.2 t
def C8(P:zg->Int×Str->Prop)(ku:List zg)(qs:List (Int×Str)):Prop:=∀(i:Nat) (q:Int×Str),qs[i]? =some q->∃u,ku[i]? =some u/\P u q
theorem mG{g:D->Option (Int×Str)}{P:zg->Int×Str->Prop}(hg:∀d q v u,g d=some q->d7 (wc X) μ H d v->t6 v u->P u q):∀ {ks qs kv ku},S4 g ks=some qs->j6 (wc X) μ H ks kv->m7 kv ku->qs.length=ku.length/\C8 P ku qs
 |[],qs,kv,ku,e,r,rv=>by
   cases e;cases r;cases rv
   exact⟨rfl,λi q z=>by simp at z⟩
 |d::r,qs,kv,ku,e,rr,rv=>by
   obtain⟨v,tl,rfl,rd,rt⟩:=rr
   cases rv with
   |cons ru rur=>
   rename_i u ur;unfold S4 at e;rcases h1:g d with _|a
   ·rw[h1]at e;cases e
   rcases h2:S4 g r with _|b
   ·rw[h1,h2]at e;cases e
   rw[h1,h2]at e
   cases e
   obtain⟨hl,hk⟩:=mG hg h2 rt rur;refine⟨by simp[hl],λi q z=>?_⟩
   cases i with
   |succ i=>simpa using hk i q (by simpa using z)
   |zero=>
     simp at z;subst z;exact⟨u,rfl,hg d a v u h1 rd ru⟩
theorem bh(I:Inv X pins σ H s){ks qs kv ku}(e:PC ks=some qs)(rr:j6 (wc X) μ H ks kv)(rv:m7 kv ku):qs.length=ku.length/\(C8 (E5 s.heap) ku qs\/C8 VA ku qs):=by
 unfold PC at e;rcases h:S4 pA ks with _|q
 · rw[h]at e;have:=mG (P:=VA) (λd q v u h1 rd ru=>by
    rcases d with _|_|_|x|_|_|_|_<;>try (cases h1;done)
    cases h1
    rw[Q1 rd]at ru;obtain⟨t,rfl⟩:=ru;exact⟨t,rfl,rfl⟩) e rr rv
   exact⟨this.1,.inr this.2⟩
 · rw[h]at e
   cases e
   have:=mG (P:=E5 s.heap) (λd q v u h1 rd ru=>by
    unfold pA at h1;split at h1
    · cases h1
      unfold d7 at rd;obtain⟨ad,vs,rfl,q,rl⟩:=rd;obtain⟨v1,t1,rfl,e1,v2,t2,rfl,e2,e3⟩:=rl
      cases e3
      rw[T7 e1,Q1 e2]at q
      cases ru
      obtain⟨qu,rvs,tp,_⟩:=I.tuple q
      cases rvs with
      |cons r1 rr1=>
        cases rr1 with
        |cons r2 rr2=>
          cases rr2
          obtain⟨t,rfl⟩:=r1;obtain⟨t',rfl⟩:=r2;exact⟨ad,t,t',rfl,tp⟩
    ·cases h1) h rr rv
   exact⟨this.1,.inl this.2⟩
end
section
theorem Qf(hx:VA u q)(hy:VA u' q')(h:C (W2 q q') s):zo (zA prog w) A (keyLt' oneType' u u') C E s:=by obtain⟨t,e,rfl⟩:=hx;obtain⟨t',e',rfl⟩:=hy;rw[keyLt'_oneType];unfold W2 at h;rw[if_pos (e.trans e'.symm)]at h;exact oneLt_str h
theorem ko(hx:E5 s.heap u q)(hy:E5 s.heap u' q')(h:C (W2 q q') s):zo (zA prog w) A (keyLt' (tuples' true) u u') C E s:=by
 obtain⟨a,t,t',rfl,o,ho,hc,n,hd⟩:=hx;obtain⟨b,v,v',rfl,o2,sj,hc2,n2,hd2⟩:=hy;refine PySem.W.kat_lt ho hd sj hd2 ?_;show PySem.W.KatLex prog w A true _ C [(.int q.1 t,.int q'.1 v),(.str q.2 t',.str q'.2 v')] 0 s;refine ZZ (Zn (YE (λe=>?_) λe=>?_))
 · have e1:q.1=q'.1:=by simpa using e
   refine Yj (ZZ (eqBool_str (YE (λe=>?_) λe=>?_)))
   · have e2:q.2=q'.2:=by simpa using e
     have eq:q=q':=Prod.ext e1 e2;refine Yj (PySem.W.kat_nil ?_);rw[eq,oE]at h;exact h
   ·refine YD (PySem.W.kat_one _ _ (PySem.P.lt_str ?_));unfold W2 at h;rw[if_pos e1]at h;exact h
 · have e1:¬q.1=q'.1:=by simpa using e
   refine YD ?_;show zo (zA prog w) A (oneLt' true _ _) C _ s;rw[<-keyLt'_oneType];refine PySem.W.kat_lt_int ?_;unfold W2 at h;rw[if_neg e1]at h;exact h
theorem sG{st:SortSt}(hout:(Yy st).map (·.2)=zI out)(hz:out.length<64)(hkz:ku.length<64)(hf:YU st=none)(ho1:s.heap.get? kS=some (zO "list" (zI ku) e))(sj:s.heap.get? a=some (zO "list" #[] e1))(ne:a≠kS)
 (h:∀(h':Heap) (e':Nat),(∀b o,b∉ [a,kS]->s.heap.get? b=some o->h'.get? b=some o)->h'.get? a=some (zO "list" (zI out) e')->P (.done (.ret .none)) {s with heap:=h'}):zo (zA prog w) A (ksk_tail a false e1 (.ref kS) st) P E s:=by
 have na:(s.heap.update kS (zP λ_=>(#[]:Array zg))).get? a=some (zO "list" #[] e1):=by rw[jq _ _ _ _ ne];exact sj
 obtain⟨c2,hc2⟩:∃c2,((s.heap.update kS (zP λ_=>(#[]:Array zg))).update a (zP λ_=>zI out)).get? a=some (zO "list" (zI out) c2):=⟨_,xl na λ_=>zI out⟩;unfold ksk_tail
 try dsimp only
 rw[hout];refine za (yi ho1 rfl ?_ (by rw[zk,jl];lia) (zL _));refine za (Xv ?_);refine za (xX na rfl ?_);refine za (yi na rfl ?_ (zL _) (zS (XT (zk ..)) (by rw[jl];lia)));rw[hf];simp only[bne_self_eq_false,zy,if_false];refine ze (h _ c2 (λb o hb eo=>?_) hc2);have ue:b≠a/\b≠kS:=by simpa using hb
 rw[jq _ _ _ _ ue.1,jq _ _ _ _ ue.2];exact eo
theorem CS{qs:List (Int×Str)}{ku:List zg}(hq:qs.length=ku.length)(h2:2<=ku.length)(hk:C8 (E5 s.heap) ku qs\/C8 VA ku qs):∃kd,(∀(Q:SortKind->zw->Prop) (E:VSP),Q kd s->zo (zA prog w) A (keyKind' ku.toArray) Q E s)/\∀(i j:Nat) q q' C,qs[i]? =some q->qs[j]? =some q'->C (W2 q q') s->xu prog w A kd ku i j C s:=by
 rcases hk with hk|hk
 · obtain⟨fs,T,hfs,hT⟩:∃fs:List zg,xT s.heap ku fs/\0<fs.length/\∀v∈fs,∃n t,v= .int n t:=by
    have gen:∀(ku:List zg) (qs:List (Int×Str)),qs.length=ku.length->C8 (E5 s.heap) ku qs->∃fs:List zg,xT s.heap ku fs/\fs.length=ku.length/\∀v∈fs,∃n t,v= .int n t:=by
     intro ku
     induction ku with
     |nil=>exact λqs _ _=>⟨[],trivial,rfl,λv hv=>by cases hv⟩
     |cons u r ih=>
       intro qs hl hk;rcases qs with _|⟨q,qr⟩
       ·simp at hl
       obtain⟨u',e1,ad,t,t',rfl,o,ho,hc,n,hd⟩:=hk 0 q rfl;simp at e1;subst e1;obtain⟨fs,f1,f2,f3⟩:=ih qr (by simpa using hl) λi q hq=>by simpa using hk (i+1) q (by simpa using hq)
       refine⟨.int q.1 t::fs,ZO ho hc hd rfl f1,by simp[f2],λv hv=>?_⟩;rcases zr.mp hv with rfl|hv
       ·exact⟨_,_,rfl⟩
       ·exact f3 v hv
    obtain⟨fs,f1,f2,f3⟩:=gen ku qs hq hk;exact⟨fs,f1,by lia,f3⟩
   refine⟨_,λQ E h=>XA (T:=.type "int") T hfs (λv hv=>?_) (by decide) h,λi j q q' C e1 e2 hC=>?_⟩
   ·obtain⟨n,t,rfl⟩:=hT v hv;exact ZN rfl
   ·obtain⟨u,u1,u2⟩:=hk i _ e1;obtain⟨v,v1,v2⟩:=hk j _ e2;unfold xu;rw[zp,zp,u1,v1];exact ko u2 v2 hC
 · have gen:∀(ku:List zg) (qs:List (Int×Str)),qs.length=ku.length->C8 VA ku qs->StrsAre ku (qs.map (·.2)):=by
    intro ku
    induction ku with
    |nil=>
      intro qs hl _;rcases qs with _|⟨q,r⟩
      ·exact .nil
      ·simp at hl
    |cons u r ih=>
      intro qs hl hk;rcases qs with _|⟨q,qr⟩
      ·simp at hl
      obtain⟨u',e1,t,_,rfl⟩:=hk 0 q rfl;simp at e1;subst e1;exact .cons q.2 t (ih qr (by simpa using hl) λi q hq=>by simpa using hk (i+1) q (by simpa using hq))
   have hS:=gen ku qs hq hk;refine⟨oneType',λQ E h=>?_,λi j q q' C e1 e2 hC=>?_⟩
   · rcases ku with _|⟨v1,_|⟨v2,vr⟩⟩
     ·simp at h2
     ·simp at h2
     ·rw[keyKind_strs hS];exact ze h
   ·obtain⟨u,u1,u2⟩:=hk i _ e1;obtain⟨v,v1,v2⟩:=hk j _ e2;unfold xu;rw[zp,zp,u1,v1];exact Qf u2 v2 hC
theorem iu{e e1:Nat}{ku vs:List zg}{qs:List (Int×Str)}(hl:ku.length=vs.length)(td:vs.length<64)(hq:qs.length=ku.length)(hk:C8 (E5 s.heap) ku qs\/C8 VA ku qs)(nd:qs.Nodup)
 (ho1:s.heap.get? kS=some (zO "list" (zI ku) e)) (sj:s.heap.get? a=some (zO "list" #[] e1)) (ne:a≠kS)
 (h:∀(h':Heap) (e':Nat) (p:List Nat),p.Perm (zE vs.length)->p.Pairwise (λi j=>W2 (qs.getD i (0, "")) (qs.getD j (0, ""))=true)->(∀b o,b∉ [a,kS]->s.heap.get? b=some o->h'.get? b=some o)->h'.get? a=some (zO "list" (zI (p.map λi=>vs.getD i Value.none)) e')->P (.done (.ret .none)) {s with heap:=h'}):
 zo (zA prog w) A (ksk_end a false vs.toArray e1 (.ref kS) (zI ku)) P E s:=by
 unfold ksk_end
 try dsimp only
 simp only[zy,if_false];by_cases h2:vs.toArray.size<2
 · rw[if_pos h2,if_pos h2];refine za (ze ?_);rw[Yp];refine za (ze ?_);dsimp only;have hv:(Yy (Jt general' ((zI ku).zip vs.toArray) #[] 7 none)).map (·.2)=zI ((zE vs.length).map λi=>vs.getD i Value.none):=by
    show ((zI ku).zip vs.toArray).map (·.2)=_;apply xo.mp;rw[Yi];apply yr
    ·simp[hl]
    ·intro i hi hj;simp at hi hj ⊢;simp[hj]
   refine sG hv (by simp;lia) (by lia) rfl ho1 sj ne λh' e' k1 k2=>h h' e' _ (List.Perm.refl _) ?_ k1 k2;have:vs.length<2:=by simpa using h2
   match hn:vs.length,this with
   |0,_=>simp
   |1,_=>simp[YH]
 · rw[if_neg h2,if_neg h2];have hn2:2<=vs.length:=by simpa using h2
   let lt:Nat->Nat->Bool:=λi j=>W2 (qs.getD i (0, "")) (qs.getD j (0, ""))
   have gq:∀i,i<vs.length->qs[i]? =some (qs.getD i (0, "")):=λi hi=>by rw[zp,zq (by lia)];rfl
   have O:m6 lt vs.length:=⟨λi j k h1 h2=>oA h1 h2,λi j hi hj hij h=>GB (λee=>hij ?_) h⟩
   case refine_1=>
    have e1:=gq i hi;have e2:=gq j hj;rw[ee]at e1;have li:i<qs.length:=by lia
    exact(List.getElem?_inj li nd).mp (e1.trans e2.symm)
   obtain⟨kd,hkd,sd⟩:=CS hq (by lia) hk;refine za (hkd _ _ ?_)
   · have run:=tOk.wp (λi j C hi hj hC=>sd i j _ _ C (gq i hi) (gq j hj) hC) _ (RQ O hn2);refine za (jE (Yk (Q:=λsh s'=>∃p:Array Nat,p.size=vs.length/\Yy sh=p.map (Ya ((zI ku).zip vs.toArray))/\YU sh=none/\s'=s/\J2 p vs.length/\A4 lt p vs.length) hl hn2 td (λp sh s' a1 a2 a3 a4=>⟨p,a1,a2,a3,a4⟩) run) ?_ λ_ _ x=>x);rintro⟨⟨⟩,sh⟩ s' ⟨p,hp,har,hf,rfl,P1,U⟩
     try dsimp only
     refine sG (ZY hl har) (by rw[zf,zF,hp];exact td) (by lia) hf ho1 sj ne λh' e' k1 k2=>h h' e' p.toList P1.pm ?_ k1 k2;rw[xa];intro i j hi hj hij;have hi':i<p.size:=by simpa using hi
     have hj':j<p.size:=by simpa using hj
     have:=U i j hij (by lia);simpa [ZG,hi',hj',lt]using this
end
section
theorem kP{p:List Nat}{l:List α}(h:p.Perm (zE n))(hn:l.length=n):(p.map λi=>l.getD i d).Perm l:=by
 have e:(zE n).map (λi=>l.getD i d)=l:=by
  apply yr
  ·simp[hn]
  ·intro i hi hj;simp[hj]
 have:=h.map λi=>l.getD i d;rw[e]at this;exact this
theorem eI{qs:List (Int×Str)}{l:List D}(h1:i<qs.length)(h2:i<l.length):(qs.zip l).getD i ((0, ""),.non)= (qs[i],l[i]):=by rw[zp,zq (by simp;lia),List.getElem_zip];rfl
theorem pi{qs:List (Int×Str)}{vs:List zg}{p:List Nat}(hl:qs.length=l.length)(rl:j6 (wc X) μ H l ws)(rv:m7 ws vs)(nd:qs.Nodup)(hp:p.Perm (zE vs.length))(hs:p.Pairwise (λi j=>W2 (qs.getD i (0, "")) (qs.getD j (0, ""))=true)):
 ∃ws',m7 ws' (p.map λi=>vs.getD i Value.none)/\j6 (wc X) μ H (A5 qs l) ws'/\ws'.length=vs.length:=by
 have hlv:l.length=vs.length:=by rw[rl.length,rv.length]
 have hz:(qs.zip l).length=vs.length:=by simp[hl,hlv]
 have e:=WH nd (kP hp hz) (by
  rw[jJ];refine hs.imp_of_mem λ{i j} hi hj h=>?_;have li:i<vs.length:=by simpa using hp.mem_iff.mp hi
  have lj:j<vs.length:=by simpa using hp.mem_iff.mp hj
  have ei:((qs.zip l).getD i ((0, ""),.non)).1=qs.getD i (0, ""):=by rw[eI (by lia) (by lia),zp,zq (by lia)];rfl
  have ej:((qs.zip l).getD j ((0, ""),.non)).1=qs.getD j (0, ""):=by rw[eI (by lia) (by lia),zp,zq (by lia)];rfl
  unfold A8;rw[ei,ej];simp only[yK];refine xJ.mpr λh2=>?_;have:=oA h h2;rw[oE]at this;cases this)
 rw[jg]at e;have main:∀p:List Nat,(∀i∈p,i<vs.length)->∃ws',m7 ws' (p.map λi=>vs.getD i Value.none)/\j6 (wc X) μ H (p.map λi=>((qs.zip l).getD i ((0, ""),.non)).2) ws'/\ws'.length=p.length:=by
  intro p
  induction p with
  |nil=>exact λ_=>⟨[],.nil,rfl,rfl⟩
  |cons i r ih=>
    intro hi;obtain⟨ws',a1,a2,a3⟩:=ih λj hj=>hi j (zl _ hj);have li:=hi i (by simp);obtain⟨v,e1,r1⟩:=rl.get (d:=l[i]'(by lia)) (zq (by lia));obtain⟨u,e2,r2⟩:=rv.get e1;refine⟨v::ws',?_,⟨v,ws',rfl,?_,a2⟩,by simp[a3]⟩
    · have:vs.getD i Value.none=u:=by rw[zp,e2];rfl
      rw[zH,this];exact .cons r2 a1
    · have:((qs.zip l).getD i ((0, ""),.non)).2=l[i]'(by lia):=by rw[eI (by lia) (by lia)]
      show d7 (wc X) μ H (((qs.zip l).getD i ((0, ""),.non)).2) v;rw[this];exact r1
 obtain⟨ws',a1,a2,a3⟩:=main p λi hi=>by simpa using hp.mem_iff.mp hi
 exact⟨ws',a1,by rw[<-e];exact a2,by rw[a3,hp.length_eq];simp⟩
theorem bR(hF:F1 X.prog X.w X.K X.mg X.base CX0 k f fd ps (spD (wc X) 1 F))(hb:P3 X.K fd ps [])(hrm:P0 (k+2) X.A)(I:Inv X pins σ H s)(hr:m8 (wc X) μ G H)(td:l.length<64)
 (hcol:∀Q',(∀h1 tk vs ws,(∀b o,s.heap.get? b=some o->h1.get? b=some o)->m7 ws vs->j6 (wc X) μ H l ws->Q' vs {s with heap:=h1,toks:=tk})->zo (zA X.prog X.w) X.A.in1 (collect u) Q' X.xe s)
 (p:c7 (wc X) Z μ H (cB F l G) (λd X2 _ H'=>∀v,d7 (wc X) X2 H' d v->Q v H')):zo (zA X.prog X.w) X.A (call (.builtin "sorted") [u] [(jh "key",.ref f)]) (EP X pins σ Q) X.xe s:=by
 refine call_function_entry_kw XD Xd Xe (ksk_s1 _ _) ?_;unfold jQ.«sorted»;refine za (ze ?_);refine za (hcol _ λh1 tk vs ws k1 rv rl=>?_);have hlv:l.length=vs.length:=by rw[rl.length,rv.length]
 refine za (xr ?_ (by rw[jl];lia));have I1:Inv X pins σ H {s with heap:=h1,toks:=tk}:=I.kept k1;have hoL:(h1.push (zO "list" vs.toArray 0)).get? h1.objs.size=some (zO "list" vs.toArray 0):=zn _ rfl;refine za (jt (wpAny_call_entry_kw Yh ⟨_,hoL,rfl⟩ ZR ?_ (ksk_l1 _ _)));show zo (zA X.prog X.w) X.A.in1.in1 (jQ.«list.sort» ⟨[.ref h1.objs.size], [(jh "key",.ref f)]⟩) _ _ _;rw[ksk_t1];unfold ksk_tree;refine za (Yc hoL rfl ?_);refine za (yi hoL rfl ?_ (by rw[zk,jl];lia) (zL _));obtain⟨e1,ho1⟩:∃e1,((h1.push (zO "list" vs.toArray 0)).update h1.objs.size (zP λ_=>(#[]:Array zg))).get? h1.objs.size=some (zO "list" #[] e1):=⟨_,xl hoL λ_=> #[]⟩;refine za (xX ho1 rfl ?_);refine za (Zm ?_ (by show vs.length<=_;rw[jl];lia));refine za (xr ?_ (zL _));refine jt ?_;have hsz:((h1.push (zO "list" vs.toArray 0)).update h1.objs.size (zP λ_=>(#[]:Array zg))).objs.size=h1.objs.size+1:=by rw[Heap.size_update,Jl]
 have hkS:(((h1.push (zO "list" vs.toArray 0)).update h1.objs.size (zP λ_=>(#[]:Array zg))).push (zO "tuple" vs.toArray 0)).objs.size=h1.objs.size+2:=by rw[Jl,hsz]
 have keep:∀b o,h1.get? b=some o->((((h1.push (zO "list" vs.toArray 0)).update h1.objs.size (zP λ_=>(#[]:Array zg))).push (zO "tuple" vs.toArray 0)).push (zO "list" #[] 0)).get? b=some o:=λb o q=>by have sd:b<h1.objs.size:=zt q;rw[xi _ _ _ (by rw[hkS];exact zC (jT (jT sd))),xi _ _ _ (by rw[hsz];exact zC (jT sd)),jq _ _ _ _ (zC sd),xi _ _ _ (zC sd)];exact q
 have I2:Inv X pins σ H {s with heap:=(((h1.push (zO "list" vs.toArray 0)).update h1.objs.size (zP λ_=>(#[]:Array zg))).push (zO "tuple" vs.toArray 0)).push (zO "list" #[] 0),toks:=tk}:=I1.kept keep;have na:H h1.objs.size=none:=I1.hok.fresh (zh _);have nk:H (h1.objs.size+2)=none:=I1.hok.fresh (xS _ _);have ga:((((h1.push (zO "list" vs.toArray 0)).update h1.objs.size (zP λ_=>(#[]:Array zg))).push (zO "tuple" vs.toArray 0)).push (zO "list" #[] 0)).get? h1.objs.size=some (zO "list" #[] e1):=zc _ (zc _ ho1);have gk:((((h1.push (zO "list" vs.toArray 0)).update h1.objs.size (zP λ_=>(#[]:Array zg))).push (zO "tuple" vs.toArray 0)).push (zO "list" #[] 0)).get? (h1.objs.size+2)=some (zO "list" (zI []) 0):=by rw[<-hkS];exact zn _ rfl
 have fa:∀H':Hp,H' h1.objs.size=none->A1 X pins H' h1.objs.size:=λH' hn=>I1.fpOk (zh _) hn;have fk:∀H':Hp,H' (h1.objs.size+2)=none->A1 X pins H' (h1.objs.size+2):=λH' hn=>I1.fpOk (xS _ _) hn;have ne:h1.objs.size≠h1.objs.size+2:=by lia
 unfold cB at p;have pk:c7 (wc X) ZF μ H (Q9 F l G) (λks X2 G' H'=>ks.length=l.length/\c7 (wc X) Z X2 H' ((U1 (PC ks) >>= λqs=>if qs.Nodup then J5 (.lst (A5 qs l))else M.stuck) G') (λd X2 _ H'=>∀v,d7 (wc X) X2 H' d v->Q v H')):=by
  have q:=c7.bind p;have hkl:∀(l:List D) (G:DH) (ks:List D) (G':DH),Q9 F l G=some (.ok ks,G')->ks.length=l.length:=by
   intro l
   induction l with
   |nil=>intro G ks G' z;cases z;rfl
   |cons d r ih=>
     intro G ks G' z;unfold Q9 at z;rw[M.bind_eq]at z
     match h:noX (F [d]) G,z with
     |some (.ok kk,G1),z=>
       dsimp only at z;rw[M.bind_eq]at z
       match h2:Q9 F r G1,z with
       |some (.ok ks,G2),z=>
         cases z
         simp[ih _ _ _ h2]
  have kne:∀(l:List D) (G:DH) (x:Str) (G':DH),Q9 F l G≠some (.error x,G'):=by
   intro l
   induction l with
   |nil=>intro G x G' z;cases z
   |cons d r ih=>
     intro G x G' z;unfold Q9 at z;rw[M.bind_eq]at z;have nx:∀x G',noX (F [d]) G≠some (.error x,G'):=λx G' z=>by
      unfold noX at z
      try dsimp only at z
      split at z<;>cases z
     match h:noX (F [d]) G,z with
     |some (.error y,G1),z=>exact nx _ _ h
     |some (.ok kk,G1),z=>
       dsimp only at z;rw[M.bind_eq]at z
       match h2:Q9 F r G1,z with
       |some (.error y,G2),z=>exact ih _ _ _ h2
       |some (.ok ks,G2),z=>cases z
  match hh:Q9 F l G,q with
  |some (.ok ks,G1),q=>exact λX2 H' x h=>⟨hkl _ _ _ _ hh,q X2 H' x h⟩
  |some (.error x,G1),q=>exact(kne _ _ _ _ hh).elim
 rw[hkS];show zo (zA X.prog X.w) X.A.in1.in1 (ksk_rest h1.objs.size (.ref f) false vs.toArray e1 (.ref (h1.objs.size+2))) _ _ _;unfold ksk_rest;refine za (xE ?_)
 first
  |rw[List.forIn_toArray]
  |(rw[<-xw];simp only[List.toList_toArray])
  |rw[<-xw]
 refine za (sK (σ:=σ) hF hb hrm.in1.in1 rfl ⟨rfl,rfl⟩ fa fk ne (λx s0 R hx=>?_) l ws vs [] [] [] 0 μ G H _ rl rv rfl .nil hr I2 gk ga na nk (by simp;lia) ?_)
 · refine za (yD (jE hx (λkv s'' hk=>?_) λ_ _ hF=>hF.elim));obtain⟨ks,e,hks,g,hR⟩:=hk
   try dsimp only
   refine za (yi g rfl ?_ (by rw[zk,jl];lia) (zS (XT (Array.size_push ..)) (by rw[zk,jl];lia)));exact ze ⟨rfl,hR⟩
 · refine pk.mono λks X2 G' H' x1 hr1 ⟨hks,p1⟩ s' kv ku e' _ _ q1 q2 I' g1 g2 n1 n2=>?_;rw[Jw]at q1;obtain⟨qs,eq,p2⟩:=O5 p1;split at p2
   case isFalse=>exact p2.elim
   rename_i nd;obtain⟨tz,hk1⟩:=bh I' eq q1 q2
   try dsimp only
   refine za (Yc g1 rfl ?_);have hkv:ku.length=vs.length:=by rw[<-q2.length,<-q1.length,hks,hlv]
   refine iu hkv (by lia) tz hk1 nd g1 g2 ne λh' e2 pp hp hs keep2 gg=>?_;have si:j6 (wc X) X2 H' l ws:=rl.mono x1;obtain⟨ws',a1,a2,a3⟩:=pi (by rw[tz,hkv,hlv]) si rv nd hp hs;refine⟨_,rfl,ze ⟨_,rfl,.ref h1.objs.size,upd H' h1.objs.size (.lst ws'),GS I' (λb hb=>?_) (by simp) keep2 ⟨by rw[a3,jl];lia,_,e2,a1,gg⟩,rfl,O6 hr1 a2 p2 _ n1⟩⟩;rcases zr.mp hb with rfl|hb
   ·exact fa _ n1
   ·rw[zm]at hb;subst hb;exact fk _ n2
theorem Db(hc:X.calm=true)(hF:F1 X.prog X.w X.K X.mg X.base CX0 k f fd ps (spD (wc X) 1 F))(hb:P3 X.K fd ps [])(hrm:P0 (k+2) X.A)(I:Inv X pins σ H s)(hr:m8 (wc X) μ G H)(rd:d7 (wc X) μ H d v)(ru:t6 v u)
 (p:c7 (wc X) Z μ H (IA F d G) (λd X2 _ H'=>∀v,d7 (wc X) X2 H' d v->Q v H')):zo (zA X.prog X.w) X.A (call (.builtin "sorted") [u] [(jh "key",.ref f)]) (EP X pins σ Q) X.xe s:=by
 have seq:∀ {a:Addr} {T:String} {o:Obj} {qu:List zg} {vs:List V} {n:Nat} {l:List D},(T= "list"\/T= "tuple")->s.heap.get? a=some o->o.cls= .type T->o.data= .seq qu.toArray n->m7 vs qu->j6 (wc X) μ H l vs->vs.length<=zi->
  c7 (wc X) Z μ H ((if l.length<64 then cB F l else M.stuck:M D) G) (λd X2 _ H'=>∀v,d7 (wc X) X2 H' d v->Q v H')->zo (zA X.prog X.w) X.A (call (.builtin "sorted") [.ref a] [(jh "key",.ref f)]) (EP X pins σ Q) X.xe s:=by
  intro a T o qu vs n l hT h1 h2 h3 rv rl hz p;split at p
  case isFalse=>exact p.elim
  rename_i td;refine bR hF hb hrm I hr td (λQ' hQ=>Yt a hT h1 h2 h3 (λh' kk=>?_) (by rw[zk,<-rv.length];exact hz)) p;exact hQ h' s.toks qu vs kk rv rl
 unfold IA at p;split at p
 · rename_i l;unfold d7 at rd;obtain⟨a,vs,rfl,q,rl⟩:=rd
   cases ru
   obtain⟨qu,rv,⟨o,h1,h2,n,h3⟩,hz⟩:=I.tuple q;exact seq (.inr rfl) h1 h2 h3 rv rl hz p
 · rename_i i;unfold d7 at rd;obtain⟨a,m,rfl⟩:=rd
   cases ru
   obtain⟨o,g,p1⟩:=G9 p;have ro:=hr.obj i o a g m;rcases o with l|l|l|l
   ·
     obtain⟨vs,q,rl⟩:=ro;obtain⟨qu,rv,pl,hz⟩:=I.list (SqL.of q);obtain⟨o,h1,h2,n,h3⟩:=pl.isList;exact seq (.inl rfl) h1 h2 h3 rv rl hz p1
   ·exact p1.elim
   ·
     obtain⟨rb,q,rk⟩:=ro;obtain⟨ss,es,p2⟩:=O5 p1;split at p2
     case isFalse=>exact p2.elim
     rename_i td;obtain⟨z,hd,vs,rel,dd⟩:=AI I.hok q;obtain⟨ep,hat⟩:=dd.dictAt;have hn:vs.length=ss.length:=by rw[GP es,<-rel.length,<-rk.length]
     refine bR hF hb hrm I hr (by simpa using td) (λQ' hQ=>PySem.W.kdu_collect (PySem.W.kdl_dict hd) (I.ok.hd hc) hat (by rw[jl];omega) λh1 tk rz hk sv=>?_) p2;have hS:StrsAre rz.toList ss:=rR es rk rel (by rw[zF];exact sv.1) λj v e=>sv.2 j v (by rw[<-zK];exact e);obtain⟨ws,ew,rv,rl2⟩:=QM (μ:=μ) hS;exact hQ h1 tk rz.toList ws hk rv rl2
   ·exact p1.elim
 ·exact p.elim
end
section
theorem Dh(hc:X.calm=true)(hF:∃k kk,sA F 1 x X.prog X.w X.K X.mg X.base k/\P0 kk X.A/\k+2<=kk)(uk:BLs X.mg)(hgs:Gl X "sorted")(hg:Gl X x)(he:DE X Z e fe)(hs:O1 e=true)(hdb:(x==("__debug__" :Str))=false):
 DE X Z (.Call (.Name "sorted" p) [e] [⟨some "key",.Name x pf,kp⟩] pos) (RD F fe):=⟨by
 intro pins s σ H Q I h;obtain⟨k,kk,hF,hrm,hk⟩:=hF;obtain⟨f,fd,ps,f1,f2,f3,f4⟩:=hF.ex;have hbs:jb ("sorted" :Str)=some (.builtin "sorted"):=vE;refine xc (D6 I hgs (uk.h _ (by decide +kernel)) hbs ?_ (by decide) (by decide));obtain⟨X9,μ,G,sr,hr,pp⟩:=h;unfold RD at pp;have pa:=c7.bind pp;have hst:zX [e] X.env= (false,eval e X.env)::zX [] X.env:=T8 hs;refine callWith_builtin_kwB (by rw[eD];exact IB (by rw[jX,hs];rfl)) rfl (evalArgs_kw2 rfl ?_ hst);have ha:DA X Z [e] (x0 fe o0):=mJ he KJ hst;refine thn (ha.h pos pins s σ H (λvs H1=>∃v d X0 G1,vs= [v]/\d7 (wc X) X0 H1 d v/\m8 (wc X) X0 G1 H1/\c7 (wc X) Z X0 H1 (IA F d G1) (λd X2 _ H'=>∀v,d7 (wc X) X2 H' d v->Q v H')) I ?_) λus s1 ⟨vs,H1,I1,r1,v,d,X0,G1,e1,rd,hr1,p1⟩=>?_
 · refine⟨X9,μ,G,sr,hr,?_⟩;show c7 (wc X) Z μ H ((fe X9 >>= λy=>(pure [y]:M (List D))) G) _
   match hm:fe X9 G,pa with
   |some (.ok y,G1),pa=>
     rw[M.bind_ok hm];intro X2 H' x1 h1 vs rv;obtain⟨v,ev,rv2⟩:=Q2 rv;subst ev;exact⟨v,y,X2,G1,rfl,rv2,h1,pa X2 H' x1 h1⟩
   |some (.error y,G1),pa=>
     rw[M.bind_eq,hm];exact pa
 ·subst e1;obtain⟨u,rfl,ru⟩:=Z9 r1;show zo _ _ (evalAll [(do let v <-eval (.Name x pf) X.env;standAt pos;pure v)]) _ _ s1;refine wpAny_evalAll_cons (za (pE I1 hg f2 (za (YB (ze (wpAny_evalAll_nil ?_)))) hdb));exact Db hc f1 f4 (hrm.mono hk) I1 hr1 rd ru p1⟩
end
def CR(K:zj)(mg:Str->Option zg)(d:D)(u:zg):Prop:=∃v,t6 v u/\∀ μ H,d7 ⟨K,mg⟩ μ H d v
def CRL(K:zj)(mg:Str->Option zg)(l:List D)(us:List zg):Prop:=∃vs,m7 vs us/\∀ μ H,j6 ⟨K,mg⟩ μ H l vs
section
variable{K:zj}{mg:Str->Option zg}
theorem cr_str:CR K mg (.str x) (.str x t):=⟨.str x,⟨t,rfl⟩,λμ H=>by unfold d7;rfl⟩
theorem cr_int:CR K mg (.int i) (.int i t):=⟨.int i,⟨t,rfl⟩,λμ H=>by unfold d7;rfl⟩
theorem cr_bl:CR K mg (.bl b) (.bool b):=⟨.bl b,rfl,λμ H=>by unfold d7;rfl⟩
theorem cr_non:CR K mg .non .none:=⟨.non,rfl,λμ H=>by unfold d7;rfl⟩
theorem crl_nil:CRL K mg [] []:=⟨[],.nil,λ_ _=>rfl⟩
theorem crl_cons(h:CR K mg d u)(t:CRL K mg l us):CRL K mg (d::l) (u::us):=by obtain⟨v,r,h⟩:=h;obtain⟨vs,rs,t⟩:=t;exact⟨v::vs,.cons r rs,λμ H=>⟨v,vs,rfl,h μ H,t μ H⟩⟩
theorem cr_tup(hl:K.lookup a=some ⟨.type "tuple",none,.seq us.toArray n,sl⟩)(hz:Nat.ble us.length 100=true)(h:CRL K mg l us):CR K mg (.tup l) (.ref a):=by obtain⟨vs,rs,t⟩:=h;refine⟨.ref a,rfl,λμ H=>?_⟩;unfold d7;refine⟨a,vs,rfl,.inr ⟨_,us.toArray,n,hl,rfl,rfl,?_,rs⟩,t μ H⟩;rw[zk];exact zS (Nat.le_of_ble_eq_true hz) (by decide)
end
structure kB(K:zj)(mg:Str->Option zg)(x:Str)(d:D):Prop where
 ex:∃u,mg x=some u/\CR K mg d u
section
theorem Dj(hc:kB X.K X.mg x d)(hg:Gl X x)(hdb:(x==("__debug__" :Str))=false):DE X Z (.Name x pos) (cE d):=⟨by
 intro pins s σ H Q I rc;refine rc.elim λX9 μ G sr hr p=>?_;obtain⟨u,hm,v,ru,rv⟩:=hc.ex;exact pE I hg hm ⟨v,H,I,ru,c7.ok p hr v (rv μ H)⟩ hdb⟩
end
def isStrM:D->M Unit:=λx=>match x with
 | .str _=>pure ()
 |_=>M.stuck
section
variable{X:Cx}{Z:XC}{o e:Expr}{es:List Expr}{fo:Fe}{fs:DSt->M (List D)}{name:Str}{id:String}{mm:D->List D->M D}{tj se:Pos}
theorem nT{H:Hp}{G:DH}{d:D}{v:V}{f:Unit->M α}{K:α->List Addr->DH->Hp->Prop}(r:d7 c μ H d v)(p:c7 c Z μ H ((isStrM d >>= f) G) K):tyV c.K "str" v H/\c7 c Z μ H (f () G) K:=by
 rcases d with _|_|_|x|_|_|_|_<;>try (exact p.elim;done)
 ·rw[Q1 r];exact⟨rfl,p⟩
theorem AO(slot:Slot "str" name id)(hty:typeOf (.builtin id)=pure (.type "method_descriptor"))(hm:MtD X Z id mm)(ho:DE X Z o fo)(ha:DA X Z (e::es) fs)
 (hbase:YC o name X.env (eval o X.env)=eval o X.env)
 (hfew:((xF se (zX (e::es) X.env)).all (λx=> !x.1)&&(JC se (Yv [] X.env)).all (λx=>x.1.isSome)
   && decide ((e::es).length+([]:List Keyword).length+(if ([]:List Keyword).isEmpty then 0 else 1)<30))=true)
 (hline:(tj.endLine==se.line)=true) (hs:zX (e::es) X.env= (false,eval e X.env)::zX es X.env) (ua:(xF se (zX es X.env)).any (·.1)=false):
 DE X Z (.Call (.Attribute o name tj) (e::es) [] se) (mtE isStrM mm fo fs):=
 DE.of (vN PySem.F.plainAttrs_str slot hty hm ho.h ha.h hbase hfew hline hs ua) λσ H Q rc=>rc.elim λX9 μ G s h p=>⟨X9,μ,G,s,h,(c7.bind p).mono λd X0 G1 H1 x1 h1 p1 v rv=>by obtain⟨ty,p2⟩:=nT rv p1;exact⟨ty,X9,X0,G1,s.mono x1,h1,(c7.bind p2).mono λds WX G2 H2 x2 h2 p3 vs rvs=>⟨d,ds,WX,G2,rv.mono x2,rvs,h2,p3⟩⟩⟩
end
def DC(sep:Str)(l:List D):M D:=do
 let ss <-U1 (L9 l)
 if (ss.map (·.length)).sum+ss.length*sep.length<=16777216 then pure (.str (XQ sep ss))else M.stuck
def w9:D->List D->M D:=λx ds=>match x,ds with
 | .str sep, [.tup l]=>DC sep l
 | .str sep, [.ref r]=>do
   match <-K5 r with
   | .lst l=>DC sep l
   |_=>M.stuck
 |_,_=>M.stuck
section
theorem kZ:MtD X Z "str.join" w9:=by
 intro pins s σ H x xs v us Q I rx rvs rc;obtain⟨d,ds,μ,G,rd,rl,hr,p⟩:=rc;unfold w9 at p;split at p
 · rename_i sep l;rw[Q1 rd]at rx;obtain⟨t,rfl⟩:=rx;obtain⟨v1,rfl,rv1⟩:=Q2 rl;obtain⟨u,rfl,ru⟩:=Z9 rvs;unfold d7 at rv1;obtain⟨a,vs,rfl,q,si⟩:=rv1
   cases ru
   obtain⟨qu,rv,tp,hz⟩:=I.tuple q;unfold DC at p;obtain⟨ss,es,p2⟩:=O5 p;split at p2
   case isFalse=>exact p2.elim
   rename_i hok;exact join_tuple tp (sH es si rv) hok λt' k=>⟨.str (XQ sep ss),H,I.tok k,⟨t',rfl⟩,c7.ok p2 hr _ (by unfold d7;rfl)⟩
 · rename_i sep r;rw[Q1 rd]at rx;obtain⟨t,rfl⟩:=rx;obtain⟨v1,rfl,rv1⟩:=Q2 rl;obtain⟨u,rfl,ru⟩:=Z9 rvs;unfold d7 at rv1;obtain⟨a,m,rfl⟩:=rv1
   cases ru
   obtain⟨o,g,p1⟩:=G9 p;have ro:=hr.obj r o a g m;rcases o with l|l|l|l
   ·
     obtain⟨vs,q,si⟩:=ro;obtain⟨qu,rv,pl,hz⟩:=I.list (SqL.of q);unfold DC at p1;obtain⟨ss,es,p2⟩:=O5 p1;split at p2
     case isFalse=>exact p2.elim
     rename_i hok;exact join_list pl.isList (sH es si rv) hok λt' k=>⟨.str (XQ sep ss),H,I.tok k,⟨t',rfl⟩,c7.ok p2 hr _ (by unfold d7;rfl)⟩
   ·exact p1.elim
   ·exact p1.elim
   ·exact p1.elim
 ·exact p.elim
end
end DL
namespace W
open PySem PySem.Spec L2 DL
open PyProof.Rows hiding St
section
theorem uD:Wp (isStrM (.str z)) G R↔R () G:=wp_pure
theorem kn(e:G[r]? =some (.lst l))(hs:L9 l=some ss)(hok:(ss.map (·.length)).sum+ss.length*sep.length<=16777216):Wp (w9 (.str sep) [.ref r]) G Q↔Q (.str (XQ sep ss)) G:=by
 have h:w9 (.str sep) [.ref r]= (do
  match <-K5 r with
  | .lst l=>DC sep l
  |_=>M.stuck):=rfl
 rw[h];simp only[d9,M5,e,Q0,DC,n9,hs,if_pos hok,wp_pure]
end
end W
namespace DL
open PySem PySem.Spec L2
open PyProof.Rows hiding St
def i8(n:Nat)(lo hi st:Option Int):List Nat:=sliceRange (yZ lo hi st n).1 (yZ lo hi st n).2.1 (yZ lo hi st n).2.2
def bA(l:List D)(lo hi st:Option Int):List D:=(i8 l.length lo hi st).filterMap (l[·]?)
def qA:D->Option Int->Option Int->Option Int->M D:=λx lo hi st=>match x with
 | .ref r=>do
   let l <-K5 r >>= listOf
   if st=some 0 then M.stuck else J5 (.lst (bA l lo hi st))
 |_=>M.stuck
def LA(f:Fe)(lo hi st:Fo):Fe:=λσ=>do
 let x <-f σ
 let l <-lo σ
 let h <-hi σ
 let s <-st σ
 qA x l h s
section
variable{X:Cx}{Z:XC}{μ:List Addr}{H:Hp}
theorem j6.pick(h:j6 c μ H l vs):∀is:List Nat,j6 c μ H (is.filterMap (l[·]?)) (is.filterMap (vs[·]?))
 |[]=>rfl
 |i::r=>by
   have ih:=j6.pick h r;rw[jF,jF];by_cases hi:i<l.length
   ·have e:l[i]? =some l[i]:=zq hi;obtain⟨v,e2,r2⟩:=h.get e;rw[e,e2];exact⟨v,_,rfl,r2,ih⟩
   · have hi2:vs.length<=i:=by rw[<-h.length];lia
     rw[zZ (by lia),zZ hi2];exact ih
theorem cI(h:m7 vs us):∀is:List Nat,m7 (is.filterMap (vs[·]?)) (is.filterMap (us[·]?))
 |[]=>.nil
 |i::r=>by
   have ih:=cI h r;rw[jF,jF];by_cases hi:i<vs.length
   ·have e:vs[i]? =some vs[i]:=zq hi;obtain⟨v,e2,r2⟩:=h.get e;rw[e,e2];exact .cons r2 ih
   · have hi2:us.length<=i:=by rw[<-h.length];lia
     rw[zZ (by lia),zZ hi2];exact ih
variable{e t:Expr}{lo hi:Option Expr}{fa:Fe}{fl fh ft:Fo}{p2 pos:Pos}
theorem eZ(he:DE X Z e fa)(hl:DOp X Z lo fl)(hu:DOp X Z hi fh)(ht:DOp X Z (some t) ft):DE X Z (.Subscript e (.Slice lo hi (some t) p2) pos) (LA fa fl fh ft):=⟨by
 intro pins s σ H Q I rc;refine rc.elim λX9 μ G sr h p=>?_;have p0:=c7.bind p;refine Subscript_ (thn (he.h pins s σ H (λv H1=>∃d X0 G1,d7 (wc X) X0 H1 d v/\m8 (wc X) X0 G1 H1/\u9 (wc X) X0 H1 X9 σ/\c7 (wc X) Z X0 H1 ((fl X9 >>= λl=>fh X9 >>= λh=>ft X9 >>= λs=>qA d l h s) G1) (λd X2 _ H'=>∀v,d7 (wc X) X2 H' d v->Q v H')) I ⟨X9,μ,G,sr,h,p0.mono λd X0 G1 H1 x1 h1 p1 v rv=>⟨d,X0,G1,rv,h1,sr.mono x1,p1⟩⟩) λv s1 ⟨x,H1,I1,r1,d,X0,G1,rd,h1,sr1,p1⟩=>?_);refine wpAny_Slice ?_;refine thn (hl.h pins s1 σ H1 (λl H2=>∃ WX G2,d7 (wc X) WX H2 d x/\m8 (wc X) WX G2 H2/\u9 (wc X) WX H2 X9 σ/\c7 (wc X) Z WX H2 ((fh X9 >>= λh=>ft X9 >>= λs=>qA d l h s) G2) (λd X2 _ H'=>∀v,d7 (wc X) X2 H' d v->Q v H')) I1 ⟨X9,X0,G1,sr1,h1,(c7.bind p1).mono λl WX G2 H2 x2 h2 p2=>⟨WX,G2,rd.mono x2,h2,sr1.mono x2,p2⟩⟩) λvl s2 ⟨l,H2,I2,pl,WX,G2,rd2,h2,sr2,p2⟩=>?_;refine thn (hu.h pins s2 σ H2 (λu H3=>∃ WN G3,d7 (wc X) WN H3 d x/\m8 (wc X) WN G3 H3/\u9 (wc X) WN H3 X9 σ/\c7 (wc X) Z WN H3 ((ft X9 >>= λs=>qA d l u s) G3) (λd X2 _ H'=>∀v,d7 (wc X) X2 H' d v->Q v H')) I2 ⟨X9,WX,G2,sr2,h2,(c7.bind p2).mono λu WN G3 H3 x3 h3 p3=>⟨WN,G3,rd2.mono x3,h3,sr2.mono x3,p3⟩⟩) λvu s3 ⟨u,H3,I3,pu,WN,G3,rd3,h3,sr3,p3⟩=>?_;refine thn (ht.h pins s3 σ H3 (λk H4=>∃ WI G4,d7 (wc X) WI H4 d x/\m8 (wc X) WI G4 H4/\c7 (wc X) Z WI H4 (qA d l u k G4) (λd X2 _ H'=>∀v,d7 (wc X) X2 H' d v->Q v H')) I3 ⟨X9,WN,G3,sr3,h3,(c7.bind p3).mono λk WI G4 H4 x4 h4 p4=>⟨WI,G4,rd3.mono x4,h4,p4⟩⟩) λvk s4 ⟨k,H4,I4,pk,WI,G4,rd4,h4,p4⟩=>?_;have I5:Inv X pins σ H4 {s4 with heap:=s4.heap.push {cls:=.type "slice",data:=.fields #[vl,vu,vk]}}:=I4.kept λb ob q=>zc _ q;have hsl:Heap.IsSliceOf (s4.heap.push {cls:=.type "slice",data:=.fields #[vl,vu,vk]}) s4.heap.objs.size vl vu vk:=Js ..
 cases d with
 |ref r=>
   obtain⟨ls,a,vs,rfl,rl,p5,hq⟩:=SE h4 rd4 p4
   cases r1
   split at p5
   case isTrue=>exact p5.elim
   rename_i hk0;have hs:SqL X.K H4 a vs:=by
    rcases hq with⟨z,_⟩|⟨_,_,_,⟨_,q⟩|⟨_,q⟩⟩
    ·cases z
    ·exact SqL.of q
    ·exact q.sq
   obtain⟨qu,rr,ht,hz⟩:=I5.list hs;refine tail_any ht.isList.typeIs Jy.lookup (wpAny_getItem_list_slice ht.isList hsl pl pu pk hk0 ?_ (by rw[zk,<-rr.length];exact hz)) (by with_unfolding_all rfl);have hf:=I5.hok.fresh (zh _);have en:qu.toArray.size=vs.length:=by rw[zk,rr.length]
   have ep:slicePick qu.toArray l u k=zI ((i8 ls.length l u k).filterMap (qu[·]?)):=by unfold slicePick i8;rw[rl.length,en];congr 1;congr 1;funext i;simp
   have re:((i8 ls.length l u k).filterMap (vs[·]?)).length<=zi:=by have h1:=slicePick_size_le qu.toArray l u k;rw[ep,zk,zk]at h1;have h2:=(cI rr (i8 ls.length l u k)).length;have h3:=rr.length;lia
   rw[ep];refine⟨.ref _,upd H4 _ (.lst ((i8 ls.length l u k).filterMap (vs[·]?))),I5.laid (λb u e=>zc _ e) (zh _) ?_,rfl,O6 h4 (rl.pick _) p5 _ hf⟩;exact⟨re,_,0,cI rr _,zn _ rfl⟩
 |_=>exact p4.elim⟩
end
end DL
namespace W
open PySem PySem.Spec L2 DL
open PyProof.Rows hiding St
section
theorem fR{lo hi st:Fo}:Wp (LA f lo hi st σ) G Q↔Wp (f σ) G λx G1=>Wp (lo σ) G1 λl G2=>Wp (hi σ) G2 λh G3=>Wp (st σ) G3 λk G4=>Wp (qA x l h k) G4 Q:=by unfold LA;simp only[d9]
theorem uQ{lo hi st:Option Int}(e:G[p]? =some (.lst l))(h:st≠some 0):Wp (qA (.ref p) lo hi st) G Q↔Q (.ref G.length) (G++[.lst (bA l lo hi st)]):=by
 have h0:qA (.ref p) lo hi st= (do
  let l <-K5 p >>= DL.listOf
  if st=some 0 then M.stuck else J5 (.lst (bA l lo hi st))):=rfl
 rw[h0];simp only[d9,M5,e,Q0,DL.listOf,wp_pure,if_neg h,M4]
end
end W
namespace DL
open PySem PySem.Spec L2
open PyProof.Rows hiding St
section
theorem IU(σ:St)(H:Hp)(Q:VK)(h:D5 (wc X) Z (wE o o' fa fb fc) σ H Q):LN (eA (wc X) Z o) (eA (wc X) Z o') (D5 (wc X) Z fa) (D5 (wc X) Z fb) (D5 (wc X) Z fc) σ H Q:=by
 obtain⟨X9,μ,G,s,h,p⟩:=h;exact⟨X9,μ,G,s,h,(c7.bind p).mono λx X0 G1 H1 x1 h1 p1 v rv=>
  ⟨X9,X0,G1,s.mono x1,h1,(c7.bind p1).mono λy WX G2 H2 x2 h2 p2 u ru=>⟨x,y,WX,G2,rv.mono x2,ru,h2,(c7.bind p2).mono λz WN G3 H3 x3 h3 p3 w rw'=>by
   obtain⟨k,rfl,p4⟩:=dQ p3;refine⟨k,F6 rw',?_⟩
   cases k with
   |true=>exact⟨X9,WN,G3,s.mono (x1.trans (x2.trans x3)),h3,(c7.bind p4).mono λt WI G4 H4 x4 h4 p5 q rq=>⟨y,t,WI,G4,ru.mono (x3.trans x4),rq,h4,p5⟩⟩
   |false=>exact c7.ok p4 h3 _ ofB⟩⟩⟩
theorem bU(ho:OpD X Z (ja op) o)(ho':OpD X Z (ja op') o')(ha:DE X Z a fa)(hb:DE X Z b fb)(hc:DE X Z c fc)
 (hm:lastMarks [op,op'] [b,c]=false):DT X Z (.Compare a [op,op'] [b,c] pos) (B6 (wE o o' fa fb fc)):=
 DT.of (cg ho.h ho'.h ha.h hb.h hc.h hm) λσ H Q rc=>rc.elim λX9 μ G s h p=>IU σ H _ ⟨X9,μ,G,s,h,(c7.bind p).mono λx X0 G1 H1 x' h1 p1 v rv=>by
  cases x with
  |bl k'=>unfold d7 at rv;exact⟨k',rv,c7.ok p1 h1⟩
  |_=>exact p1.elim⟩
end
section
end
end DL
namespace W
open PySem PySem.Spec L2 DL
open PyProof.Rows hiding St
end W
namespace DL
open PySem PySem.Spec L2
open PyProof.Rows hiding St
section
variable{X:Cx}{Z:XC}{o e:Expr}{es:List Expr}{fo:Fe}{fs:DSt->M (List D)}{name:Str}{id:String}{mm:D->List D->M D}{tj se:Pos}
end
section
end
def D7(G:DH)(x:D):List D->Option Bool
 |[]=>some false
 |d::t=>match eqN 40 G d x,D7 G x t with
   |some a,some b=>some (a||b)
   |_,_=>none
theorem vc:D7 G x (d::t)=match eqN 40 G d x,D7 G x t with
 |some a,some b=>some (a||b)
 |_,_=>none:=rfl
def oB(x y:D)(G:DH):Option Bool:=match y with
 | .tup l=>D7 G x l
 | .ref r=>match G[r]? with
   |some (.lst l)=>D7 G x l
   |some (.rol l)=>D7 G x l
   |_=>none
 |_=>none
def inX:D->D->M D:=λx y G=>match oB x y G with
 |some b=>some (.ok (.bl b),G)
 |none=>none
section
theorem Pd(hu:X.A.units+64<xh)(I:Inv X pins σ H s)(hr:m8 (wc X) μ G H)(sk:d7 (wc X) μ H dx x)(rx:t6 x v):
 ∀ {l} {vs} {us} {b},j6 (wc X) μ H l vs->m7 vs us->D7 G dx l=some b->
  (∀u∈us,∃c,yj X.A.in1 s u v c)/\(b=true->∃u∈us,yj X.A.in1 s u v true)/\(b=false->∀u∈us,yj X.A.in1 s u v false):=by
 intro l
 induction l with
 |nil=>
   intro vs us b rl rv e
   cases rl
   cases rv
   cases e
   exact⟨λu hu=>(by cases hu),λz=>absurd z zz,λ_ u hu=>(by cases hu)⟩
 |cons d t ih=>
   intro vs us b rl rv e;obtain⟨w,tv,rfl,q,rt⟩:=rl
   cases rv with
   |cons r1 rs=>
   rename_i u us1;rw[vc]at e;rcases e1:eqN 40 G d dx with _|a
   ·rw[e1]at e;cases e
   ·
     rcases e2:D7 G dx t with _|b2
     ·rw[e1,e2]at e;cases e
     ·
       rw[e1,e2]at e
       cases e
       have h1:=(GD I hr 40 X.A.in1 (by show X.A.units+1+40<xh;lia) q sk r1 rx e1).2.2;obtain⟨k1,k2,k3⟩:=ih rt rs e2;refine⟨λu' hu'=>?_,λz=>?_,λz u' hu'=>?_⟩
       · rcases zr.mp hu' with rfl|hu'
         ·exact⟨a,h1⟩
         ·exact k1 u' hu'
       · rcases a with _|_
         ·
           obtain⟨u',h3,h4⟩:=k2 z;exact⟨u',zl _ h3,h4⟩
         ·exact⟨u,zv,h1⟩
       · rcases a with _|_
         ·
           rcases zr.mp hu' with rfl|hu'
           ·exact h1
           ·exact k3 z u' hu'
         ·cases z
open Classical in
theorem IS(hu:X.A.units+64<xh)(I:Inv X pins σ H s)(hr:m8 (wc X) μ G H)(sk:d7 (wc X) μ H dx x)(rx:t6 x v)
 (rl:j6 (wc X) μ H l vs) (rv:m7 vs us) (e:D7 G dx l=some b):
   ∃f:zg->Bool,(∀u∈us,yj X.A.in1 s u v (f u))/\us.any f=b:=by
 obtain⟨k1,k2,k3⟩:=Pd hu I hr sk rx rl rv e;rcases b with _|_
 ·exact⟨λ_=>false,λu hu=>k3 rfl u hu,by simp⟩
 ·
   refine⟨λu=>decide (yj X.A.in1 s u v true),λu hu=>?_,?_⟩
   · dsimp only;by_cases c:yj X.A.in1 s u v true
     ·rw[decide_eq_true c];exact c
     · rw[decide_eq_false c];obtain⟨c',hc⟩:=k1 u hu;rcases c' with _|_
       ·exact hc
       ·exact absurd hc c
   ·obtain⟨u,hu,h⟩:=k2 rfl;exact Jh.mpr ⟨u,hu,decide_eq_true h⟩
theorem Gj(hu:X.A.units+64<xh)(I:Inv X pins σ H s)(hr:m8 (wc X) μ G H)(sk:d7 (wc X) μ H dx x)(su:d7 (wc X) μ H dy y)(rx:t6 x v)(ry:t6 y u)
 (e:oB dx dy G=some b):
 (Q (.bl b) H->zo (zA X.prog X.w) X.A (ja .In v u) (EP X pins σ Q) X.xe s)/\(Q (.bl (!b)) H->zo (zA X.prog X.w) X.A (ja .NotIn v u) (EP X pins σ Q) X.xe s):=by
 have seq:∀(p:Addr) (l:List D) (vs:List V),y= .ref p->(SqL X.K H p vs\/SqT X.K H p vs)->j6 (wc X) μ H l vs->D7 G dx l=some b->
  (Q (.bl b) H->zo (zA X.prog X.w) X.A (ja .In v u) (EP X pins σ Q) X.xe s)/\(Q (.bl (!b)) H->zo (zA X.prog X.w) X.A (ja .NotIn v u) (EP X pins σ Q) X.xe s):=by
  intro p l vs hy hq rl e;subst hy
  cases ry
  rcases hq with hq|hq
  · obtain⟨qu,r,pl,hz⟩:=I.list hq;obtain⟨f,h1,h2⟩:=IS hu I hr sk rx rl r e;have h3:qu.toArray.any f=b:=by rw[<-h2];simp
    exact⟨λq=>SeqAt.in_listAt f pl.isList (λw hw=>h1 w (by simpa using hw)) ⟨.bl _,H,I,rfl,by rw[h3];exact q⟩,λq=>SeqAt.notIn_listAt f pl.isList (λw hw=>h1 w (by simpa using hw)) ⟨.bl _,H,I,rfl,by rw[h3];exact q⟩⟩
  · obtain⟨qu,r,pl,hz⟩:=I.tuple hq;obtain⟨f,h1,h2⟩:=IS hu I hr sk rx rl r e;have h3:qu.toArray.any f=b:=by rw[<-h2];simp
    exact⟨λq=>SeqAt.in_tupleAt f pl (λw hw=>h1 w (by simpa using hw)) ⟨.bl _,H,I,rfl,by rw[h3];exact q⟩,λq=>SeqAt.notIn_tupleAt f pl (λw hw=>h1 w (by simpa using hw)) ⟨.bl _,H,I,rfl,by rw[h3];exact q⟩⟩
 rcases dy with _|_|_|_|l|i|_|_<;>try (cases e;done)
 ·
   unfold d7 at su;obtain⟨a,vs,hy,q,rl⟩:=su;exact seq a l vs hy (.inr q) rl e
 ·
   unfold d7 at su;obtain⟨a,m,hy⟩:=su;rcases g:G[i]? with _|o
   ·unfold oB at e;simp only[g]at e;cases e
   ·
     have ro:=hr.obj i o a g m;rcases o with l|l|_|_<;>try (unfold oB at e;simp only[g]at e;cases e;done)
     ·
       obtain⟨vs,q,rl⟩:=ro;unfold oB at e;simp only[g]at e;exact seq a l vs hy (.inl (SqL.of q)) rl e
     ·
       obtain⟨vs,q,rl⟩:=ro;unfold oB at e;simp only[g]at e;exact seq a l vs hy (.inl q.sq) rl e
theorem PX(hu:X.A.units+64<xh):OpD X Z (ja .In) inX:=⟨by
 intro pins s σ H x y v u Q I rx ry rc;refine rc.elim λdx dy μ G sk su hr p=>?_;unfold inX at p;rcases e:oB dx dy G with _|b
 ·rw[e]at p;exact p.elim
 ·rw[e]at p;exact(Gj hu I hr sk su rx ry e).1 (c7.ok p hr _ ofB)⟩
end
section
end
end DL
namespace W
open PySem PySem.Spec L2 DL
open PyProof.Rows hiding St
end W
namespace DL
open PySem PySem.Spec L2
open PyProof.Rows hiding St
section
end
section
end
end DL
namespace W
open PySem PySem.Spec L2 DL
open PyProof.Rows hiding St
end W
namespace DL
open PySem PySem.Spec L2
open PyProof.Rows hiding St
theorem b8(e:m G=some (.ok a,G'))(q:Q a G'):Wp m G Q:=⟨a,G',e,q⟩
def PB(Q:DPP):Fl->DH->Prop
 | .nx _,G=>Q .non G
 | .rt d,G=>Q d G
 |_,_=>False
section
variable{m:Nat}{f S g:Fs}{ds as:List D}{d:D}{G G':DH}{Q:DPP}{P A:Fl->DH->Prop}{σ X1:DSt}{e:Fe}
theorem j9(w:Wp (f (ds.map some++jI (m-ds.length) none)) G (PB Q)):Wp (m9 m f ds) G Q:=
 y7.mpr (w.mono λfl G1 h=>match fl,h with
  | .nx _,h=>h
  | .rt _,h=>h
  | .bk _,h=>h.elim
  | .ct _,h=>h.elim)
theorem j8(q:Q d G):PB Q (.rt d) G:=q
theorem U0(e:f (ds.map some++jI (m-ds.length) none) G=some (.ok (.rt d),G'))(q:Q d G'):Wp (m9 m f ds) G Q:=j9 (b8 e q)
theorem o6(e:S σ G=some (.ok (.nx X1),G'))(w:Wp (g X1) G' P):Wp (j5 S g σ) G P:=d8.mpr (b8 e w)
end
section
variable{a b c:Fe}{d x y z:D}{G G1 G2:DH}{R:List D->DH->Prop}{σ:DSt}
theorem mC(e:t σ G=some (.ok true,G1))(w:Wp (f σ) G1 P):Wp (ifS t f g σ) G P:=sC.mpr (b8 e w)
theorem EB(e:t σ G=some (.ok false,G1))(w:Wp (g σ) G1 P):Wp (ifS t f g σ) G P:=sC.mpr (b8 e w)
theorem mM(e:t σ G=some (.ok k,G1))(w:k=true->Wp (f σ) G1 P)(v:k=false->Wp (g σ) G1 P):Wp (ifS t f g σ) G P:=by
 rcases k with _|_
 ·exact EB e (v rfl)
 ·exact mC e (w rfl)
theorem M8(w:Wp (t σ) G λk G1=>(k=true->Wp (f σ) G1 P)/\(k=false->Wp (g σ) G1 P)):Wp (ifS t f g σ) G P:=
 sC.mpr (w.mono λk G1 h=>by cases k with|true=>exact h.1 rfl|false=>exact h.2 rfl)
theorem B5(w:Wp (t σ) G λk G1=>(k=true->Wp (u σ) G1 B)/\(k=false->B false G1)):Wp (j3 t u σ) G B:=
 wG.mpr (w.mono λk G1 h=>by cases k with|true=>exact h.1 rfl|false=>exact h.2 rfl)
theorem VC(w:Wp (t σ) G λk G1=>(k=true->B true G1)/\(k=false->Wp (u σ) G1 B)):Wp (orT t u σ) G B:=
 ke.mpr (w.mono λk G1 h=>by cases k with|true=>exact h.1 rfl|false=>exact h.2 rfl)
theorem iE{g:Fg}(e:b σ G=some (.ok (.tup l),G1))(h:l.length<=10000)(w:Wp (J7 g t a (λ_=>true) l (Z8 caps σ)) G1 λys G2=>Q (.ref G2.length) (G2++[.lst ys])):Wp (M6 (itW b) caps g t a σ) G Q:=
 W.wp_comp.mpr (W.wp_itW.mpr (b8 e (W.srcW_tup.mpr ⟨zS h (show 10000<=zi by decide),w⟩)))
theorem lR(e:t σ G=some (.ok false,G1))(w:Wp (b σ) G1 Q):Wp (ifE t a b σ) G Q:=AA.mpr (b8 e w)
theorem u0(w:Wp (a σ) G λd G1=>P (.nx (σ.set i (some d))) G1):Wp (v7 a (S0 i) σ) G P:=B7.mpr (w.mono λ_ _ h=>J8.mpr h)
theorem o4(w:Wp (a σ) G λd G1=>P (.rt d) G1):Wp (o9 a σ) G P:=A6.mpr w
theorem g8(e:fs σ G=some (.ok as,G1))(h:as.length=n)(w:Wp (F as) G1 Q):Wp (C2 (fnX n F) fs σ) G Q:=U5.mpr (b8 e (V1.mpr ⟨h,w⟩))
theorem W6(e:fs σ G=some (.ok as,G1))(w:Wp (F as) G1 Q):Wp (C2 F fs σ) G Q:=U5.mpr (b8 e w)
theorem R9(w:Wp (fs σ) G λas G1=>Wp (F as) G1 Q):Wp (C2 F fs σ) G Q:=U5.mpr w
theorem NT(ea:a σ G=some (.ok x,G1))(eb:b σ G1=some (.ok y,G2))(w:Wp (o x y) G2 Q):Wp (binE o a b σ) G Q:=l4.mpr (b8 ea (b8 eb w))
theorem j4(w:Wp (a σ) G λx G1=>Wp (b σ) G1 λy G2=>Wp (o x y) G2 Q):Wp (binE o a b σ) G Q:=l4.mpr w
theorem fO(e:a σ G=some (.ok x,G1))(w:Wp (fs σ) G1 λxs G2=>R (x::xs) G2):Wp (x0 a fs σ) G R:=O2.mpr (b8 e w)
theorem j7(w:Wp (a σ) G λx G1=>Wp (fs σ) G1 λxs G2=>R (x::xs) G2):Wp (x0 a fs σ) G R:=O2.mpr w
theorem v6(w:Wp (a σ) G λx G1=>∃k,x= .bl k/\B k G1):Wp (B6 a σ) G B:=cA.mpr w
end
def FH(K:zj)(x:Str)(st:Stmt):Prop:=∃(f:Addr) (od an:Option Addr) (sl:Array (Option zg)) (oc kV dc pm cd ct:zg),Ze K jA x=some (some (.ref f))/\
 K.lookup f=some ⟨oc,od,.func (yO x x (L8 st) (U4 st) (v4 st) .none kV dc pm an cd ct),sl⟩/\Zv K cd x=true/\yS K (.ref f)=true
section
variable{K:zj}{h:Heap}{mg:Str->Option zg}{x:Str}{st:Stmt}
theorem FH.of{oc kV dc pm cd ct:zg}(a:Ze K jA x=some (some (.ref f)))
 (l:K.lookup f=some ⟨oc,od,.func (yO x x (L8 st) (U4 st) (v4 st) .none kV dc pm an cd ct),sl⟩) (e:Zv K cd x=true) (k:yS K (.ref f)=true):FH K x st:=
 ⟨f,od,an,sl,oc,kV,dc,pm,cd,ct,a,l,e,k⟩
variable{ps:List Str}
theorem FH.ff(H:FH K x st)(X:K.In h)(G:h.Ns jA mg)(b:∀kV doc pm an sn ct us,us.length=ps.length->bindArgs (yO x x (L8 st) (U4 st) (v4 st) .none kV doc pm an sn ct) ⟨us, []⟩=pure (ps.zip us)):∃f fd,FF K mg x st ps f fd:=by obtain⟨f,od,an,sl,oc,kV,dc,pm,cd,ct,a,l,e,k⟩:=H;exact⟨_,_,HF l e k,(HF l e k).binds b,ZM X G a⟩
theorem pX(h:us.length=n+1):∃a t,us=a::t/\t.length=n:=by
 rcases us with _|⟨a,t⟩
 ·cases h
 ·exact⟨a,t,rfl,Nat.succ.inj h⟩
theorem BLs.of(X:K.In h)(G:h.Ns jA mg)(z:∀b∈bltL,Ze K jA b=some none):BLs mg:=⟨λb hb=>PySem.W.mg_none_of X G (z b hb)⟩
end
abbrev Gc(h:Heap)(z TI TO:Addr)(f0:zg)(b:Bool):Prop:=
 h.get? z=some {cls:=.type "zip",dict:=none,data:=.fields #[f0,.bool b,.bool false,.ref TI,.ref TO],slots:= #[]}
section
variable{prog:zV}{w:je}{A:jm}{E:VSP}{s:zw}{k1 k2:Bool}{i:Nat}{z TI TO i1 i2 l1 l2 T:Addr}{xs ys:Array zg}{b:Bool}
structure ZSt(k1 k2:Bool)(z TI TO i1 i2 l1 l2:Addr)(xs ys:Array zg)(n0 i:Nat)(h:Heap):Prop where
 hz:(ZV h z TI TO .none/\∃a b,yW h TO a b)\/∃T b,Gc h z TI TO (yC ((n0+T:Nat):Int)) b/\T<i
 hTI:yW h TI (.ref i1) (.ref i2)
 h1:SI k1 h i1 l1 i
 h2:SI k2 h i2 l2 i
 c1:SC k1 h l1 xs
 c2:SC k2 h l2 ys
end
section
variable{H:Hp}{n0:Nat}{ws:List (V×V)}
end
section
variable{X:Cx}{Z:XC}{a b:Expr}{fs:DSt->M (List D)}{p1 p2 pos1 pos2:Pos}
end
end DL
namespace TS
open PySem PyProof.Rows
section
variable{prog:zV}{w:je}{A:jm}{E:VSP}{s:zw}
def kz(p:Yz):Int:=numOf p.1
end
def leK(x y:Yz):Prop:=kz x<=kz y
def Srt(l:List Yz):Prop:=l.Pairwise leK
structure MI(L out A B:List Yz):Prop where
 perm:(out++(A++B)).Perm L
 so:Srt out
 oa:∀x∈out,∀y∈A,leK x y
 ob:∀x∈out,∀y∈B,leK x y
 sa:Srt A
 sb:Srt B
structure MJ(L A B S:List Yz):Prop where
 perm:(A++(B++S)).Perm L
 ss:Srt S
 as:∀x∈A,∀y∈S,leK x y
 bs:∀x∈B,∀y∈S,leK x y
 sa:Srt A
 sb:Srt B
structure LI(a b:Array Yz)(out:Array Yz)(ia ib:Nat):Prop where
 mi:MI (a.toList++b.toList) out.toList (a.toList.drop ia) (b.toList.drop ib)
 ha:ia+1<a.size
 hb:ib<b.size
 sz:out.size=ia+ib
section
variable{a b out:Array Yz}{ia ib:Nat}
end
section
variable{prog:zV}{w:je}{A:jm}{E:VSP}{s:zw}
end
section
variable{prog:zV}{w:je}{A:jm}{E:VSP}{s:zw}
end
structure HI(a b:Array Yz)(out:Array Yz)(na nb:Nat):Prop where
 mj:MJ (a.toList++b.toList) (a.toList.take na) (b.toList.take nb) out.toList.reverse
 ha:0<na
 hb:1<nb
 la:na<=a.size
 lb:nb<=b.size
 sz:out.size+na+nb=a.size+b.size
section
variable{a b out:Array Yz}{na nb:Nat}
end
section
variable{prog:zV}{w:je}{A:jm}{E:VSP}{s:zw}
end
section
variable{prog:zV}{w:je}{A:jm}{E:VSP}{s:zw}
structure Aft(st sh:SortSt)(l:List Yz)(p:Array (Nat×Nat×Nat)):Prop where
 kind:Zh sh=oneType'
 arr:(Yy sh).toList=l
 pend:pendingOf sh=p
 fail:YU sh=none
end
structure Run(lo:Nat)(st sh:SortSt):Prop where
 kind:Zh sh=oneType'
 pend:pendingOf sh=pendingOf st
 fail:YU sh=none
 perm:(Yy sh).Perm (Yy st)
 low:∀i,i<lo->(Yy sh)[i]? = (Yy st)[i]?
section
variable{prog:zV}{w:je}{A:jm}{E:VSP}{s:zw}
end
section
variable{prog:zV}{w:je}{A:jm}{E:VSP}{s:zw}
end
def lay:Nat->List (List Yz)->List Nat->List (Nat×Nat×Nat)
 |o,r::rs,p::ps=>(o,r.length,p)::lay (o+r.length) rs ps
 |_,_,_=> []
structure GI(a0:List Yz)(st:SortSt)(rs:List (List Yz))(ps:List Nat)(T:List Yz):Prop where
 kind:Zh st=oneType'
 fail:YU st=none
 arr:(Yy st).toList=rs.flatten++T
 perm:(Yy st).toList.Perm a0
 len:rs.length=ps.length
 pend:pendingOf st= (lay 0 rs ps).toArray
 ok:∀r∈rs,0<r.length/\Srt r
section
variable{prog:zV}{w:je}{A:jm}{E:VSP}{s:zw}
end
section
variable{prog:zV}{w:je}{A:jm}{E:VSP}{s:zw}
end
section
variable{prog:zV}{w:je}{A:jm}{E:VSP}{s:zw}
end
end TS
namespace DL
open PySem PySem.Spec L2
open PyProof.Rows hiding St
def rC(l:List Int):List Int:=l.mergeSort λa b=>decide (a<=b)
theorem pM(l:List Int):(rC l).Pairwise (· <= ·):=(Yn (le:=λa b=>decide (a<=b)) (λa b c h1 h2=>decide_eq_true (YJ (of_decide_eq_true h1) (of_decide_eq_true h2))) (λa b=>by rw[Bool.or_eq_true,decide_eq_true_iff,decide_eq_true_iff];exact Int.le_total a b) l).imp λh=>of_decide_eq_true h
theorem tG(l:List Int):(rC l).Perm l:=Zw l _
theorem Wh(hp:l'.Perm l)(hs:l'.Pairwise (· <= ·)):l'=rC l:=
 Jo (λa b _ _ h1 h2=>JF h1 h2) hs (pM l) (hp.trans (tG l).symm)
section
variable{prog:zV}{w:je}{A:jm}{E:VSP}{s:zw}{T:String}{r d:Addr}{n:Nat}{P:Nat->zg->Prop}{OK:Heap->Prop}{Q:VSP}
end
section
variable{X:Cx}{Z:XC}{c:Wc}{μ:List Addr}{H:Hp}{G:DH}
theorem eS:∀ {out} {ss},IntsAre out ss->∃vs,vs=ss.map V.int/\m7 vs out/\j6 c μ H (ss.map D.int) vs
 |_,_,.nil=>⟨[],rfl,.nil,rfl⟩
 |_,_,.cons x t q=>by obtain⟨vs,e,h1,h2⟩:=eS q;subst e;exact⟨_,rfl,.cons ⟨t,rfl⟩ h1,_,_,rfl,by unfold d7;rfl,h2⟩
end
section
variable{prog:zV}{w:je}{A:jm}{E:VSP}
end
def S9(r:Option Int):D:=match r with
 |none=>.non
 |some b=>.int b
section
theorem aS:∀ {vs} {ns},vs.length=ns.length->(∀i u,vs[i]? =some u->∃t,u=Value.int (ns.getD i 0) t)->IntsAre vs ns
 |[], [],_,_=>.nil
 |v::vs,n::ns,e,h=>by obtain⟨t,rfl⟩:=h 0 v rfl;exact .cons _ t (aS (Nat.succ.inj e) λi u hu=>by simpa using h (i+1) u (by simpa using hu))
end
section
end
structure KA(X:Cx)(e:Expr)(k:Int):Prop where
 h:PE X e (tC (.int k))
section
variable{X:Cx}{Z:XC}{pos:Pos}{e f:Expr}{i j k:Int}
theorem bf{m pos}:KA X (.Constant (.int i) m pos) i:=⟨pQ⟩
theorem Bh(he:KA X e i)(hf:KA X f j)(hc:i7 i j)(hk:i ^ j.toNat=k):KA X (.BinOp e .Pow f pos) k:=⟨by
 subst hk;exact PE.mono (TJ mO he.h hf.h) λσ H Q q=>⟨i,j,rfl,rfl,hc,q⟩⟩
theorem ic(he:KA X e i)(hf:KA X f j)(hk:i-j=k):KA X (.BinOp e .Sub f pos) k:=⟨by
 subst hk;exact PE.mono (TJ mQ he.h hf.h) λσ H Q q=>⟨i,j,rfl,rfl,q⟩⟩
end
end DL
namespace DL
open PySem PySem.W
open PyProof.Rows hiding St
structure WO(lt:Nat->Nat->Bool):Prop where
 tr:∀i j k,lt j i=false->lt k j=false->lt k i=false
 as:∀i j,lt i j=true->lt j i=false
section
theorem WO.ir(O:WO lt)(i:Nat):lt i i=false:=by
 rcases e:lt i i with _|_
 ·rfl
 ·exact(O.as i i e).symm.trans e |>.symm▸rfl
def upW(lt:Nat->Nat->Bool)(p:Array Nat)(m:Nat):Prop:=∀i j,i<j->j<m->lt (p.getD j 0) (p.getD i 0)=false
def dnW(lt:Nat->Nat->Bool)(p:Array Nat)(m:Nat):Prop:=∀i j,i<j->j<m->lt (p.getD i 0) (p.getD j 0)=false
theorem gG(O:WO lt)(h:upW lt p m)(hij:i<=j)(hj:j<m):lt (p.getD j 0) (p.getD i 0)=false:=by
 rcases ZT hij with k|k
 ·exact h i j k hj
 ·rw[k];exact O.ir _
theorem pH(O:WO lt)(h:dnW lt p m)(hij:i<=j)(hj:j<m):lt (p.getD i 0) (p.getD j 0)=false:=by
 rcases ZT hij with k|k
 ·exact h i j k hj
 ·rw[k];exact O.ir _
theorem Gh(O:WO lt)(hk:1<=k)(h:upW lt p k)(hl:lt (p.getD k 0) (p.getD (k-1) 0)=false):upW lt p (k+1):=by
 intro i j hij hj;by_cases hj':j<k
 ·exact h i j hij hj'
 · have ej:j=k:=by lia
   subst ej;exact O.tr _ _ _ (gG O h (show i<=j-1 by lia) (by lia)) hl
theorem sL(O:WO lt)(hk:1<=k)(h:dnW lt p k)(hl:lt (p.getD (k-1) 0) (p.getD k 0)=false):dnW lt p (k+1):=by
 intro i j hij hj;by_cases hj':j<k
 ·exact h i j hij hj'
 · have ej:j=k:=by lia
   subst ej;exact O.tr _ _ _ hl (pH O h (show i<=j-1 by lia) (by lia))
theorem uJ(O:WO lt)(P:J2 p n):∀f k,1<=k->k+f<=n->upW lt p k->tOk lt n (kas_asc p f k) (λm=>k<=m/\m<=k+f/\upW lt p m/\(m<k+f->lt (p.getD m 0) (p.getD (m-1) 0)=true))
 |0,k,h1,h2,u=>⟨zh _,zh _,u,λz=>by lia⟩
 |f+1,k,h1,h2,u=>by
   unfold kas_asc;refine⟨P.bd (by lia),P.bd (by lia),?_⟩;rcases e:lt (p.getD k 0) (p.getD (k-1) 0)with _|_
   ·simp only[zy,if_false];exact(uJ O P f (k+1) (by lia) (by lia) (Gh O h1 u e)).mono λm ⟨a,b,c,d⟩=>⟨by lia,by lia,c,λz=>d (by lia)⟩
   ·exact⟨zh _,by lia,u,λ_=>e⟩
theorem gA(P:J2 p n)(hb:b<=n)(i:Nat):(kas_rev p a b).getD i 0=if a<=i/\i<b then p.getD (a+b-1-i) 0 else p.getD i 0:=by have hs:=P.size;rw[V3];unfold kas_rev;rw[getElem?_mirror_all (by lia)];split<;>rw[<-V3]
def eqB(lt:Nat->Nat->Bool)(p:Array Nat)(a b:Nat):Prop:=∀i j,a<=i->i<b->a<=j->j<b->lt (p.getD i 0) (p.getD j 0)=false
theorem SM(O:WO lt)(P:J2 p n)(hk:k<=n)(h:dnW lt p k)(e:eqB lt p a k):dnW lt (kas_rev p a k) k:=by
 intro i j hij hj;rw[gA P hk,gA P hk];by_cases h1:a<=i
 ·rw[if_pos ⟨h1,by lia⟩,if_pos ⟨by lia,hj⟩];exact e _ _ (by lia) (by lia) (by lia) (by lia)
 · rw[if_neg (by lia)];by_cases h2:a<=j
   ·rw[if_pos ⟨h2,hj⟩];exact h i _ (by lia) (by lia)
   ·rw[if_neg (by lia)];exact h i j hij hj
theorem LG(O:WO lt):∀f k q p,J2 p n->1<=k->k+f<=n->q+1<=k->dnW lt p k->eqB lt p (k-(q+1)) k->tOk lt n (kas_desc f p k q) (λr=>J2 r.1 n/\k<=r.2.1/\r.2.1<=k+f/\r.2.2+1<=r.2.1/\dnW lt r.1 r.2.1/\eqB lt r.1 (r.2.1-(r.2.2+1)) r.2.1)
 |0,k,q,p,P,h1,h2,h3,d,e=>⟨P,zh _,zh _,h3,d,e⟩
 |f+1,k,q,p,P,h1,h2,h3,d,e=>by
   unfold kas_desc;have one:∀(p:Array Nat),eqB lt p (k+1-(0+1)) (k+1):=λp i j a1 a2 a3 a4=>by rw[show i=j by lia];exact O.ir _
   refine⟨P.bd (by lia),P.bd (by lia),?_⟩;rcases c:lt (p.getD k 0) (p.getD (k-1) 0)with _|_
   · simp only[zy,if_false];refine⟨P.bd (by lia),P.bd (by lia),?_⟩;rcases c2:lt (p.getD (k-1) 0) (p.getD k 0)with _|_
     · simp only[zy,if_false];refine(LG O f (k+1) (q+1) p P (by lia) (by lia) (by lia) (sL O h1 d c2) λi j a1 a2 a3 a4=>?_).mono λr ⟨a,b,c,d,g⟩=>⟨a,by lia,by lia,d,g⟩;have el:∀i,k-(q+1)<=i->i<k+1->lt (p.getD i 0) (p.getD k 0)=false/\lt (p.getD k 0) (p.getD i 0)=false:=λi x y=>by
        by_cases z:i=k
        ·rw[z];exact⟨O.ir _,O.ir _⟩
        ·exact⟨O.tr _ _ _ c2 (e i (k-1) x (by lia) (by lia) (by lia)),O.tr _ _ _ (e (k-1) i (by lia) (by lia) x (by lia)) c⟩
       exact O.tr _ _ _ (el j (by lia) a4).2 (el i (by lia) a2).1
     ·exact⟨P,zh _,by lia,h3,d,e⟩
   · simp only[if_true];have c':=O.as _ _ c;split
     · have rp:J2 (kas_rev p (k-(q+1)) k) n:=lB P;refine(LG O f (k+1) 0 _ rp (by lia) (by lia) (by lia) (λi j hij hj=>?_) (one _)).mono λr ⟨a,b,c,d,g⟩=>⟨a,by lia,by lia,d,g⟩;by_cases hj':j<k
       ·exact SM O P (by lia) d e i j hij hj'
       · have ej:j=k:=by lia
         subst ej;rw[gA P (by lia),gA P (by lia),if_neg (show ¬(j-(q+1)<=j/\j<j) by lia)];split
         ·exact O.tr _ _ _ c' (pH O d (by lia) (by lia))
         ·exact O.tr _ _ _ c' (pH O d (by lia) (by lia))
     ·exact(LG O f (k+1) 0 p P (by lia) (by lia) (by lia) (sL O h1 d c') (one p)).mono λr ⟨a,b,c,d,g⟩=>⟨a,by lia,by lia,d,g⟩
theorem NN(O:WO lt)(P:J2 p n)(h1:1<=k)(hk:k<=n)(d:dnW lt p k):tOk lt n (kas_tail3 k n p) (λr=>J2 r.2 n/\1<=r.1/\r.1<=n/\upW lt r.2 r.1):=by
 unfold kas_tail3;have u:upW lt (kas_rev p 0 k) k:=λi j hij hj=>by rw[gA P hk,gA P hk,if_pos ⟨zL _,hj⟩,if_pos ⟨zL _,by lia⟩];exact d _ _ (by lia) (by lia)
 exact tOk.bind _ ((uJ O (lB P) (n-k) k h1 (by lia) u).mono λm ⟨a1,a2,a3,_⟩=>⟨lB P,by lia,by lia,a3⟩)
theorem KP(O:WO lt)(P:J2 p n)(h1:1<=k)(hk:k<n)(d:dnW lt p (k+1)):tOk lt n (kas_descPart k n p) (λr=>J2 r.2 n/\1<=r.1/\r.1<=n/\upW lt r.2 r.1):=by
 unfold kas_descPart;refine tOk.bind _ ((LG O (n-(k+1)) (k+1) 0 p P (by lia) (by lia) (by lia) d λi j a1 a2 a3 a4=>by rw[show i=j by lia];exact O.ir _).mono λr ⟨a,b,c,e,g,h⟩=>?_);split
 ·exact NN O (lB a) (by lia) (by lia) (SM O a (by lia) g h)
 ·exact NN O a (by lia) (by lia) g
theorem Kh(O:WO lt)(P:J2 p n)(h2:2<=n):tOk lt n (kas_count n p) (λr=>J2 r.2 n/\1<=r.1/\r.1<=n/\upW lt r.2 r.1):=by
 unfold kas_count;refine tOk.bind _ ((uJ O P (n-1) 1 (zh _) (by lia) (λi j _ _=>by lia)).mono λm ⟨a1,a2,a3,a4⟩=>?_);by_cases hm:m=n
 ·rw[if_pos (by simpa using hm)];exact⟨P,a1,by lia,a3⟩
 · rw[if_neg (by simpa using hm)];have a5:=O.as _ _ (a4 (by lia));by_cases h1:m>1
   · rw[if_pos h1];refine⟨P.bd (by lia),P.bd (by lia),?_⟩;rcases c:lt (p.getD 0 0) (p.getD (m-1) 0)with _|_
     · simp only[zy,if_false];refine KP O (lB P) (by lia) (by lia) λi j hij hj=>?_;rw[gA P (by lia),gA P (by lia),if_pos ⟨zL _,by lia⟩];by_cases hj':j<m
       ·rw[if_pos ⟨zL _,hj'⟩];exact a3 _ _ (by lia) (by lia)
       ·rw[if_neg (by lia),show j=m by lia];exact O.tr _ _ _ a5 (O.tr _ _ _ c (gG O a3 (zL _) (by lia)))
     ·exact⟨P,a1,by lia,a3⟩
   · rw[if_neg h1];have em:m=1:=by lia
     subst em;refine KP O P (zh _) (by lia) λi j hij hj=>?_;have e1:i=0:=by lia
     have e2:j=1:=by lia
     subst e1 e2;exact a5
theorem GJ(O:WO lt)(P:J2 p n)(hk:k<n)(u:upW lt p k):∀f l r,l<=r->r<=k->r-l<=f->(∀i,i<l->lt (p.getD k 0) (p.getD i 0)=false)->(∀i,r<=i->i<k->lt (p.getD i 0) (p.getD k 0)=false)->
 tOk lt n (kas_place p k f l r) (λL=>L<=k/\(∀i,i<L->lt (p.getD k 0) (p.getD i 0)=false)/\∀i,L<=i->i<k->lt (p.getD i 0) (p.getD k 0)=false)
 |0,l,r,h1,h2,h3,a,b=>⟨by lia,a,λi hi=>b i (by lia)⟩
 |f+1,l,r,h1,h2,h3,a,b=>by
   unfold kas_place;by_cases h:l>=r
   ·rw[if_pos h];exact⟨by lia,a,λi hi=>b i (by lia)⟩
   · rw[if_neg h];have hm1:l<=(l+r) / 2:=by lia
     have hm2:(l+r) / 2<r:=by lia
     refine⟨P.bd hk,P.bd (by lia),?_⟩;rcases e:lt (p.getD k 0) (p.getD ((l+r) / 2) 0)with _|_
     ·simp only[zy,if_false];exact GJ O P hk u f _ r (by lia) h2 (by lia) (λi hi=>O.tr _ _ _ (gG O u (show i<=(l+r) / 2 by lia) (by lia)) e) b
     ·simp only[if_true];exact GJ O P hk u f l _ hm1 (by lia) (by lia) a λi hi hik=>O.tr _ _ _ (O.as _ _ e) (gG O u hi hik)
theorem iN(O:WO lt):∀f k p,J2 p n->k+f=n->upW lt p k->tOk lt n (kas_bin f p k) (λq=>J2 q n/\upW lt q n)
 |0,k,p,P,h,u=>⟨P,by rw[<-h];exact u⟩
 |f+1,k,p,P,h,u=>by
   unfold kas_bin;refine tOk.bind _ ((GJ O P (show k<n by lia) u k 0 k (zL _) (zh _) (by lia) (λi hi=>by lia) (λi h1 h2=>by lia)).mono λL ⟨hL,a,b⟩=>?_);have hs:=P.size;refine iN O f (k+1) _ ⟨(ZE.mp (bubble_perm p k (k-L))).trans P.pm⟩ (by lia) ?_;have e:∀i,(bubble p k (k-L)).getD i 0=if i=L then p.getD k 0 else if L<i/\i<=k then p.getD (i-1) 0 else p.getD i 0:=λi=>by
    rw[V3,getElem?_bubble (by lia) _ (by lia),show k-(k-L)=L by lia];split
    ·rw[<-V3]
    ·split<;>rw[<-V3]
   intro i j hij hj;rw[e i,e j];by_cases h1:i=L
   ·rw[if_pos h1,if_neg (show ¬j=L by lia),if_pos (show L<j/\j<=k by lia)];exact b (j-1) (by lia) (by lia)
   · rw[if_neg h1];by_cases h2:j=L
     ·rw[if_pos h2,if_neg (show ¬(L<i/\i<=k) by lia)];exact a i (by lia)
     · rw[if_neg h2];by_cases h3:L<i
       ·rw[if_pos (show L<i/\i<=k by lia),if_pos (show L<j/\j<=k by lia)];exact u _ _ (by lia) (by lia)
       · rw[if_neg (show ¬(L<i/\i<=k) by lia)];by_cases h4:L<j
         ·rw[if_pos (show L<j/\j<=k by lia)];exact u i (j-1) (by lia) (by lia)
         ·rw[if_neg (show ¬(L<j/\j<=k) by lia)];exact u _ _ hij (by lia)
theorem tK(O:WO lt)(h2:2<=n):tOk lt n (kas_sort n) (λq=>J2 q n/\upW lt q n):=by
 unfold kas_sort;refine tOk.bind _ ((Kh O ⟨by simp⟩ h2).mono λr ⟨a,b,c,d⟩=>?_);by_cases h:r.1<n
 ·rw[if_pos h,show max r.1 1=r.1 by lia];exact iN O _ _ _ a (by lia) d
 ·rw[if_neg h];exact⟨a,by rw[show n=r.1 by lia];exact d⟩
def E8{α:Type}(lt:Nat->Nat->Bool):KasT α->α
 | .ret a=>a
 | .ask i j k=>E8 lt (k (lt i j))
theorem tOk.run:∀t,tOk lt n t Q->tOk lt n t (λa=>a=E8 lt t/\Q a)
 | .ret a,h=>⟨rfl,h⟩
 | .ask i j k,h=>⟨h.1,h.2.1,tOk.run (k (lt i j)) h.2.2⟩
theorem tOk.is:∀t,tOk lt n t Q->Q (E8 lt t)
 | .ret a,h=>h
 | .ask i j k,h=>tOk.is (k (lt i j)) h.2.2
end
end DL
namespace DL
open PySem PySem.Spec L2
open PyProof.Rows hiding St
def mE:D->Option (Int×Int)
 | .tup [.int a,.int x]=>some (a,x)
 |_=>none
def d4:List D->Option (List (Int×Int))
 |[]=>some []
 |d::r=>match mE d,d4 r with
   |some a,some b=>some (a::b)
   |_,_=>none
def g9(p q:Int×Int):Bool:=if p.1=q.1 then decide (p.2<q.2)else decide (p.1<q.1)
def ltP(qs:List (Int×Int))(i j:Nat):Bool:=g9 (qs.getD i (0,0)) (qs.getD j (0,0))
def S8(qs:List (Int×Int))(n:Nat):List Nat:=if n<2 then zE n else (E8 (ltP qs) (xM n)).toList
def l9(qs:List (Int×Int))(l:List D):List D:=(S8 qs l.length).map λi=>l.getD i .non
def F9(F:List D->M D)(l:List D):M D:=do
 let ks <-Q9 F l
 let qs <-U1 (d4 ks)
 J5 (.lst (l9 qs l))
def TD(F:List D->M D):D->M D
 | .tup l=>if l.length<64 then F9 F l else M.stuck
 | .ref r=>do
   match <-K5 r with
   | .lst l=>if l.length<64 then F9 F l else M.stuck
   |_=>M.stuck
 |_=>M.stuck
def CD(F:List D->M D)(f:Fe):Fe:=λσ=>do
 let x <-f σ
 TD F x
theorem rS:g9 p q=true↔p.1<q.1\/(p.1=q.1/\p.2<q.2):=by
 unfold g9;by_cases e:p.1=q.1
 ·rw[if_pos e,decide_eq_true_iff];lia
 ·rw[if_neg e,decide_eq_true_iff];lia
theorem aB:g9 p q=false↔q.1<p.1\/(q.1=p.1/\q.2<=p.2):=by rw[<-Bool.not_eq_true,rS];lia
theorem UJ(qs:List (Int×Int)):WO (ltP qs):=⟨λi j k h1 h2=>aB.mpr (by
 have h1:=aB.mp h1;have h2:=aB.mp h2;lia),λi j h=>aB.mpr (by
 have h:=rS.mp h;lia)⟩
theorem QF(qs:List (Int×Int))(n:Nat):(S8 qs n).Perm (zE n)/\(S8 qs n).Pairwise (λi j=>ltP qs j i=false):=by
 unfold S8;by_cases h:n<2
 · rw[if_pos h];refine⟨List.Perm.refl _,?_⟩
   match n,h with
   |0,_=>simp
   |1,_=>simp[YH]
 · rw[if_neg h];obtain⟨P,U⟩:=tOk.is _ (tK (UJ qs) (show 2<=n by lia));refine⟨P.pm,?_⟩;rw[xa];intro i j hi hj hij;have hs:=P.size;have hi':i<(E8 (ltP qs) (xM n)).size:=by simpa using hi
   have hj':j<(E8 (ltP qs) (xM n)).size:=by simpa using hj
   have:=U i j hij (by lia);simpa [ZG,hi',hj']using this
section
variable{X:Cx}{pins:PNS}{σ:St}{H:Hp}{s:zw}
def t9(h:Heap)(u:zg)(q:Int×Int):Prop:=∃a t t',u= .ref a/\xY h a #[.int q.1 t,.int q.2 t']
theorem CH(I:Inv X pins σ H s):∀ {ks} {qs} {kv:List V} {ku},d4 ks=some qs->j6 (wc X) μ H ks kv->m7 kv ku->qs.length=ku.length/\∀(i:Nat) q,qs[i]? =some q->∃u,ku[i]? =some u/\t9 s.heap u q
 |[],qs,kv,ku,e,r,rv=>by
   cases e;cases r;cases rv
   exact⟨rfl,λi q z=>by simp at z⟩
 |d::r,qs,kv,ku,e,rr,rv=>by
   obtain⟨v,tl,rfl,rd,rt⟩:=rr
   cases rv with
   |cons ru rur=>
   rename_i u ur;unfold d4 at e;rcases h1:mE d with _|a
   ·rw[h1]at e;cases e
   ·
     rcases h2:d4 r with _|b
     ·rw[h1,h2]at e;cases e
     ·
       rw[h1,h2]at e
       cases e
       obtain⟨hl,hk⟩:=CH I h2 rt rur;refine⟨by simp[hl],λi q z=>?_⟩
       cases i with
       |succ i=>simpa using hk i q (by simpa using z)
       |zero=>
         simp at z;subst z;refine⟨u,rfl,?_⟩;unfold mE at h1;split at h1
         · rename_i n x
           cases h1
           unfold d7 at rd;obtain⟨ad,vs,rfl,q,rl⟩:=rd;obtain⟨v1,t1,rfl,e1,v2,t2,rfl,e2,e3⟩:=rl
           cases e3
           rw[T7 e1,T7 e2]at q
           cases ru
           obtain⟨qu,rvs,tp,_⟩:=I.tuple q
           cases rvs with
           |cons r1 rr1=>
             cases rr1 with
             |cons r2 rr2=>
               cases rr2
               obtain⟨t,rfl⟩:=r1;obtain⟨t',rfl⟩:=r2;exact⟨ad,t,t',rfl,tp⟩
         ·cases h1
end
section
variable{prog:zV}{w:je}{A:jm}{E:VSP}{s:zw}{C:Bool->zw->Prop}
theorem lP(hx:t9 s.heap u q)(hy:t9 s.heap u' q')(h:C (g9 q q') s):zo (zA prog w) A (keyLt' (tuples' true) u u') C E s:=by
 obtain⟨a,t,t',rfl,o,ho,hc,n,hd⟩:=hx;obtain⟨b,v,v',rfl,o2,sj,hc2,n2,hd2⟩:=hy;refine PySem.W.kat_lt ho hd sj hd2 ?_;show PySem.W.KatLex prog w A true _ C [(.int q.1 t,.int q'.1 v),(.int q.2 t',.int q'.2 v')] 0 s;refine ZZ (Zn (YE (λe=>?_) λe=>?_))
 · have e1:q.1=q'.1:=by simpa using e
   refine Yj (ZZ (Zn (YE (λe=>?_) λe=>?_)))
   · have e2:q.2=q'.2:=by simpa using e
     refine Yj (PySem.W.kat_nil ?_);rw[show g9 q q'=false from aB.mpr (by lia)]at h;exact h
   ·refine YD (PySem.W.kat_one _ _ (PyProof.Rows.lt_int ?_));unfold g9 at h;rw[if_pos e1]at h;exact h
 · have e1:¬q.1=q'.1:=by simpa using e
   refine YD ?_;show zo (zA prog w) A (oneLt' true _ _) C _ s;rw[<-keyLt'_oneType];refine PySem.W.kat_lt_int ?_;unfold g9 at h;rw[if_neg e1]at h;exact h
theorem Gz{e e1:Nat}{ku vs:List zg}(hl:ku.length=vs.length)(td:vs.length<64)(hq:qs.length=ku.length)(hk:∀(i:Nat) q,qs[i]? =some q->∃u,ku[i]? =some u/\t9 s.heap u q)
 (ho1:s.heap.get? kS=some (zO "list" (zI ku) e)) (sj:s.heap.get? a=some (zO "list" #[] e1)) (ne:a≠kS)
 (h:∀(h':Heap) (e':Nat),(∀b o,b∉ [a,kS]->s.heap.get? b=some o->h'.get? b=some o)->h'.get? a=some (zO "list" (zI ((S8 qs vs.length).map λi=>vs.getD i Value.none)) e')->P (.done (.ret .none)) {s with heap:=h'}):
 zo (zA prog w) A (ksk_end a false vs.toArray e1 (.ref kS) (zI ku)) P E s:=by
 unfold ksk_end
 try dsimp only
 simp only[zy,if_false];by_cases h2:vs.toArray.size<2
 · rw[if_pos h2,if_pos h2];refine za (ze ?_);rw[Yp];refine za (ze ?_);dsimp only;have hv:(Yy (Jt general' ((zI ku).zip vs.toArray) #[] 7 none)).map (·.2)=zI ((zE vs.length).map λi=>vs.getD i Value.none):=by
    show ((zI ku).zip vs.toArray).map (·.2)=_;apply xo.mp;rw[Yi];apply yr
    ·simp[hl]
    ·intro i hi hj;simp at hi hj ⊢;simp[hj]
   have:vs.length<2:=by simpa using h2
   refine sG hv (by simp;lia) (by lia) rfl ho1 sj ne λh' e' k1 k2=>h h' e' k1 (by rw[S8,if_pos this];exact k2)
 · rw[if_neg h2,if_neg h2];have hn2:2<=vs.length:=by simpa using h2
   have gq:∀i,i<vs.length->qs[i]? =some (qs.getD i (0,0)):=λi hi=>by rw[zp,zq (by lia)];rfl
   obtain⟨fs,T,hfs,hT⟩:∃fs:List zg,xT s.heap ku fs/\0<fs.length/\∀v∈fs,∃n t,v= .int n t:=by
    have gen:∀(ku:List zg) (qs:List (Int×Int)),qs.length=ku.length->(∀(i:Nat) (q:Int×Int),qs[i]? =some q->∃u,ku[i]? =some u/\t9 s.heap u q)->∃fs:List zg,xT s.heap ku fs/\fs.length=ku.length/\∀v∈fs,∃n t,v= .int n t:=by
     intro ku
     induction ku with
     |nil=>exact λqs _ _=>⟨[],trivial,rfl,λv hv=>by cases hv⟩
     |cons u r ih=>
       intro qs hl hk;rcases qs with _|⟨q,qr⟩
       ·simp at hl
       ·
         obtain⟨u',e1,ad,t,t',rfl,o,ho,hc,n,hd⟩:=hk 0 q rfl;simp at e1;subst e1;obtain⟨fs,f1,f2,f3⟩:=ih qr (by simpa using hl) λi q hq=>by simpa using hk (i+1) q (by simpa using hq)
         refine⟨.int q.1 t::fs,ZO ho hc hd rfl f1,by simp[f2],λv hv=>?_⟩;rcases zr.mp hv with rfl|hv
         ·exact⟨_,_,rfl⟩
         ·exact f3 v hv
    obtain⟨fs,f1,f2,f3⟩:=gen ku qs hq hk;exact⟨fs,f1,by lia,f3⟩
   refine za (XA (T:=.type "int") T hfs (λv hv=>?_) (by decide) ?_)
   ·obtain⟨n,t,rfl⟩:=hT v hv;exact ZN rfl
   · have run:=tOk.wp (s:=s) (cmp:=xu prog w A (tuples' (Value.type "int" != Value.type "tuple")) ku) (λi j C hi hj hC=>by
      obtain⟨u,u1,u2⟩:=hk i _ (gq i hi);obtain⟨v,v1,v2⟩:=hk j _ (gq j hj);unfold xu;rw[zp,zp,u1,v1];exact lP u2 v2 hC) _ (tOk.run _ (tK (UJ qs) hn2))
     refine za (jE (Yk (Q:=λsh s'=>∃p:Array Nat,p.size=vs.length/\Yy sh=p.map (Ya ((zI ku).zip vs.toArray))/\YU sh=none/\s'=s/\p=E8 (ltP qs) (xM vs.length)/\J2 p vs.length/\upW (ltP qs) p vs.length) hl hn2 td (λp sh s' a1 a2 a3 a4=>⟨p,a1,a2,a3,a4⟩) run) ?_ λ_ _ x=>x);rintro⟨⟨⟩,sh⟩ s' ⟨p,hp,har,hf,rfl,rfl,P1,U⟩
     try dsimp only
     exact sG (ZY hl har) (by rw[zf,zF,hp];exact td) (by lia) hf ho1 sj ne λh' e' k1 k2=>h h' e' k1 (by rw[S8,if_neg (by lia)];exact k2)
end
section
variable{X:Cx}{Z:XC}{pins:PNS}{σ:St}{H:Hp}{s:zw}{F:List D->M D}{k:Nat}{f:Addr}{fd:xV}{ps:List Str}{μ:List Addr}{G:DH}
theorem tM(rl:j6 (wc X) μ H l ws)(rv:m7 ws vs):
 ∃ws',m7 ws' ((S8 qs vs.length).map λi=>vs.getD i Value.none)/\j6 (wc X) μ H (l9 qs l) ws'/\ws'.length=vs.length:=by
 have hlv:l.length=vs.length:=by rw[rl.length,rv.length]
 have hp:=(QF qs vs.length).1;have main:∀p:List Nat,(∀i∈p,i<vs.length)->∃ws',m7 ws' (p.map λi=>vs.getD i Value.none)/\j6 (wc X) μ H (p.map λi=>l.getD i .non) ws'/\ws'.length=p.length:=by
  intro p
  induction p with
  |nil=>exact λ_=>⟨[],.nil,rfl,rfl⟩
  |cons i r ih=>
    intro hi;obtain⟨ws',a1,a2,a3⟩:=ih λj hj=>hi j (zl _ hj);have li:=hi i (by simp);have gl:l[i]? =some (l.getD i .non):=by rw[zp,zq (by lia)];rfl
    obtain⟨v,e1,r1⟩:=rl.get (i:=i) gl;obtain⟨u,e2,r2⟩:=rv.get e1;refine⟨v::ws',?_,⟨v,ws',rfl,r1,a2⟩,by simp[a3]⟩;have:vs.getD i Value.none=u:=by rw[zp,e2];rfl
    rw[zH,this];exact .cons r2 a1
 obtain⟨ws',a1,a2,a3⟩:=main _ λi hi=>by simpa using hp.mem_iff.mp hi
 exact⟨ws',a1,by unfold l9;rw[hlv];exact a2,by rw[a3,hp.length_eq];simp⟩
theorem Vx{Q:VK}(hF:F1 X.prog X.w X.K X.mg X.base CX0 k f fd ps (spD (wc X) 1 F))(hb:P3 X.K fd ps [])(hrm:P0 (k+2) X.A)(I:Inv X pins σ H s)(hr:m8 (wc X) μ G H)(td:l.length<64)
 (hcol:∀Q',(∀(h1:Heap) (tk:Nat) vs ws,(∀b o,s.heap.get? b=some o->h1.get? b=some o)->m7 ws vs->j6 (wc X) μ H l ws->Q' vs {s with heap:=h1,toks:=tk})->zo (zA X.prog X.w) X.A.in1 (collect u) Q' X.xe s)
 (p:c7 (wc X) Z μ H (F9 F l G) (λd X2 _ H'=>∀v,d7 (wc X) X2 H' d v->Q v H')):zo (zA X.prog X.w) X.A (call (.builtin "sorted") [u] [(jh "key",.ref f)]) (EP X pins σ Q) X.xe s:=by
 refine call_function_entry_kw XD Xd Xe (ksk_s1 _ _) ?_;unfold jQ.«sorted»;refine za (m:=checkCount "sorted" 1 1 _) (ze ?_);refine za (hcol _ λh1 tk vs ws k1 rv rl=>?_);have hlv:l.length=vs.length:=by rw[rl.length,rv.length]
 refine za (xr ?_ (by rw[jl];lia));have I1:Inv X pins σ H {s with heap:=h1,toks:=tk}:=I.kept k1;have hoL:(h1.push (zO "list" vs.toArray 0)).get? h1.objs.size=some (zO "list" vs.toArray 0):=zn _ rfl;refine za (jt (wpAny_call_entry_kw Yh ⟨_,hoL,rfl⟩ ZR ?_ (ksk_l1 _ _)));show zo (zA X.prog X.w) X.A.in1.in1 (jQ.«list.sort» ⟨[.ref h1.objs.size], [(jh "key",.ref f)]⟩) _ _ _;rw[ksk_t1];unfold ksk_tree;refine za (Yc hoL rfl ?_);refine za (yi hoL rfl ?_ (by rw[zk,jl];lia) (zL _));obtain⟨e1,ho1⟩:∃e1,((h1.push (zO "list" vs.toArray 0)).update h1.objs.size (zP λ_=>(#[]:Array zg))).get? h1.objs.size=some (zO "list" #[] e1):=⟨_,xl hoL λ_=> #[]⟩;refine za (xX ho1 rfl ?_);refine za (Zm ?_ (by show vs.length<=_;rw[jl];lia));refine za (xr ?_ (zL _));refine jt ?_;have hsz:((h1.push (zO "list" vs.toArray 0)).update h1.objs.size (zP λ_=>(#[]:Array zg))).objs.size=h1.objs.size+1:=by rw[Heap.size_update,Jl]
 have hkS:(((h1.push (zO "list" vs.toArray 0)).update h1.objs.size (zP λ_=>(#[]:Array zg))).push (zO "tuple" vs.toArray 0)).objs.size=h1.objs.size+2:=by rw[Jl,hsz]
 have keep:∀b o,h1.get? b=some o->((((h1.push (zO "list" vs.toArray 0)).update h1.objs.size (zP λ_=>(#[]:Array zg))).push (zO "tuple" vs.toArray 0)).push (zO "list" #[] 0)).get? b=some o:=λb o q=>by have sd:b<h1.objs.size:=zt q;rw[xi _ _ _ (by rw[hkS];exact zC (jT (jT sd))),xi _ _ _ (by rw[hsz];exact zC (jT sd)),jq _ _ _ _ (zC sd),xi _ _ _ (zC sd)];exact q
 have I2:Inv X pins σ H {s with heap:=(((h1.push (zO "list" vs.toArray 0)).update h1.objs.size (zP λ_=>(#[]:Array zg))).push (zO "tuple" vs.toArray 0)).push (zO "list" #[] 0),toks:=tk}:=I1.kept keep;have na:H h1.objs.size=none:=I1.hok.fresh (zh _);have nk:H (h1.objs.size+2)=none:=I1.hok.fresh (xS _ _);have ga:((((h1.push (zO "list" vs.toArray 0)).update h1.objs.size (zP λ_=>(#[]:Array zg))).push (zO "tuple" vs.toArray 0)).push (zO "list" #[] 0)).get? h1.objs.size=some (zO "list" #[] e1):=zc _ (zc _ ho1);have gk:((((h1.push (zO "list" vs.toArray 0)).update h1.objs.size (zP λ_=>(#[]:Array zg))).push (zO "tuple" vs.toArray 0)).push (zO "list" #[] 0)).get? (h1.objs.size+2)=some (zO "list" (zI []) 0):=by rw[<-hkS];exact zn _ rfl
 have fa:∀H':Hp,H' h1.objs.size=none->A1 X pins H' h1.objs.size:=λH' hn=>I1.fpOk (zh _) hn;have fk:∀H':Hp,H' (h1.objs.size+2)=none->A1 X pins H' (h1.objs.size+2):=λH' hn=>I1.fpOk (xS _ _) hn;have ne:h1.objs.size≠h1.objs.size+2:=by lia
 unfold F9 at p;have pk:c7 (wc X) ZF μ H (Q9 F l G) (λks X2 G' H'=>ks.length=l.length/\c7 (wc X) Z X2 H' ((U1 (d4 ks) >>= λqs=>J5 (.lst (l9 qs l))) G') (λd X2 _ H'=>∀v,d7 (wc X) X2 H' d v->Q v H')):=by
  have q:=c7.bind p;have hkl:∀(l:List D) (G:DH) (ks:List D) (G':DH),Q9 F l G=some (.ok ks,G')->ks.length=l.length:=by
   intro l
   induction l with
   |nil=>intro G ks G' z;cases z;rfl
   |cons d r ih=>
     intro G ks G' z;unfold Q9 at z;rw[M.bind_eq]at z
     match h:noX (F [d]) G,z with
     |some (.ok kk,G1),z=>
       dsimp only at z;rw[M.bind_eq]at z
       match h2:Q9 F r G1,z with
       |some (.ok ks,G2),z=>
         cases z
         simp[ih _ _ _ h2]
  have kne:∀(l:List D) (G:DH) (x:Str) (G':DH),Q9 F l G≠some (.error x,G'):=by
   intro l
   induction l with
   |nil=>intro G x G' z;cases z
   |cons d r ih=>
     intro G x G' z;unfold Q9 at z;rw[M.bind_eq]at z;have nx:∀x G',noX (F [d]) G≠some (.error x,G'):=λx G' z=>by
      unfold noX at z
      try dsimp only at z
      split at z<;>cases z
     match h:noX (F [d]) G,z with
     |some (.error y,G1),z=>exact nx _ _ h
     |some (.ok kk,G1),z=>
       dsimp only at z;rw[M.bind_eq]at z
       match h2:Q9 F r G1,z with
       |some (.error y,G2),z=>exact ih _ _ _ h2
       |some (.ok ks,G2),z=>cases z
  match hh:Q9 F l G,q with
  |some (.ok ks,G1),q=>exact λX2 H' x h=>⟨hkl _ _ _ _ hh,q X2 H' x h⟩
  |some (.error x,G1),q=>exact(kne _ _ _ _ hh).elim
 rw[hkS];show zo (zA X.prog X.w) X.A.in1.in1 (ksk_rest h1.objs.size (.ref f) false vs.toArray e1 (.ref (h1.objs.size+2))) _ _ _;unfold ksk_rest;refine za (xE ?_)
 first
  |rw[List.forIn_toArray]
  |(rw[<-xw];simp only[List.toList_toArray])
  |rw[<-xw]
 refine za (sK (X:=X) (pins:=pins) (σ:=σ) (A:=X.A.in1.in1) hF hb hrm.in1.in1 rfl ⟨rfl,rfl⟩ fa fk ne (λx s0 R hx=>?_) l ws vs [] [] [] 0 μ G H _ rl rv rfl .nil hr I2 gk ga na nk (by simp;lia) ?_)
 · refine za (yD (jE hx (λkv s'' hk=>?_) λ_ _ hF=>hF.elim));obtain⟨ks,e,hks,g,hR⟩:=hk
   try dsimp only
   refine za (yi g rfl ?_ (by rw[zk,jl];lia) (zS (XT (Array.size_push ..)) (by rw[zk,jl];lia)));exact ze ⟨rfl,hR⟩
 · refine pk.mono λks X2 G' H' x1 hr1 ⟨hks,p1⟩ s' kv ku e' _ _ q1 q2 I' g1 g2 n1 n2=>?_;rw[Jw]at q1;obtain⟨qs,eq,p2⟩:=O5 p1;obtain⟨tz,hk1⟩:=CH I' eq q1 q2
   try dsimp only
   refine za (Yc g1 rfl ?_);have hkv:ku.length=vs.length:=by rw[<-q2.length,<-q1.length,hks,hlv]
   refine Gz hkv (by lia) tz hk1 g1 g2 ne λh' e2 keep2 gg=>?_;have si:j6 (wc X) X2 H' l ws:=rl.mono x1;obtain⟨ws',a1,a2,a3⟩:=tM (qs:=qs) si rv;refine⟨_,rfl,ze ⟨_,rfl,.ref h1.objs.size,upd H' h1.objs.size (.lst ws'),GS (t':=s'.toks) (ch:= [h1.objs.size,h1.objs.size+2]) I' (λb hb=>?_) (by simp) keep2 ⟨by rw[a3,jl];lia,_,e2,a1,gg⟩,rfl,O6 hr1 a2 p2 _ n1⟩⟩;rcases zr.mp hb with rfl|hb
   ·exact fa _ n1
   ·rw[zm]at hb;subst hb;exact fk _ n2
theorem lX(hc:X.calm=true)(hF:F1 X.prog X.w X.K X.mg X.base CX0 k f fd ps (spD (wc X) 1 F))(hb:P3 X.K fd ps [])(hrm:P0 (k+2) X.A)(I:Inv X pins σ H s)(hr:m8 (wc X) μ G H)(rd:d7 (wc X) μ H d v)(ru:t6 v u)
 (p:c7 (wc X) Z μ H (TD F d G) (λd X2 _ H'=>∀v,d7 (wc X) X2 H' d v->Q v H')):zo (zA X.prog X.w) X.A (call (.builtin "sorted") [u] [(jh "key",.ref f)]) (EP X pins σ Q) X.xe s:=by
 have seq:∀ {a:Addr} {T:String} {o:Obj} {qu:List zg} {vs:List V} {n:Nat} {l:List D},(T= "list"\/T= "tuple")->s.heap.get? a=some o->o.cls= .type T->o.data= .seq qu.toArray n->m7 vs qu->j6 (wc X) μ H l vs->vs.length<=zi->
  c7 (wc X) Z μ H ((if l.length<64 then F9 F l else M.stuck:M D) G) (λd X2 _ H'=>∀v,d7 (wc X) X2 H' d v->Q v H')->zo (zA X.prog X.w) X.A (call (.builtin "sorted") [.ref a] [(jh "key",.ref f)]) (EP X pins σ Q) X.xe s:=by
  intro a T o qu vs n l hT h1 h2 h3 rv rl hz p;split at p
  case isFalse=>exact p.elim
  rename_i td;refine Vx hF hb hrm I hr td (λQ' hQ=>Yt a hT h1 h2 h3 (λh' kk=>?_) (by rw[zk,<-rv.length];exact hz)) p;exact hQ h' s.toks qu vs kk rv rl
 unfold TD at p;split at p
 · rename_i l;unfold d7 at rd;obtain⟨a,vs,rfl,q,rl⟩:=rd
   cases ru
   obtain⟨qu,rv,⟨o,h1,h2,n,h3⟩,hz⟩:=I.tuple q;exact seq (.inr rfl) h1 h2 h3 rv rl hz p
 · rename_i i;unfold d7 at rd;obtain⟨a,m,rfl⟩:=rd
   cases ru
   obtain⟨o,g,p1⟩:=G9 p;have ro:=hr.obj i o a g m;rcases o with l|l|l|l
   ·
     obtain⟨vs,q,rl⟩:=ro;obtain⟨qu,rv,pl,hz⟩:=I.list (SqL.of q);obtain⟨o,h1,h2,n,h3⟩:=pl.isList;exact seq (.inl rfl) h1 h2 h3 rv rl hz p1
   ·exact p1.elim
   ·exact p1.elim
   ·exact p1.elim
 ·exact p.elim
end
section
variable{X:Cx}{Z:XC}{e:Expr}{fe:Fe}{p pf kp pos:Pos}{x:Str}{F:List D->M D}
theorem kf(hc:X.calm=true)(hF:∃k kk,sA F 1 x X.prog X.w X.K X.mg X.base k/\P0 kk X.A/\k+2<=kk)(uk:BLs X.mg)(hgs:Gl X "sorted")(hg:Gl X x)(he:DE X Z e fe)(hs:O1 e=true)(hdb:(x==("__debug__" :Str))=false):
 DE X Z (.Call (.Name "sorted" p) [e] [⟨some "key",.Name x pf,kp⟩] pos) (CD F fe):=⟨by
 intro pins s σ H Q I h;obtain⟨k,kk,hF,hrm,hk⟩:=hF;obtain⟨f,fd,ps,f1,f2,f3,f4⟩:=hF.ex;have hbs:jb ("sorted" :Str)=some (.builtin "sorted"):=vE;refine xc (D6 I hgs (uk.h _ (by decide +kernel)) hbs ?_ (by decide) (by decide));obtain⟨X9,μ,G,sr,hr,pp⟩:=h;unfold CD at pp;have pa:=c7.bind pp;have hst:zX [e] X.env= (false,eval e X.env)::zX [] X.env:=T8 hs;refine callWith_builtin_kwB (by rw[eD];exact IB (by rw[jX,hs];rfl)) rfl (evalArgs_kw2 rfl ?_ hst);have ha:DA X Z [e] (x0 fe o0):=mJ he KJ hst;refine thn (ha.h pos pins s σ H (λvs H1=>∃v d X0 G1,vs= [v]/\d7 (wc X) X0 H1 d v/\m8 (wc X) X0 G1 H1/\c7 (wc X) Z X0 H1 (TD F d G1) (λd X2 _ H'=>∀v,d7 (wc X) X2 H' d v->Q v H')) I ?_) λus s1 ⟨vs,H1,I1,r1,v,d,X0,G1,e1,rd,hr1,p1⟩=>?_
 · refine⟨X9,μ,G,sr,hr,?_⟩;show c7 (wc X) Z μ H ((fe X9 >>= λy=>(pure [y]:M (List D))) G) _
   match hm:fe X9 G,pa with
   |some (.ok y,G1),pa=>
     rw[M.bind_ok hm];intro X2 H' x1 h1 vs rv;obtain⟨v,ev,rv2⟩:=Q2 rv;subst ev;exact⟨v,y,X2,G1,rfl,rv2,h1,pa X2 H' x1 h1⟩
   |some (.error y,G1),pa=>
     rw[M.bind_eq,hm];exact pa
 ·subst e1;obtain⟨u,rfl,ru⟩:=Z9 r1;show zo _ _ (evalAll [(do let v <-eval (.Name x pf) X.env;standAt pos;pure v)]) _ _ s1;refine wpAny_evalAll_cons (za (pE I1 hg f2 (za (YB (ze (wpAny_evalAll_nil ?_)))) hdb));exact lX hc f1 f4 (hrm.mono hk) I1 hr1 rd ru p1⟩
end
section
variable{prog:zV}{w:je}{A:jm}{E:VSP}{s:zw}
end
section
variable{X:Cx}{Z:XC}{es:List Expr}{pos:Pos}
end
section
variable{X:Cx}{Z:XC}
end
def L7:List D->M D:=λds=>match ds with
 |[.int n]=>if n.natAbs.log2<1920 then pure (.str (jh (toString n)))else M.stuck
 |_=>M.stuck
def iA:List D->M D:=λds=>match ds with
 |[.int i]=>pure (.int i)
 |[.bl k]=>pure (.int (if k then 1 else 0))
 |[.str z]=>match intText? z with
   |some n=>if z.length<=640 then pure (.int n)else M.stuck
   |none=>M.stuck
 |_=>M.stuck
def Z7(z p:Str)(i:Int):Bool:=decide (fromIndex z.length i+p.length<=z.length)&&YT z p (fromIndex z.length i)
def startsD:D->List D->M D:=λx ds=>match x,ds with
 | .str z, [.str p,.int i]=>pure (.bl (Z7 z p i))
 |_,_=>M.stuck
def w5:Fs:=λ_=>M.stuck
section
variable{X:Cx}{Z:XC}
theorem PZ:O7 X Z (.type "str") L7:=⟨by
 intro pins s σ H xs us Q I r rc;obtain⟨ds,μ,G,rl,hr,p⟩:=rc;rcases ds with _|⟨_|_|n|_|_|_|_|_,_|⟨_,_⟩⟩<;>try exact p.elim
 obtain⟨v,rfl,rv⟩:=Q2 rl;obtain⟨u,rfl,ru⟩:=Z9 r;rw[T7 rv]at ru;obtain⟨t,rfl⟩:=ru;have p:c7 (wc X) Z μ H ((if n.natAbs.log2<1920 then pure (.str (jh (toString n)))else M.stuck:M D) G) _:=p;split at p
 case isFalse=>exact p.elim
 rename_i hn;exact PySem.P.str_of_int hn ⟨.str (jh (toString n)),H,I.tok _,⟨_,rfl⟩,c7.ok p hr _ (by unfold d7;rfl)⟩⟩
theorem DX:O7 X Z (.type "int") iA:=⟨by
 intro pins s σ H xs us Q I r rc;have hE:=rc;obtain⟨ds,μ,G,rl,hr,p⟩:=rc;rcases ds with _|⟨_|b|n|z|_|_|_|_,_|⟨_,_⟩⟩<;>try exact p.elim
 ·exact(NL (X:=X) (Z:=Z)).h pins s σ H xs us Q I r ⟨_,μ,G,rl,hr,p⟩
 ·exact(NL (X:=X) (Z:=Z)).h pins s σ H xs us Q I r ⟨_,μ,G,rl,hr,p⟩
 · obtain⟨v,rfl,rv⟩:=Q2 rl;obtain⟨u,rfl,ru⟩:=Z9 r;rw[Q1 rv]at ru;obtain⟨t,rfl⟩:=ru;have p:c7 (wc X) Z μ H ((match intText? z with|some n=>if z.length<=640 then pure (.int n)else M.stuck|none=>M.stuck:M D) G) _:=p;rcases hz:intText? z with _|n
   ·rw[hz]at p;exact p.elim
   · rw[hz]at p;have p:c7 (wc X) Z μ H ((if z.length<=640 then pure (.int n)else M.stuck:M D) G) _:=p;split at p
     case isFalse=>exact p.elim
     rename_i hl;exact PySem.W.KIN.call_text hz hl ⟨.int n,H,I.tok _,⟨_,rfl⟩,c7.ok p hr _ ofI⟩⟩
theorem QX(_:X.calm=true):BD L7 "str" X Z:=⟨.inr ⟨_,PZ,qd⟩⟩
theorem FZ(_:X.calm=true):BD iA "int" X Z:=⟨.inr ⟨_,DX,Qv⟩⟩
theorem Np:MtD X Z "str.startswith" startsD:=by
 intro pins s σ H x xs v us Q I rx rvs rc;obtain⟨d,ds,μ,G,rd,rl,hr,p⟩:=rc;unfold startsD at p;split at p
 ·rename_i z q i;rw[Q1 rd]at rx;obtain⟨t,rfl⟩:=rx;obtain⟨v1,v2,rfl,r1,r2⟩:=sF rl;obtain⟨u1,u2,rfl,s1,s2⟩:=KC rvs;rw[Q1 r1]at s1;rw[T7 r2]at s2;obtain⟨t1,rfl⟩:=s1;obtain⟨t2,rfl⟩:=s2;exact call_gives F.slot_str_startswith (typeIs_str _ _ _) F.entry_str_startswith (F.args_str_startswith_3 _ _ _) (gives_str_startswith_from z q i t t1 t2) (show (PySem.Made.val _).post _ s from⟨.bl (Z7 z q i),H,I,rfl,c7.ok p hr _ (by unfold d7;rfl)⟩)
 ·exact p.elim
theorem ka{st:Stmt}:DS X Z st w5:=⟨by
 intro pins s σ H E I rc;obtain⟨X9,μ,G,sr,hr,p⟩:=rc;exact p.elim⟩
end
section
variable{prog:zV}{w:je}{A:jm}{E:VSP}{s:zw}
end
section
variable{prog:zV}{w:je}{A:jm}{E:VSP}{s:zw}
end
theorem L6:Slot "set_iterator" "__next__" "set_iterator.__next__":=.of (owner:= "set_iterator") (n:= "__next__") (by rw[yR,yb];kernel_rfl) (by decide +kernel) (by decide +kernel) (by decide +kernel) (by first|exact .inl (by decide +kernel)|exact .inr (by decide +kernel)) (by rw[xg];kernel_rfl)
theorem KN:Slot "set_iterator" "__iter__" "set_iterator.__iter__":=.of (owner:= "set_iterator") (n:= "__iter__") (by rw[yR,yb];kernel_rfl) (by decide +kernel) (by decide +kernel) (by decide +kernel) (by first|exact .inl (by decide +kernel)|exact .inr (by decide +kernel)) (by rw[xg];kernel_rfl)
theorem lG:Xy table "set_iterator.__next__" =some jQ.«set_iterator.__next__»:=YR (by kernel_rfl)
theorem MX:Xy table "set.__iter__" =some jQ.«frozenset.__iter__»:=entryFor_alias (id':= "frozenset.__iter__") (by kernel_rfl) rfl (by decide +kernel) (by kernel_rfl)
theorem dG(a:zg):Xz "set_iterator.__next__" ⟨[a], []⟩:=by unfold Xz;kernel_rfl
theorem Mq(a:zg):Xz "set_iterator.__iter__" ⟨[a], []⟩:=by unfold Xz;kernel_rfl
theorem sU:Xy table "set_iterator.__iter__" =some jQ.«dict_keyiterator.__iter__»:=entryFor_alias (id':= "dict_keyiterator.__iter__") (by kernel_rfl) rfl (by decide +kernel) (by kernel_rfl)
section
variable{prog:zV}{w:je}{A:jm}{E:VSP}{s:zw}
theorem az(hT:s.TypeIs (.ref r) "set")(h:Q false s):zo (zA prog w) A (xt (.ref r)) Q E s:=by
 unfold xt;refine za (xL hT PySem.F.slot_set_len.lookup ?_);generalize hq:("set.__len__" :String)=id1
 wp_delta
 rw[show splitId id1=some ("set", "__len__")from by subst hq;decide +kernel];subst hq;refine za (xx (T:= "set") (b:=true) hT (by rw[xg];kernel_rfl) ?_);refine jR (λz=>absurd z (by decide)) (λ_=>?_);refine jR (λ_=>?_) (λz=>absurd (by decide +kernel) z);exact za (xD hT (ze h))
end
theorem Gg:jb "set" =some (.type "set"):=by decide +kernel
section
variable{X:Cx}{Z:XC}{c:Wc}{μ:List Addr}{H:Hp}{G:DH}
end
section
variable{X:Cx}{Z:XC}{ea eb:Expr}{fa fb:Fe}{p p1 p2 q1 q2 q3 pos:Pos}
end
def Mz(A:jm)(s:zw)(y x:zg)(b:Bool):Prop:=
 ∀(prog:zV) (w:je) (E:VSP) (Q:VSP),Q (.bool b) s->zo (zA prog w) A (richCompare .GtE y x) Q E s
inductive GeR(A:jm)(s:zw):List zg->List zg->Bool->Prop
 |nil:GeR A s [] [] true
 |eq {x y xs ys b}:yj A s x y true->GeR A s xs ys b->GeR A s (x::xs) (y::ys) b
 |ne {x y xs ys b}:yj A s x y false->Mz A s x y b->GeR A s (x::xs) (y::ys) b
section
open PySem.SeqAt
open PySem.AutoSeq1 (wpAny_loadPart')
open PySem.MeetsSeq PySem.MeetsSeq2 PySem.MeetsSeq3
end
section
variable{X:Cx}{Z:XC}
end
def aO:Fe:=λ_=>M.stuck
section
theorem LZ:DE X Z e aO:=⟨by
 intro pins s σ H Q I rc;obtain⟨X9,μ,G,sr,hr,p⟩:=rc;exact p.elim⟩
end
section
variable{X:Cx}{Z:XC}{pins:PNS}{σ:St}{k:Nat}{f:Addr}{fd:xV}{ps:List Str}{F:List D->M D}{A:jm}
end
section
variable{X:Cx}{Z:XC}{F:List D->M D}{x:Str}{e:Expr}{fe:Fe}{p pf kp pos:Pos}
end
section
variable{prog:zV}{w:je}{A:jm}{E:VSP}{s:zw}{K:Type}[DecidableEq K]{knd:KeyKind prog w K}
end
section
variable{X:Cx}{Z:XC}{ea:Expr}{fa:Fe}{p q1 ap pos:Pos}
end
inductive CdE(w:je)(K:zj)(mg:Str->Option zg):List DictEntry->List (Str×D)->Prop
 |nil:CdE w K mg [] []
 |cons {z:Str} {t:Tok} {u:zg} {d:D} {es:List DictEntry} {tb:List (Str×D)} (h:CR K mg d u) (r:CdE w K mg es tb):CdE w K mg ({hash:=yx w.params z,key:=.str z t,val:=u}::es) ((z,d)::tb)
structure gJ(w:je)(K:zj)(mg:Str->Option zg)(x:Str)(tb:List (Str×D)):Prop where
 ex:∃a es n,mg x=some (.ref a)/\K.lookup a=some ⟨.type "dict",none,.dict (zI es) n, #[]⟩/\CdE w K mg es tb
 nd:(tb.map (·.1)).Nodup
def KF:List (Str×D)->Str->Option D
 |[],_=>none
 |(y,d)::r,z=>if y=z then some d else KF r z
def ixC(x:Str)(tb:List (Str×D)):D->D->M D:=λa b=>match a,b with
 | .fn y,.str z=>if y=x then U1 (KF tb z)else M.stuck
 |_,_=>M.stuck
theorem CdE.kv{w:je}{K:zj}(h:CdE w K mg es tb):∃rb:List (Key×zg),Pairs (u5 P w) es rb/\(∀e∈es,∃k,(u5 P w).is k e.key=true/\e.hash= (u5 P w).hash k)/\rb.map (·.1)=tb.map (λp=>(.inr p.1:Key))/\∀z d,KF tb z=some d->∃u,YZ rb (.inr z)=some u/\CR K mg d u:=by
 induction h with
 |nil=>exact⟨[],.nil,λ_ h=>(nomatch h),rfl,λ_ _ h=>by cases h⟩
 |@cons z t u d es tb h r ih=>
   obtain⟨rb,h1,h2,h3,h4⟩:=ih;refine⟨(.inr z,u)::rb,.cons (AH z t) rfl h1,λe he=>?_,by rw[zH,zH,h3],λy d' e=>?_⟩
   · rcases zr.mp he with rfl|he
     ·exact⟨.inr z,AH z t,rfl⟩
     ·exact h2 e he
   · unfold KF at e;by_cases c:z=y
     · rw[if_pos c]at e
       cases e
       refine⟨u,?_,h⟩;subst c;simp[YZ]
     ·rw[if_neg c]at e;obtain⟨u',e1,e2⟩:=h4 y d' e;refine⟨u',?_,e2⟩;have:¬(Sum.inr z:Key)=Sum.inr y:=λq=>c (Sum.inr.inj q);simp only[YZ,yN,this,decide_false]at e1 ⊢;exact e1
section
variable{X:Cx}{Z:XC}{b:Expr}{fb:Fe}{x:Str}{tb:List (Str×D)}{p pos:Pos}
theorem cY(hc:gJ X.w X.K X.mg x tb):IxD X Z (ixC x tb):=by
 intro value slice pins s σ H vx vy v u Q I rx ry h hs;obtain⟨dx,dy,μ,G,sk,su,hr,pp⟩:=h;unfold ixC at pp;split at pp
 · rename_i y z;split at pp
   · rename_i e;subst e;obtain⟨d,ed,k⟩:=VJ hr pp;unfold d7 at sk;obtain⟨a',em,rfl⟩:=sk;obtain⟨a,es,n,hm,hl,ce⟩:=hc.ex;have ea:a'=a:=by
      have:=em.symm.trans hm;injection this with this;injection this
     subst ea;obtain⟨rb,h1,h2,h3,h4⟩:=ce.kv (P:=X.prog);obtain⟨w',e1,v',rv',rp⟩:=h4 z d ed
     cases rx
     have dd:s.heap.DictOf (u5 X.prog X.w) a' rb:=⟨_,_,_,I.kIn _ _ hl,⟨rfl,rfl,rfl⟩,rfl,λe he=>h2 e (by simpa using he),by simpa using h1,by
      rw[h3];have:tb.map (λp=>(.inr p.1:Key))= (tb.map (·.1)).map Sum.inr:=by rw[jg];rfl
      rw[this];exact List.Pairwise.map Sum.inr (λa b h e=>h (Sum.inr.inj e)) hc.nd⟩
     rw[Q1 su]at ry;exact Xc (x:=w') dd.typeIs PySem.F.slot_dict_getitem.lookup (wpAny_getItem_of (Q:=λr s'=>r=w'/\EP X pins σ Q r s') (uC (k:=.inr z) ry) dd.mapOf e1 ⟨rfl,v',H,I.tok _,rv',k v' (rp μ H)⟩) hs
   ·exact pp.elim
 ·exact pp.elim
theorem ak(hc:gJ X.w X.K X.mg x tb)(hg:Gl X x)(hdb:(x==("__debug__" :Str))=false)(hb:DE X Z b fb)(hs:aF b):DE X Z (.Subscript (.Name x p) b pos) (binE (ixC x tb) (cE (.fn x)) fb):=
 PP (cY hc) ⟨by
  intro pins s σ H Q I h;obtain⟨a,_,_,hm,_,_⟩:=hc.ex;obtain⟨X9,μ,G,sr,hr,pp⟩:=h;exact pE I hg hm ⟨.ref a,H,I,rfl,c7.ok pp hr _ ⟨a,hm,rfl⟩⟩ hdb⟩ hb hs
end
mutual
def pyD:D->PyData
 | .non=>.none
 | .bl b=>.bool b
 | .int i=>.int i
 | .str x=>.str x
 | .tup l=>.tuple (pyL l)
 | .ref _=>.none
 | .fn _=>.none
 | .ty _=>.none
def pyL:List D->List PyData
 |[]=> []
 |d::r=>pyD d::pyL r
end
mutual
def lC:D->Bool
 | .non=>true
 | .bl _=>true
 | .int _=>true
 | .str _=>true
 | .tup l=>oG l
 | .ref _=>false
 | .fn _=>false
 | .ty _=>false
def oG:List D->Bool
 |[]=>true
 |d::r=>lC d&&oG r
end
mutual
theorem Kb:∀d:D,(pyD d).hasDict=false
 | .non=>rfl
 | .bl _=>rfl
 | .int _=>rfl
 | .str _=>rfl
 | .tup l=>by unfold pyD;exact VR l
 | .ref _=>rfl
 | .fn _=>rfl
 | .ty _=>rfl
theorem VR:∀l:List D,PyData.hasDictAll (pyL l)=false
 |[]=>rfl
 |d::r=>by unfold pyL;show ((pyD d).hasDict||PyData.hasDictAll (pyL r))=false;rw[Kb d,VR r];rfl
end
section
variable{X:Cx}{Z:XC}{pins:PNS}{σ:St}{H:Hp}{s:zw}
theorem CV(I:Inv X pins σ H s)(q:SqT X.K H a vs):∃o qu n,s.heap.get? a=some o/\o.cls= .type "tuple"/\o.data= .seq qu n/\m7 vs qu.toList:=by
 rcases q with q|⟨o,qu,n,hl,hc,hd,_,hv⟩
 ·obtain⟨_,qu,hv,o,e,c,n,d⟩:=(show O4 X.prog X.w H s.heap a (.tup vs)from kJ I.hok q);exact⟨o,qu.toArray,n,e,c,(xI d).1,by simpa using hv⟩
 ·exact⟨o,qu,n,I.kIn _ _ hl,hc,(xI hd).1,hv⟩
mutual
theorem Ww(I:Inv X pins σ H s):∀d {v} {u},lC d=true->d7 (wc X) μ H d v->t6 v u->∃as,Reads s.heap u (pyD d) as
 | .non,v,u,_,r,q=>by unfold d7 at r;subst r;cases q;exact⟨_,.none⟩
 | .bl b,v,u,_,r,q=>by unfold d7 at r;subst r;cases q;exact⟨_,.bool b⟩
 | .int i,v,u,_,r,q=>by unfold d7 at r;subst r;obtain⟨t,rfl⟩:=q;exact⟨_,.int i t⟩
 | .str x,v,u,_,r,q=>by unfold d7 at r;subst r;obtain⟨t,rfl⟩:=q;exact⟨_,.str x t⟩
 | .tup l,v,u,hd,r,q=>by
   unfold d7 at r;obtain⟨a,vs,rfl,sq,rl⟩:=r
   cases q
   obtain⟨o,qu,n,e,c,d,hv⟩:=CV I sq;obtain⟨as,ra⟩:=MQ I l (by unfold lC at hd;exact hd) rl hv;unfold pyD;exact⟨as,.tuple e c d ra⟩
 | .ref _,v,u,hd,_,_=>by unfold lC at hd;cases hd
 | .fn _,v,u,hd,_,_=>by unfold lC at hd;cases hd
 | .ty _,v,u,hd,_,_=>by unfold lC at hd;cases hd
theorem MQ(I:Inv X pins σ H s):∀l {vs} {us},oG l=true->j6 (wc X) μ H l vs->m7 vs us->∃as,ReadsAll s.heap us (pyL l) as
 |[],vs,us,_,r,q=>by unfold j6 at r;subst r;cases q;exact⟨_,.nil⟩
 |d::l,vs,us,hd,r,q=>by
   unfold j6 at r;obtain⟨v,r',rfl,r1,r2⟩:=r;unfold oG at hd;rw[jy]at hd
   cases q with
   |cons q1 q2=>
     obtain⟨as,h1⟩:=Ww I d hd.1 r1 q1;obtain⟨bs,h2⟩:=MQ I l hd.2 r2 q2;unfold pyL;exact⟨_,.cons h1 h2⟩
end
end
section
variable{X:Cx}{Z:XC}
end
end DL
namespace W
open PySem PySem.Spec L2 DL
open PyProof.Rows hiding St
end W
namespace DL
open PySem PySem.Spec L2
open PyProof.Rows hiding St
section
variable{X:Cx}{Z:XC}{o:Expr}{fo:Fe}{name:Str}{id:String}{mm:D->List D->M D}{tj se:Pos}
end
def sV:zg->Str
 | .str x _=>x
 |_=> ""
def byT(w:je):Bool:=w.params.followText "set-order"
def TSet(prog:zV)(w:je)(h:Heap)(a:Addr)(ss:List Str):Prop:=∃o es ep t,h.get? a=some o/\o.ExactSet/\o.data= .set es ep t/\ElemsOf (strKind prog w) es.toList/\(es.toList.map λe=>sV e.2).Perm ss/\es.size<scanBound/\t.fits es.size=true/\t.led= (!byT w)/\(0<es.size->t.plain=false)
section
variable{prog:zV}{w:je}{A:jm}{E:VSP}{s:zw}
end
section
variable{prog:zV}{w:je}{A:jm}{R:Result->zw->Prop}{I:Addr}{fp wr:List Addr}{G:Array GenState->Array GenState->Prop}{n:Nat}{P:Nat->zg->Prop}{St:Nat->zw->Prop}
end
section
theorem kh(a:zg)
 (h:Q₁ (.ref s.heap.objs.size) {s with heap:=s.heap.push {cls:=.type "set",dict:=none,data:=.set #[] 0 (.fresh 0 0 (!byT w))}}):
 xZ (zA prog w) A (.call (.builtin "set.__new__") ⟨[.type "set",a], []⟩) (wants Q₁ E) s:=by
 refine codeAny_of_tree ?_;show zo _ A.in1 (do checkBuiltinCall "set.__new__" ⟨[.type "set",a], []⟩;again (.builtin "set.__new__" ⟨[.type "set",a], []⟩)) _ _ s;refine za (yG (F.newCall_set_1 a) (ze ⟨yJ F.plain_set_new _,yt F.entry_set_new ?_⟩));rw[jS F.plain_set_new _];unfold jQ.«set.__new__» Builtin.Frozenset.newClass;have hsub:=sub_set_self;obtain⟨hp,g,d,tk,os⟩:=s;dsimp only
 wp_walk
 refine YQ (ze ?_);dsimp only;simp only[newObj];refine za (wpAny_alloc (ze ?_));exact ze h
end
theorem bL:∀(l:List α) i h,((l[i]'h)::l.eraseIdx i).Perm l
 |x::r,0,_=>.refl _
 |x::r,i+1,h=>by have ih:=bL r i (by simpa using h);show ((r[i]'(by simpa using h))::x::r.eraseIdx i).Perm (x::r);exact(List.Perm.swap ..).trans (.cons _ ih)
abbrev sO(es:Array (Int×zg))(ep:Nat)(t:SetTable):Obj:={cls:=.type "set",dict:=none,data:=.set es ep t,slots:= #[]}
abbrev sI(f:zg)(i:Nat)(a:Addr)(n ep:Nat):Obj:={cls:=.type "set_iterator",data:=.fields #[f,.int i 0,.ref a,.int n 0,.int ep 0]}
section
theorem qb(hn:n≠0)(h:∀i d',i<n->Q i {s with drawn:=d'}):zo (zA prog w) A (choose src n) Q E s:=by intro Γ p _;unfold choose;rw[Sem.wp_choose];refine⟨hn,?_⟩;rw[Sem.wp_pure];exact h _ _ (yX _ (Nat.pos_of_ne_zero hn))
theorem kN:∀(xs:List α) s Q,(∀ys d',ys.Perm xs->Q ys {s with drawn:=d'})->zo (zA prog w) A (drawOrder xs.length xs) Q E s
 |[],s,Q,h=>ze (h [] s.drawn .nil)
 |x::r,s,Q,h=>by
   show zo _ _ (choose .order (x::r).length >>= λi=>match (x::r)[i]? with
    |some y=>(do return y::(<-drawOrder r.length ((x::r).eraseIdx i)))
    |none=>unsupported "internal:drawOrder") _ _ _
   refine za (qb (by simp) λi d' hi=>?_);rw[zq hi];dsimp only;have hl:((x::r).eraseIdx i).length=r.length:=by rw[List.length_eraseIdx,if_pos hi];simp
   rw[<-hl];refine za (kN _ _ _ λys d2 hp=>ze ?_);refine h _ d2 ?_;exact(List.Perm.cons _ hp).trans (bL _ i hi)
termination_by xs=>xs.length
decreasing_by simp only[hl];simp
theorem MP(nx:Nat->Nat):∀f k (l:List α) out,f=l.length->(Jz nx f k l out).toList.Perm (out.toList++l)
 |0,k, [],out,_=>by unfold Jz;simp
 |f+1,k,x::r,out,hf=>by
   unfold Jz;have hi:nx k % (x::r).length<(x::r).length:=yX _ (by simp);rw[zq hi];dsimp only;have hl:f= ((x::r).eraseIdx (nx k % (x::r).length)).length:=by rw[List.length_eraseIdx,if_pos hi];simpa using hf
   refine(MP nx f (k+1) _ _ hl).trans ?_;rw[Array.toList_push,zJ];exact(bL _ _ hi).append_left _
theorem ny(nx:Nat->Nat)(xs:Array α):(Yd nx xs).toList.Perm xs.toList:=by have:=MP nx xs.size 0 xs.toList #[] (by simp);simpa [Yd]using this
theorem NF(hi:s.heap.get? I=some (sI f i a n ep))(h:Q (.ref I) s):zo (zA prog w) A (Xw (.ref I)) Q E s:=by have hT:s.TypeIs (.ref I) "set_iterator":=⟨_,hi,rfl⟩;refine Jx hT KN (jk KN hT sU (show zo _ _ (ret (.ref I)) _ _ s from ?_) (Mq _));exact ze ⟨_,rfl, "set_iterator",_,hT,L6.lookup,h⟩
end
section
theorem DJ(h:Q (byT w) s):zo (zA prog w) A setsByText Q E s:=za (YQ (ze h))
theorem aM(hb:byT w=true)(ha:s.heap.get? a=some (sO es ep t))(hf:t.fits es.size=true)(h:Q (((Yd (w.params.setOrder a ep) es)[i]?).map λe=>(e.2,slot)) s):zo (zA prog w) A (XE a slot i ep) Q E s:=by unfold XE;refine za (jz ha rfl hf ?_);refine za (DJ ?_);refine jR (λ_=>?_) (λz=>absurd hb z);refine jR (λz=>absurd z (by simp)) (λ_=>?_);unfold setWalk;refine za (za (jz ha rfl hf ?_));refine za (DJ ?_);refine jR (λ_=>?_) (λz=>absurd hb z);refine za (YQ (ze ?_));exact ze h
theorem GH(hb:byT w=false)(hl:t.led=true)(h1:¬((!t.plain&&decide (es.size>1))=true))(ha:s.heap.get? a=some (sO es ep t))(hf:t.fits es.size=true) (h:Q (match es[jf t.place slot]?,t.place[jf t.place slot]? with
 |some (_,x),some j=>some (x,j+1)
 |_,_=>none) s):zo (zA prog w) A (XE a slot i ep) Q E s:=by
 unfold XE;refine za (jz ha rfl hf ?_);refine za (DJ ?_);refine jR (λz=>absurd (hb.symm.trans z) (by decide)) (λ_=>?_);refine jR (λz=>absurd z h1) (λ_=>?_);refine za (show zo _ _ (if (!t.led&&!es.isEmpty)=true then unsupported "set:maker-not-led" else pure ()) _ _ _ from ?_);rw[hl];exact ze (ze h)
set_option maxHeartbeats 3200000 in
theorem BO{I:Addr}{slot i n nx:Nat}{x:zg}(hi:s.heap.get? I=some (sI (.int slot 0) i a es.size ep))(ha:s.heap.get? a=some (sO es ep t))(hf:t.fits es.size=true)
 (hN:∀(A:jm) E Q,Q (some (x,nx)) s->zo (zA prog w) A (XE a slot i ep) Q E s)
 (h:∀h',h'.get? I=some (sI (.int nx 0) (i+1) a es.size ep)->yA I s.heap h'->Q (some x) {s with heap:=h'}):zo (zA prog w) A (xf (.ref I)) Q E s:=by
 have hT:s.TypeIs (.ref I) "set_iterator":=⟨_,hi,rfl⟩;unfold xf;refine za (yD (ju (name:=jh "__next__") hT L6 (jk L6 hT lG ?_ (dG _))));unfold jQ.«set_iterator.__next__» Jk;generalize hNx:XE=N at hN ⊢
 wp_walk using jz ha rfl hf
 simp only[ya];refine hN _ _ _ ?_;dsimp only;refine za (yw hi (show 0<5 by decide) λh1 e1 k1=>?_);refine za (yw e1 (show 1<5 by decide) λh2 e2 k2=>?_);refine ze ⟨_,rfl,?_⟩;exact ze (h h2 e2 (k1.trans k2))
set_option maxHeartbeats 3200000 in
theorem IH{I:Addr}{slot i n nx:Nat}(hh:A.handled=none)(hi:s.heap.get? I=some (sI (.int slot 0) i a es.size ep))(ha:s.heap.get? a=some (sO es ep t))(hf:t.fits es.size=true)
 (hN:∀(A:jm) E Q,Q none s->zo (zA prog w) A (XE a slot i ep) Q E s)
 (h:∀h',YV I s.heap h'->Q none {s with heap:=h'}):zo (zA prog w) A (xf (.ref I)) Q E s:=by
 have hT:s.TypeIs (.ref I) "set_iterator":=⟨_,hi,rfl⟩;unfold xf;refine za (yD (ju (name:=jh "__next__") hT L6 (jk L6 hT lG ?_ (dG _))));unfold jQ.«set_iterator.__next__» Jk;generalize hNx:XE=N at hN ⊢
 wp_walk using jz ha rfl hf
 simp only[ya];refine hN _ _ _ ?_;dsimp only
 wp_walk
 simp only[raiseNew];refine za (XW ?_);rw[show A.in1.handled=none from hh];refine za (ze (wpAny_throw ?_));refine za (xx (T:= "StopIteration") (b:=true) ⟨_,zn _ rfl,rfl⟩ Xx (ze ?_));exact h _ (((yq ..).extBut.push _).push _)
set_option maxHeartbeats 3200000 in
theorem bu{I J:Addr}{ps:List Nat}(hi:s.heap.get? I=some (sI (.ref J) i a es.size ep))(ha:s.heap.get? a=some (sO es ep t))(hf:t.fits es.size=true)(hJ:s.heap.get? J=some {cls:=.type "tuple",data:=.seq (ps.map fun(i:Nat)=>yC i).toArray m})
 (hp:ps[i]? =some p) (he:es[p]? =some e)
 (h:∀h',h'.get? I=some (sI (.ref J) (i+1) a es.size ep)->yA I s.heap h'->Q (some e.2) {s with heap:=h'}):zo (zA prog w) A (xf (.ref I)) Q E s:=by
 have hT:s.TypeIs (.ref I) "set_iterator":=⟨_,hi,rfl⟩;unfold xf;refine za (yD (ju (name:=jh "__next__") hT L6 (jk L6 hT lG ?_ (dG _))));unfold jQ.«set_iterator.__next__» Jk
 wp_walk using jz ha rfl hf
 have eg:(ps.map fun(i:Nat)=>yC i).toArray[(i:Int).toNat]? =some (yC p):=by rw[ya,YO,jp,hp];rfl
 rw[eg];show zo _ _ (setNextDrawn a (p:Int).toNat (ep:Int).toNat >>= λx=>setField (.ref I) 1 (yC (i+1)) >>= λ_=>ret x) _ _ _;simp only[ya];unfold setNextDrawn;refine za (za (jz ha rfl hf ?_));refine jR (λz=>absurd z (by simp)) (λ_=>?_);rw[he];refine ze ?_;refine za (yw hi (show 1<5 by decide) λh2 e2 k2=>?_);refine ze ⟨_,rfl,?_⟩;exact ze (h h2 e2 k2)
set_option maxHeartbeats 3200000 in
theorem FU{ps:List Nat}(hh:A.handled=none)(hi:s.heap.get? I=some (sI (.ref J) ps.length a es.size ep))(ha:s.heap.get? a=some (sO es ep t))(hf:t.fits es.size=true)(hJ:s.heap.get? J=some {cls:=.type "tuple",data:=.seq (ps.map fun(i:Nat)=>yC i).toArray m})
 (h:∀h',YV I s.heap h'->Q none {s with heap:=h'}):zo (zA prog w) A (xf (.ref I)) Q E s:=by
 have hT:s.TypeIs (.ref I) "set_iterator":=⟨_,hi,rfl⟩;unfold xf;refine za (yD (ju (name:=jh "__next__") hT L6 (jk L6 hT lG ?_ (dG _))));unfold jQ.«set_iterator.__next__» Jk
 wp_walk using jz ha rfl hf
 have eg:(ps.map fun(i:Nat)=>yC i).toArray[(ps.length:Int).toNat]? =none:=by rw[ya,YO,jp,zZ (zh _)];rfl
 rw[eg]
 wp_walk
 simp only[raiseNew];refine za (XW ?_);rw[show A.in1.handled=none from hh];refine za (ze (wpAny_throw ?_));refine za (xx (T:= "StopIteration") (b:=true) ⟨_,zn _ rfl,rfl⟩ Xx (ze ?_));exact h _ ((((yq ..).trans (yq ..)).extBut.push _).push _)
end
structure SWalk(prog:zV)(w:je)(A:jm)(s:zw)(a:Addr)(ss:List Str)(I:Addr)(h':Heap):Prop where
 keep:∀b o,s.heap.get? b=some o->h'.get? b=some o
 new:s.heap.objs.size<=I
 walk:∃(J:Addr) (vs:List zg) (uc:List Str) (St:Nat->Heap->Prop),s.heap.objs.size<=J/\StrsAre vs uc/\uc.Perm ss/\Walks prog w A I [I,J,a] [I] vs.length (λi v=>vs[i]? =some v) St/\St 0 h'
section
theorem wkT(hh:A.handled=none)(hb:byT w=true)(hf:t.fits es.size=true)(sf:a≠I)(J:Addr)(hJ:J≠I):
 Walks prog w A I [I,J,a] [I] ((Yd (w.params.setOrder a ep) es).toList.map (·.2)).length (λi v=>((Yd (w.params.setOrder a ep) es).toList.map (·.2))[i]? =some v) (λi h=>h.get? I=some (sI (.int 0 0) i a es.size ep)/\h.get? a=some (sO es ep t)) where
 sub:=λb hb=>by simp at hb;simp[hb]
 frame:=λi h h' st hk=>⟨hk I (by simp) _ st.1,hk a (by simp) _ st.2⟩
 item:=λi s Q E hi st hQ=>by
  rw[zf]at hi;have e:(Yd (w.params.setOrder a ep) es)[i]? =some (Yd (w.params.setOrder a ep) es).toList[i]:=by rw[<-zK,zq hi]
  refine BO (n:=0) (nx:=0) (x:=(Yd (w.params.setOrder a ep) es).toList[i].2) st.1 st.2 hf (λA E Q hq=>aM hb st.2 hf (by rw[e];exact hq)) λh' hI hs=>?_;refine hQ _ h' s.toks (by rw[jp,zq hi];rfl) ⟨hI,?_⟩ λb o hb e=>?_
  ·rw[hs.2 a sf];exact st.2
  ·rw[hs.2 b (by simpa using hb)];exact e
 done:=λs Q E st hQ=>by rw[zf]at st;refine IH (n:=0) (nx:=0) hh st.1 st.2 hf (λA E Q hq=>aM hb st.2 hf (by rw[<-zK,zZ (zh _)];exact hq)) λh' he=>hQ h' s.toks λb o hb e=>he b o (λz=>hb (by simp[z])) e
 self:=λi s Q E st hQ=>NF st.1 hQ
theorem wkD(hh:A.handled=none)(hf:t.fits es.size=true)(sf:a≠I)(J:Addr)(hJ:J≠I){ps:List Nat}{vs:List zg}(hv:ps.map (λp=>es[p]?.map (·.2))=vs.map some):
 Walks prog w A I [I,J,a] [I] vs.length (λi v=>vs[i]? =some v) (λi h=>h.get? I=some (sI (.ref J) i a es.size ep)/\h.get? a=some (sO es ep t)/\∃m,h.get? J=some {cls:=.type "tuple",data:=.seq (ps.map fun(i:Nat)=>yC i).toArray m}) where
 sub:=λb hb=>by simp at hb;simp[hb]
 frame:=λi h h' st hk=>⟨hk I (by simp) _ st.1,hk a (by simp) _ st.2.1,let ⟨m,e⟩:=st.2.2;⟨m,hk J (by simp) _ e⟩⟩
 item:=λi s Q E hi st hQ=>by
  obtain⟨m,e⟩:=st.2.2;have hl:ps.length=vs.length:=by have:=congrArg xv hv;simpa using this
  have g:=congrArg (·[i]?) hv;simp only[jp,zq hi,zq (show i<ps.length by omega),Zq,zQ]at g;obtain⟨q,eq,ev⟩:=Yl.mp g;refine bu st.1 st.2.1 hf e (zq (show i<ps.length by omega)) eq λh' hI hs=>?_;refine hQ _ h' s.toks (by rw[zq hi,ev]) ⟨hI,?_,m,?_⟩ λb o hb e=>?_
  ·rw[hs.2 a sf];exact st.2.1
  ·rw[hs.2 J hJ];exact e
  ·rw[hs.2 b (by simpa using hb)];exact e
 done:=λs Q E st hQ=>by
  obtain⟨m,e⟩:=st.2.2;have hl:ps.length=vs.length:=by have:=congrArg xv hv;simpa using this
  rw[<-hl]at st;exact FU hh st.1 st.2.1 hf e λh' he=>hQ h' s.toks λb o hb e=>he b o (λz=>hb (by simp[z])) e
 self:=λi s Q E st hQ=>NF st.1 hQ
end
section
variable{prog:zV}{w:je}{A:jm}{E:VSP}{s:zw}{a I:Addr}{es:Array (Int×zg)}{ep:Nat}{t:SetTable}
theorem Cm(hh:A.handled=none)(hb:byT w=false)(hl:t.led=true)(he:es= #[])(hf:t.fits es.size=true)(sf:a≠I)(J:Addr):
 Walks prog w A I [I,J,a] [I] 0 (λi v=>([]:List zg)[i]? =some v) (λi h=>h.get? I=some (sI (.int 0 0) i a es.size ep)/\h.get? a=some (sO es ep t)) where
 sub:=λb hb=>by simp at hb;simp[hb]
 frame:=λi h h' st hk=>⟨hk I (by simp) _ st.1,hk a (by simp) _ st.2⟩
 item:=λi s Q E hi st hQ=>absurd hi (Nat.not_lt_zero _)
 done:=λs Q E st hQ=>IH (n:=0) (nx:=0) hh st.1 st.2 hf (λA E Q hq=>GH hb hl (by subst he;simp) st.2 hf (by subst he;simpa using hq)) λh' he=>hQ h' s.toks λb o hb e=>he b o (λz=>hb (by simp[z])) e
 self:=λi s Q E st hQ=>NF st.1 hQ
theorem DM(p j:Nat):jf #[p] j=if p<j then 1 else 0:=by unfold jf;simp[xn]
theorem iw(hh:A.handled=none)(hb:byT w=false)(hl:t.led=true)(he:es= #[e])(hp:t.place= #[p])(hf:t.fits es.size=true)(sf:a≠I)(J:Addr):
 Walks prog w A I [I,J,a] [I] 1 (λi v=> [e.2][i]? =some v) (λi h=>h.get? I=some (sI (.int (if i=0 then (0:Nat)else p+1:Nat) 0) i a es.size ep)/\h.get? a=some (sO es ep t)) where
 sub:=λb hb=>by simp at hb;simp[hb]
 frame:=λi h h' st hk=>⟨hk I (by simp) _ st.1,hk a (by simp) _ st.2⟩
 item:=λi s Q E hi st hQ=>by
  obtain rfl:i=0:=by omega
  refine BO (n:=0) (nx:=p+1) (x:=e.2) st.1 st.2 hf (λA E Q hq=>GH hb hl (by subst he;simp) st.2 hf ?_) λh' hI hs=>?_
  ·rw[hp,DM,he];simpa using hq
  refine hQ _ h' s.toks rfl ⟨hI,?_⟩ λb o hb e=>?_
  ·rw[hs.2 a sf];exact st.2
  ·rw[hs.2 b (by simpa using hb)];exact e
 done:=λs Q E st hQ=>IH (n:=0) (nx:=0) hh st.1 st.2 hf (λA E Q hq=>GH hb hl (by subst he;simp) st.2 hf (by rw[hp,DM,he];simpa using hq)) λh' he=>hQ h' s.toks λb o hb e=>he b o (λz=>hb (by simp[z])) e
 self:=λi s Q E st hQ=>NF st.1 hQ
set_option maxHeartbeats 3200000 in
theorem Fv(ha:s.heap.get? a=some (sO es ep t))(hf:t.fits es.size=true)
 (h1:(!byT w&&(!t.plain&&decide (es.size>1)))=true->∀(ps:List Nat) d',ps.Perm (zE es.size)->Q (.ref (s.heap.objs.size+1)) {s with heap:=(s.heap.push {cls:=.type "tuple",data:=.seq (ps.map fun(i:Nat)=>yC i).toArray}).push (sI (.ref s.heap.objs.size) 0 a es.size ep),drawn:=d'})
 (h2:¬((!byT w&&(!t.plain&&decide (es.size>1)))=true)->Q (.ref s.heap.objs.size) {s with heap:=s.heap.push (sI (.int 0 0) 0 a es.size ep)}) (hz:es.size<=zi):zo (zA prog w) A (Xw (.ref a)) Q E s:=by
 have hA:s.TypeIs (.ref a) "set":=⟨_,ha,rfl⟩;refine Jx hA F.slot_set_iter (jk F.slot_set_iter hA MX ?_ (F.args_set_iter_1 _));unfold jQ.«frozenset.__iter__» Builtin.Frozenset.slot0 Builtin.Frozenset.sizeOf Jk setDrawn setEpoch
 wp_walk using jz ha rfl hf
 refine YQ (ze (ze ?_));have fin:∀(f:zg) (s1:zw),s1.heap.get? a=some (sO es ep t)->Q (.ref s1.heap.objs.size) {s1 with heap:=s1.heap.push (sI f 0 a es.size ep)}->zo (zA prog w) A.in1 (do
  let e <-(do
   let r <-setState a
   pure r.2.1)
  let v <-newFields "set_iterator" [f,yC 0,.ref a,yC (es.size:Nat),yC e]
  ret v) (λfin s'=>∃v,fin=Fin.done (Flow.ret v)/\∃T' r,s'.TypeIs v T'/\Ji (.type T') (jh "__next__")=pure (some r)/\Q v s') E s1:=by
  intro f s1 h1 hq;refine za (za (jz h1 rfl hf (ze ?_)))
  wp_walk
  exact⟨_,rfl, "set_iterator",_,⟨_,zn _ rfl,rfl⟩,L6.lookup,hq⟩
 refine jR (λz=>?_) (λz=>?_)
 ·have hr:(zE es.size).length=es.size:=jZ;have wo:=kN (prog:=prog) (w:=w) (A:=A.in1) (E:=E) (zE es.size) s;rw[hr]at wo;refine za (wo _ λps d' hp=>?_);refine za (Zm ?_ (by rw[zf,hp.length_eq,hr];exact hz));have q:=h1 z ps d' hp;refine fin _ _ (zc _ ha) ?_;have e:(s.heap.push {cls:=.type "tuple",data:=.seq (ps.map fun(i:Nat)=>yC i).toArray}).objs.size=s.heap.objs.size+1:=jO ..;dsimp only;rw[e];exact q
 ·exact za (ze (fin _ _ ha (h2 z)))
theorem gw{ps:List Nat}(h:ps.Perm (zE es.size)):∃l:List (Int×zg),l.Perm es.toList/\ps.map (λp=>es[p]?.map (·.2))= (l.map (·.2)).map some:=by
 refine⟨ps.map λp=>es.toList.getD p (0,.none),?_,?_⟩
 · refine(h.map _).trans ?_;have:(zE es.size).map (λp=>es.toList.getD p (0,.none))=es.toList:=by
    apply yr
    ·simp
    · intro i h1 h2;have h3:i<es.size:=by simpa using h2
      simp[zp,h3]
   rw[this]
 ·rw[jg,jg];refine ym λp hp=>?_;have h3:p<es.size:=jn.mp (h.mem_iff.mp hp);simp[zp,h3]
end
section
variable{prog:zV}{w:je}{s:zw}{a I:Addr}{es:Array (Int×zg)}{ep:Nat}{t:SetTable}
end
section
end
section
end
section
theorem Th(I:Inv X pins σ H s):Inv X pins σ H {s with drawn:=d'}:=⟨I.ok,I.os,I.bare,I.base,I.loc,I.cell,I.free,I.freeC,I.pin,I.hok,I.len⟩
end
end DL
namespace W
open PySem PySem.Spec L2 DL
open PyProof.Rows hiding St
end W
namespace DL
open PySem PySem.Spec L2
open PyProof.Rows hiding St
def lcg(m i:Nat):Nat:=(i*5+1) % (m+1)
def itr(m:Nat):Nat->Nat->Nat
 |0,i=>i
 |k+1,i=>itr m k (lcg m i)
def y4(m:Nat):Prop:=∀i≤m,∀j≤m,∃k≤m,itr m k i=j
def cM(m:Nat):Bool:=(zE (m+1)).all λi=>(zE (m+1)).all λj=>(zE (m+1)).any λk=>itr m k i==j
theorem iQ(h:cM m=true):y4 m:=by intro i hi j hj;unfold cM at h;have h1:=xq.mp h i (jn.mpr (by omega));have h2:=xq.mp h1 j (jn.mpr (by omega));obtain⟨k,hk,e⟩:=Jh.mp h2;exact⟨k,by have:=jn.mp hk;omega,by simpa using e⟩
theorem Fc:y4 7:=iQ (by decide +kernel)
theorem BY:y4 31:=iQ (by decide +kernel)
theorem NG(m:Nat):∀a b i,itr m (a+b) i=itr m a (itr m b i)
 |a,0,i=>rfl
 |a,b+1,i=>NG m a b (lcg m i)
theorem MY(hp:itr m (m+1) 0=0)(h:((zE (m+1)).all λj=>(zE (m+1)).any λk=>itr m k 0==j)=true):y4 m:=by
 have one:∀j≤m,∃k≤m,itr m k 0=j:=λj hj=>by obtain⟨k,hk,e⟩:=Jh.mp (xq.mp h j (jn.mpr (by omega)));exact⟨k,by have:=jn.mp hk;omega,by simpa using e⟩
 intro i hi j hj;obtain⟨a,ha,ea⟩:=one i hi;obtain⟨b,hb,eb⟩:=one j hj;by_cases c:a<=b
 ·exact⟨b-a,by omega,by rw[<-ea,<-NG,Nat.sub_add_cancel c];exact eb⟩
 ·refine⟨b+(m+1)-a,by omega,?_⟩;rw[<-ea,<-NG,Nat.sub_add_cancel (by omega),NG,hp];exact eb
theorem oZ:y4 127:=MY (by decide +kernel) (by decide +kernel)
def AD(owner:Array (Option Nat))(r:Option Nat):Prop:=∃j,r=some j/\owner[j]? =some none
theorem nW{owner:Array (Option Nat)}(h:(zE n).find? (λk=>(owner.getD (i+k) (some 0)).isNone)=some k):owner[i+k]? =some none:=by
 have:=List.find?_some h;have e:owner.getD (i+k) (some 0)=none:=by simpa using this
 rw[jC]at e;rcases h2:owner[i+k]? with _|o
 ·rw[h2]at e;cases e
 ·rw[h2]at e;have:o=none:=e;rw[this]
theorem Cd(h:owner[i]? =some none):AD owner (jj mask owner (f+1) i p):=by
 unfold jj;have hr:∃m,jx mask i+1-i=m+1:=by
  unfold jx;split
  ·exact⟨9,by omega⟩
  ·exact⟨0,by omega⟩
 obtain⟨m,hm⟩:=hr;have:((zE (jx mask i+1-i)).find? λk=>(owner.getD (i+k) (some 0)).isNone)=some 0:=by rw[hm,yQ,List.find?_cons_of_pos];rw[jC,Nat.add_zero,h];rfl
 rw[this];exact⟨i,by simp,h⟩
theorem nL{owner:Array (Option Nat)}(h:AD owner (jj mask owner f (ji mask i p).1 (ji mask i p).2)):AD owner (jj mask owner (f+1) i p):=by
 unfold jj;split
 ·rename_i k hk;exact⟨i+k,rfl,nW hk⟩
 ·exact h
theorem HS(hj:owner[j]? =some none):∀k f i,k<f->itr mask k i=j->AD owner (jj mask owner f i 0)
 |0,f+1,i,_,e=>by have e:i=j:=e;rw[<-e]at hj;exact Cd hj
 |k+1,f+1,i,hf,e=>by
   refine nL ?_;have e1:(ji mask i 0).1=lcg mask i:=by show (i*5+1+0 / 32) % (mask+1)=_;simp[lcg]
   have e2:(ji mask i 0).2=0:=by show 0 / 32=0;rfl
   rw[e1,e2];exact HS hj k f _ (by omega) e
theorem cL(hF:y4 mask)(hj:owner[j]? =some none)(hm:j<=mask):∀n f i p,p<32 ^ n->n+mask<f->i<=mask->AD owner (jj mask owner f i p)
 |0,f,i,p,hp,hf,hi=>by
   obtain rfl:p=0:=by simpa using hp
   obtain⟨k,hk,e⟩:=hF i hi j hm;exact HS hj k f i (by omega) e
 |n+1,f+1,i,p,hp,hf,hi=>by
   refine nL (cL hF hj hm n f _ _ ?_ (by omega) ?_)
   ·show p / 32<32 ^ n;rw[Nat.pow_succ]at hp;omega
   ·show (i*5+1+p / 32) % (mask+1)<=mask;have:=yX (i*5+1+p / 32) (show 0<mask+1 by omega);omega
structure vC(mask:Nat)(k:Nat)(owner:Array (Option Nat)):Prop where
 sz:owner.size=mask+1
 pm:(owner.toList.filterMap id).Perm (zE k)
theorem FR:∀ {l:List (Option α)} {j:Nat},l[j]? =some none->((l.set j (some x)).filterMap id).Perm (x::l.filterMap id)
 |[],_,h=>by simp at h
 |a::l,0,h=>by
   have:a=none:=by simpa using h
   subst this;simp
 |a::l,j+1,h=>by
   have ih:=FR (x:=x) (l:=l) (j:=j) (by simpa using h);rw[ye];rcases a with _|a
   ·simpa using ih
   ·show (a::YY id (l.set j (some x))).Perm (x::a::YY id l);exact(List.Perm.cons a ih).trans (List.Perm.swap ..)
theorem UI:∀ {l:List (Option Nat)},(l.filterMap id).length<l.length->∃j,j<l.length/\l[j]? =some none
 |[],h=>by simp at h
 |none::l,h=>⟨0,by simp,rfl⟩
 |some a::l,h=>by obtain⟨j,h1,h2⟩:=UI (l:=l) (by simpa using h);exact⟨j+1,by simpa using h1,by simpa using h2⟩
theorem HK(h:Int):jd h<32 ^ 13:=by
 unfold jd;have h1:=yY h (show (0:Int)<2 ^ 64 by decide);have h2:=yg h (show (2 ^ 64:Int)≠0 by decide);have:(32:Nat) ^ 13=36893488147419103232:=by decide
 omega
theorem vC.step{owner:Array (Option Nat)}(hF:y4 mask)(I:vC mask k owner)(hk:k<=mask)(h:Int):∃j,jj mask owner (yk mask) (jd h % (mask+1)) (jd h)=some j/\vC mask (k+1) (owner.setIfInBounds j (some k)):=by
 have hl:(owner.toList.filterMap id).length=k:=by rw[I.pm.length_eq,jZ]
 obtain⟨j0,hj0,e0⟩:=UI (l:=owner.toList) (by rw[hl,zF,I.sz];omega);rw[zK]at e0;have hm:j0<=mask:=by rw[zF,I.sz]at hj0;omega
 have hi:jd h % (mask+1)<=mask:=by have:=yX (jd h) (show 0<mask+1 by omega);omega
 obtain⟨j,e,ho⟩:=cL hF e0 hm 13 (yk mask) _ _ (HK h) (by unfold yk;omega) hi;refine⟨j,e,by simp[I.sz],?_⟩;rw[Array.toList_setIfInBounds];refine(FR (by rw[zK];exact ho)).trans ?_;rw[YH];exact(List.Perm.cons k I.pm).trans (JM ..).symm
theorem Lp{owner:Array (Option Nat)}(hs:owner.size=mask+1):(((zE (mask+1)).filterMap λj=>(owner.getD j none).map (j, ·)).map (·.2))=owner.toList.filterMap id:=by
 rw[List.map_filterMap];have:owner.toList= (zE (mask+1)).map λj=>owner.getD j none:=by
  apply yr
  ·simp[hs]
  · intro i h1 h2;have h3:i<owner.size:=by simpa using h1
    simp[jC,h3]
 rw[this,yo];congr 1;funext j;simp[Option.map_map,Xh]
theorem mT{es:Array (Int×zg)}{order:Array Nat}(h:order.toList.Perm (zE es.size)):(order.filterMap (es[·]?)).toList.Perm es.toList:=by
 rw[Array.toList_filterMap];refine(h.filterMap _).trans ?_;have:(zE es.size).filterMap (es[·]?)=es.toList:=by
  have e:∀l:List (Int×zg),(zE l.length).filterMap (l[·]?)=l:=by
   intro l
   induction l with
   |nil=>rfl
   |cons a r ih=>
     rw[zu,yQ];show a::YY _ (ZK _ _)=_;rw[yo];congr 1
  have:=e es.toList;simpa using this
 rw[this]
section
variable{prog:zV}{w:je}{A:jm}{E:VSP}{s:zw}{a:Addr}
end
section
end
section
end
section
end
inductive nK(w:je):List DictEntry->List Str->Prop
 |nil:nK w [] []
 |cons {e:DictEntry} {x:Str} {tk:Tok} {es:List DictEntry} {xs:List Str}:e.key= .str x tk->e.hash=hashStr w x->nK w es xs->nK w (e::es) (x::xs)
section
end
section
end
section
end
end DL
namespace W
open PySem PySem.Spec L2 DL
open PyProof.Rows hiding St
end W
namespace DL
open PySem PySem.Spec L2
open PyProof.Rows hiding St
structure Ev where
 P:zV
 w:je
 K:zj
 mg:Str->Option zg
 base:Heap
structure EvX(E:Ev):Prop where
 ex:∃h:Heap,E.K.In h/\h.Ns jA E.mg
abbrev Ck(E:Ev)(F:List D->M D)(n:Nat)(x:Str)(k:Nat):Prop:=sA F n x E.P E.w E.K E.mg E.base k
def BA(x:Str)(st:Stmt)(ps:List Str):Prop:=∀(kV doc pm:zg) (an:Option Addr) (sn ct:zg) (us:List zg),us.length=ps.length->bindArgs (yO x x (L8 st) (U4 st) (v4 st) .none kV doc pm an sn ct) ⟨us, []⟩=pure (ps.zip us)
section
variable{E:Ev}{x:Str}{st:Stmt}{k n m:Nat}{fb:Fs}
theorem J4(N ps:List Str)(X:EvX E)(Y:FH E.K x st)(S:V6 N ps (v4 st))(b:BA x st ps)(hn:ps.length=n)(hm:N.length=m)
 (hb:V6 N ps (v4 st)->∀f sn A outer s H Z,P0 k (A.deeper (YF x (v4 st) s.heap.objs.size f sn))->DB (P7 CX0 E.P E.w E.K E.mg E.base N x (v4 st) f sn A outer s H Z).nox ZF (U4 st) fb):Ck E (m9 m fb) n x (k+1):=by
 obtain⟨h,X,G⟩:=X.ex;obtain⟨f,fd,c⟩:=Y.ff X G b;exact sA.of c (eO c S hn hm (hb S f))
theorem kw(ps:List Str)(X:EvX E)(Y:FH E.K x st)(b:BA x st ps)(hn:ps.length=n):Ck E (λ_=>M.stuck) n x k:=by obtain⟨h,X,G⟩:=X.ex;obtain⟨f,fd,c⟩:=Y.ff X G b;exact sA.of c (cU hn)
end
def FHs(K:zj)(top:Nat->Stmt):List Str->List Nat->Prop
 |x::r,i::s=>FH K x (top i)/\FHs K top r s
 |_,_=>True
section
variable{K:zj}{top:Nat->Stmt}{x:Str}{i:Nat}{r:List Str}{s:List Nat}{mg:Str->Option zg}{d:D}{u:zg}{h:Heap}
theorem FHs.c(h:FH K x (top i))(t:FHs K top r s):FHs K top (x::r) (i::s):=⟨h,t⟩
structure CC(K:zj)(mg:Str->Option zg)(x:Str)(d:D):Prop where
 ex:∃u,Ze K jA x=some (some u)/\CR K mg d u
theorem CC.of(g:Ze K jA x=some (some u))(r:CR K mg d u):CC K mg x d:=⟨u,g,r⟩
theorem CC.ok(c:CC K mg x d)(X:K.In h)(G:h.Ns jA mg):kB K mg x d:=by obtain⟨u,g,r⟩:=c.ex;exact⟨u,ZM X G g,r⟩
theorem Qq{fa:Addr}{P:zV}{w:je}{N:List Str}{k m:Nat}{fb:Fs}(X:K.In h)(G:h.Ns jA mg)(hfa:mg "law" =some (.ref fa))(Y:FH K "law" (top i))(b:BA "law" (top i) ["script"])(S:V6 N ["script"] (v4 (top i)))(hm:N.length=m)
 (hs:∀kV dc pm an cd ct (s:zw) (v:zg),Xb s (yO "law" "law" (L8 (top i)) (U4 (top i)) (v4 (top i)) .none kV dc pm an cd ct) ⟨[v], []⟩ [("script",v)])
 (hb:∀base,V6 N ["script"] (v4 (top i))->∀sn A outer s H Z,P0 k (A.deeper (YF "law" (v4 (top i)) s.heap.objs.size fa sn))->DB (P7 CX0 P w K mg base N "law" (v4 (top i)) fa sn A outer s H Z).nox ZF (U4 (top i)) fb)
 (pure:∀ns:List Int,ns.length<=63->∃G',m9 m fb [.ref 0] [.rol (ns.map D.int)]=some (.ok (.bl true),G')):
 ∃fd:xV,(∀(s:zw) (v:zg),Xb s fd ⟨[v], []⟩ [("script",v)])/\∀base:Heap,K.In base->base.Ns jA mg->F1 P w K mg base CX0 (k+1) fa fd ["script"] (qF K):=by
 obtain⟨f,od,an,sl,oc,kV,dc,pm,cd,ct,a,l,e,kp⟩:=Y;have q:=hfa.symm.trans (ZM X G a)
 cases q
 exact⟨_,hs kV dc pm an cd ct,λbase _ _=>gu (eO ⟨HF l e kp,(HF l e kp).binds b,ZM X G a⟩ S rfl hm (hb base S)) pure⟩
theorem walk63{l:PySem.W.OpenLaw}{q:zV}{loose:List Str}{XP:(Str->Option zg)->Heap->Prop}{YP:je->Heap->Prop}{d:DefRec}{K:Params->zj}(k:Nat)(hn:l.most=some 63)(hdf:d.params.defaults= [])(hr:P0 k XF)
 (hY:∀(w:je) (h:Heap),YP w h->(K w.params).In h)
 (F:∀(w:je) (mg:Str->Option zg) (fa:Addr) (h:Heap),(K w.params).In h->h.Ns jA mg->mg d.name=some (.ref fa)->
   ∃fd:xV,(∀(s:zw) (u:zg),Xb s fd ⟨[u], []⟩ [("script",u)])/\∀base:Heap,(K w.params).In base->base.Ns jA mg->F1 l.prog w (K w.params) mg base CX0 k fa fd ["script"] (qF (K w.params))):
 PySem.W.WalkO q loose XP YP l.row.toRowW d [] (λf vs=>PySem.call f vs):=
 L2.walk_of hn (by decide) hdf hr hY F (λ_ _ a ns hl hO hS=>⟨a,ns,rfl,hS,hO,hl,λ_=>rfl⟩) λ_ _ _ _ _ z=>z
end
section
variable{prog:zV}{w:je}{A:jm}{E:VSP}{s:zw}
end
section
end
section
end
section
variable{X:Cx}{Z:XC}{ea:Expr}{fa:Fe}{p q1 ap pos:Pos}
end
section
variable{prog:zV}{w:je}{A:jm}{E:VSP}{s:zw}
theorem SY{vs:List zg}(hl:qs.length=vs.length)(td:vs.length<64)(ho:s.heap.get? a=some (zO "list" vs.toArray n))(hp:∀(i:Nat) q,qs[i]? =some q->∃u,vs[i]? =some u/\t9 s.heap u q)
 (h:∀(h':Heap) e,(∀b o,b≠a->s.heap.get? b=some o->h'.get? b=some o)->h'.get? a=some (zO "list" (zI ((S8 qs vs.length).map λi=>vs.getD i .none)) e)->P (.done (.ret .none)) {s with heap:=h'}):
 zo (zA prog w) A (jQ.«list.sort» ⟨[.ref a], []⟩) P E s:=by
 have ha:a<s.heap.objs.size:=zt ho;obtain⟨e1,ho1⟩:∃e1,(s.heap.update a (zP λ_=>(#[]:Array zg))).get? a=some (zO "list" #[] e1):=⟨_,xl ho λ_=> #[]⟩;have k1:∀b o,b≠a->s.heap.get? b=some o->(s.heap.update a (zP λ_=>(#[]:Array zg))).get? b=some o:=λb o hb e=>by rw[jq _ _ _ _ hb];exact e
 rw[list_sort_plain];refine za (Yc ho rfl (za (yi ho rfl ?_ (by rw[zk,jl];lia) (zL _))));refine za (xX ho1 rfl (za (Zm ?_ (by show vs.length<=_;rw[jl];lia))));refine za (xr ?_ (zL _));refine jt ?_;have sj:(((s.heap.update a (zP λ_=>(#[]:Array zg))).push (zO "tuple" vs.toArray 0)).push (zO "list" #[] 0)).get? a=some (zO "list" #[] e1):=zc _ (zc _ ho1);have k2:∀b o,b≠a->s.heap.get? b=some o->(((s.heap.update a (zP λ_=>(#[]:Array zg))).push (zO "tuple" vs.toArray 0)).push (zO "list" #[] 0)).get? b=some o:=λb o hb e=>zc _ (zc _ (k1 b o hb e));show zo (zA prog w) A _ P E {s with heap:=((s.heap.update a (zP λ_=>(#[]:Array zg))).push (zO "tuple" vs.toArray 0)).push (zO "list" #[] 0)};generalize ((s.heap.update a (zP λ_=>(#[]:Array zg))).push (zO "tuple" vs.toArray 0)).push (zO "list" #[] 0)=hh at sj k2;dsimp only;have hp':∀(i:Nat) q,qs[i]? =some q->∃u,vs[i]? =some u/\t9 hh u q:=λi x e=>by
  obtain⟨u,e1,b,t,t',rfl,o,hb,hc,n',hd⟩:=hp i x e;refine⟨_,e1,b,t,t',rfl,o,k2 b _ (λz=>?_) hb,hc,n',hd⟩;rw[z,ho]at hb
  cases hb
  simp[zO]at hc
 have fin:∃e,(hh.update a (zP λ_=>zI ((S8 qs vs.length).map λi=>vs.getD i .none))).get? a=some (zO "list" (zI ((S8 qs vs.length).map λi=>vs.getD i .none)) e)/\P (.done (.ret .none)) {s with heap:=hh.update a (zP λ_=>zI ((S8 qs vs.length).map λi=>vs.getD i .none))}:=by obtain⟨e,he⟩:∃e,(hh.update a (zP λ_=>zI ((S8 qs vs.length).map λi=>vs.getD i .none))).get? a=some (zO "list" (zI ((S8 qs vs.length).map λi=>vs.getD i .none)) e):=⟨_,xl sj λ_=>_⟩;exact⟨e,he,h _ e (λb o hb q=>by rw[jq _ _ _ _ hb];exact k2 b o hb q) he⟩
 have pm:=(QF qs vs.length).1;have tail:(zI ((S8 qs vs.length).map λi=>vs.getD i Value.none)).size<=zi+1:=by rw[zk,zf,pm.length_eq,jZ,jl];lia
 by_cases h2:vs.toArray.size<2
 · rw[if_pos h2,if_pos h2];refine za (ze ?_);rw[Yp];refine za (ze ?_);dsimp only;have hn:vs.length<2:=by simpa using h2
   have hv:(Yy (Jt general' (vs.toArray.zip vs.toArray) #[] 7 none)).map (·.2)=zI ((S8 qs vs.length).map λi=>vs.getD i Value.none):=by
    rw[S8,if_pos hn];show (vs.toArray.zip vs.toArray).map (·.2)=_;apply xo.mp;rw[Yi];apply yr
    ·simp
    ·intro i hi hj;simp at hi hj ⊢;simp[hj]
   rw[hv];refine za (xX sj rfl (za (yi sj rfl ?_ (zL _) tail)));simp only[bne_self_eq_false,zy,if_false];exact ze (fin.elim λ_ h=>h.2)
 · rw[if_neg h2,if_neg h2];have hn2:2<=vs.length:=by simpa using h2
   have gq:∀i,i<vs.length->qs[i]? =some (qs.getD i (0,0)):=λi hi=>by rw[zp,zq (by lia)];rfl
   obtain⟨fs,T,hfs,hT⟩:∃fs:List zg,xT hh vs fs/\0<fs.length/\∀v∈fs,∃n t,v= .int n t:=by
    have gen:∀(ku:List zg) (qs:List (Int×Int)),qs.length=ku.length->(∀(i:Nat) (q:Int×Int),qs[i]? =some q->∃u,ku[i]? =some u/\t9 hh u q)->∃fs:List zg,xT hh ku fs/\fs.length=ku.length/\∀v∈fs,∃n t,v= .int n t:=by
     intro ku
     induction ku with
     |nil=>exact λqs _ _=>⟨[],trivial,rfl,λv hv=>by cases hv⟩
     |cons u r ih=>
       intro qs hl hk;rcases qs with _|⟨q,qr⟩
       ·simp at hl
       ·
         obtain⟨u',e1,ad,t,t',rfl,o,ho,hc,n,hd⟩:=hk 0 q rfl;simp at e1;subst e1;obtain⟨fs,f1,f2,f3⟩:=ih qr (by simpa using hl) λi q hq=>by simpa using hk (i+1) q (by simpa using hq)
         refine⟨.int q.1 t::fs,ZO ho hc hd rfl f1,by simp[f2],λv hv=>?_⟩;rcases zr.mp hv with rfl|hv
         ·exact⟨_,_,rfl⟩
         ·exact f3 v hv
    obtain⟨fs,f1,f2,f3⟩:=gen vs qs hl hp';exact⟨fs,f1,by lia,f3⟩
   refine za (XA (T:=.type "int") T hfs (λv hv=>?_) (by decide) ?_)
   ·obtain⟨n,t,rfl⟩:=hT v hv;exact ZN rfl
   · have run:=tOk.wp (s:={s with heap:=hh}) (cmp:=xu prog w A (tuples' (Value.type "int" != Value.type "tuple")) vs) (λi j C hi hj hC=>by
      obtain⟨u,u1,u2⟩:=hp' i _ (gq i hi);obtain⟨v,v1,v2⟩:=hp' j _ (gq j hj);unfold xu;rw[zp,zp,u1,v1];exact lP u2 v2 hC) _ (tOk.run _ (tK (UJ qs) hn2))
     refine za (jE (Yk (Q:=λsh s'=>∃p:Array Nat,p.size=vs.length/\Yy sh=p.map (Ya (vs.toArray.zip vs.toArray))/\YU sh=none/\s'= {s with heap:=hh}/\p=E8 (ltP qs) (xM vs.length)/\J2 p vs.length/\upW (ltP qs) p vs.length) rfl hn2 td (λp sh s' a1 a2 a3 a4=>⟨p,a1,a2,a3,a4⟩) run) ?_ λ_ _ x=>x);rintro⟨⟨⟩,sh⟩ s' ⟨p,hp,har,hf,rfl,rfl,P1,U⟩;dsimp only;have e9:S8 qs vs.length= (E8 (ltP qs) (xM vs.length)).toList:=by rw[S8,if_neg (by lia)]
     rw[ZY rfl har,<-e9];refine za (xX sj rfl (za (yi sj rfl ?_ (zL _) tail)));rw[hf];simp only[bne_self_eq_false,zy,if_false];exact ze (fin.elim λ_ h=>h.2)
theorem lU{n:Nat}{vs:List zg}(ho:s.heap.get? a=some o)(hc:o.cls= .type "list")(hd:o.data= .seq vs.toArray n)(hl:qs.length=vs.length)(td:vs.length<64)(hp:∀(i:Nat) q,qs[i]? =some q->∃u,vs[i]? =some u/\t9 s.heap u q)
 (h:∀(h1 h':Heap) (tk e:Nat),(∀b o,s.heap.get? b=some o->h1.get? b=some o)->(∀b o,h1.get? b=some o->h'.get? b=some o)->h'.get? h1.objs.size=some (zO "list" (zI ((S8 qs vs.length).map λi=>vs.getD i .none)) e)->Q (.ref h1.objs.size) {s with heap:=h',toks:=tk}):
 zo (zA prog w) A (call (.builtin "sorted") [.ref a]) Q E s:=by
 have hz:vs.length<=zi:=zS (yT td) (by decide);refine ZQ XD Xd Xe (args_sorted1 _) ?_;unfold jQ.«sorted»;refine za (ze ?_);refine za (Yt a (.inl rfl) ho hc hd (λh1 hk=>?_) (by rw[zk];exact hz));refine za (xr ?_ hz);have hoL:(h1.push (zO "list" vs.toArray 0)).get? h1.objs.size=some (zO "list" vs.toArray 0):=zn _ rfl;refine za (jt (jk Yh ⟨_,hoL,rfl⟩ ZR (SY hl td hoL (λi q e=>?_) λh' e k1 k2=>⟨_,rfl,?_⟩) (args_list_sort _)))
 ·obtain⟨u,e1,b,t,t',rfl,o',hb,hc,n',hd⟩:=hp i q e;exact⟨_,e1,b,t,t',rfl,o',zc _ (hk _ _ hb),hc,n',hd⟩
 ·exact ze ⟨_,rfl,h h1 h' s.toks e hk (λb o hb=>k1 b o (zC (zt hb)) (zc _ hb)) k2⟩
end
def PD(l:List D):M D:=if l.length<64 then (do
 let qs <-U1 (d4 l)
 J5 (.lst (l9 qs l)))else M.stuck
def OC:List D->M D:=λds=>match ds with
 |[.ref r]=>do
   match <-K5 r with
   | .lst l=>PD l
   |_=>M.stuck
 |_=>M.stuck
theorem FW:O7 X Z (.builtin "sorted") OC:=⟨by
 intro pins s σ H xs us Q I r rc;obtain⟨ds,μ,G,rl,hr,p⟩:=rc;rcases ds with _|⟨_|_|_|_|l|i|_|_,_|⟨_,_⟩⟩<;>try exact p.elim
 delta OC at p;dsimp only at p;obtain⟨v,rfl,rv⟩:=Q2 rl;obtain⟨u,rfl,ru⟩:=Z9 r;have rv':=rv;unfold d7 at rv';obtain⟨a,m,rfl⟩:=rv'
 cases ru
 obtain⟨o,g,p1⟩:=G9 p;have ro:=hr.obj i o a g m;rcases o with l|l|l|l<;>try exact p1.elim
 obtain⟨vs,q,si⟩:=ro;obtain⟨qu,rv,pl,hz⟩:=I.list (SqL.of q);obtain⟨o,h1,h2,n,h3⟩:=pl.isList;dsimp only at p1;unfold PD at p1;split at p1
 case isFalse=>exact p1.elim
 rename_i td;obtain⟨qs,eq,p2⟩:=O5 p1;obtain⟨hl,hk⟩:=CH I eq si rv;have hlv:l.length=qu.length:=by rw[si.length,rv.length]
 obtain⟨ws,w1,w2,w3⟩:=tM si rv;refine lU h1 h2 h3 hl (by lia) hk λh1 h' tk e k1 k2 he=>?_;have I1:Inv X pins σ H {s with heap:=h1,toks:=tk}:=I.kept k1;have hf:=I1.hok.fresh (zh _);have re:ws.length<=zi:=zS (show ws.length<=64 by lia) (by decide);exact⟨.ref h1.objs.size,upd H h1.objs.size (.lst ws),I1.laid k2 (zh _) ⟨re,_,e,w1,he⟩,rfl,O6 hr w2 p2 _ hf⟩⟩
theorem RZ(h:X.calm=true):BD OC "sorted" X Z:=⟨.inl ⟨_,FW,vE⟩⟩
def CxN(X:Cx):Cx:={X with xe:=λ_ _=>False}
section
variable{X:Cx}{pins:PNS}{σ:St}{H:Hp}{s:zw}
theorem gc(I:Inv X pins σ H s):Inv (CxN X) pins σ H s:=⟨(λk=>⟨k.mod,k.kind,k.glob,k.blt,k.above,k.inj,k.has,k.cab,k.hd,k.frames,k.stk,k.exf,k.bs,k.bsz,k.noex,k.exfs,k.funs,k.frf,k.gd⟩:X.Ok->(CxN X).Ok) I.ok,I.os,I.bare,I.base,I.loc,I.cell,I.free,I.freeC,I.pin,I.hok,I.len⟩
theorem RG(I:Inv (CxN X) pins σ H s):Inv X pins σ H s:=⟨(λk=>⟨k.mod,k.kind,k.glob,k.blt,k.above,k.inj,k.has,k.cab,k.hd,k.frames,k.stk,k.exf,k.bs,k.bsz,k.noex,k.exfs,k.funs,k.frf,k.gd⟩:(CxN X).Ok->X.Ok) I.ok,I.os,I.bare,I.base,I.loc,I.cell,I.free,I.freeC,I.pin,I.hok,I.len⟩
theorem Kc(hb:DB (CxN X) Z body f):DS X Z (.Try body (h0::hs) [] [] pos) f:=by
 refine⟨λpins s σ H D I hL=>wpAny_Try_except (jE (hb.h pins s σ H D (gc I) hL) (λfl s1 h1=>?_) λ_ _ z=>z.elim)⟩
 cases fl with
 |next=>
   obtain⟨X1,H',I',k⟩:=h1;exact ZL ⟨X1,H',RG I',k⟩
 |brk=>
   obtain⟨X1,H',I',k⟩:=h1;exact⟨X1,H',RG I',k⟩
 |cont=>
   obtain⟨X1,H',I',k⟩:=h1;exact⟨X1,H',RG I',k⟩
 |ret u=>
   obtain⟨v,X1,H',I',k⟩:=h1;exact⟨v,X1,H',RG I',k⟩
end
end DL
namespace DL
open PySem PySem.Spec L2
open PyProof.Rows hiding St
open SetTable (Probe)
def U2(m:Nat)(p:Probe):Probe:=if p.more>0 then {p with j:=p.j+1,more:=p.more-1}else {p with j:=(ji m p.i p.perturb).1,more:=jx m (ji m p.i p.perturb).1-(ji m p.i p.perturb).1,i:=(ji m p.i p.perturb).1,perturb:=(ji m p.i p.perturb).2}
theorem GO(t:SetTable)(p:Probe):t.advance p=U2 t.mask p:=rfl
def rs(m i pt:Nat):Probe:={j:=i,more:=jx m i-i,i,perturb:=pt,dummy:=none}
theorem P9(h:p.more=n+1):U2 m p= {p with j:=p.j+1,more:=n}:=by unfold U2;rw[if_pos (by lia),h];rfl
theorem FK(h:p.more=0):U2 m p= {p with j:=(ji m p.i p.perturb).1,more:=jx m (ji m p.i p.perturb).1-(ji m p.i p.perturb).1,i:=(ji m p.i p.perturb).1,perturb:=(ji m p.i p.perturb).2}:=by unfold U2;rw[if_neg (by lia)]
inductive Rch(lv:Nat->Prop)(m:Nat):Probe->Nat->Prop
 |here {p:Probe}:Rch lv m p p.j
 |step {p:Probe} {j:Nat} (h:lv p.j) (k:Rch lv m (U2 m p) j):Rch lv m p j
theorem Rch.mono(h:Rch lv m p j)(k:∀i,lv i->lv' i):Rch lv' m p j:=by
 induction h with
 |here=>exact .here
 |step h _ ih=>exact .step (k _ h) ih
def Wk(lv:Nat->Prop)(m:Nat):Nat->Probe->Prop
 |0,p=>¬lv p.j
 |n+1,p=>lv p.j/\Wk lv m n (U2 m p)
section
variable{lv:Nat->Prop}{m:Nat}
theorem pS:∀s p,p.more=s->(∃n≤s,Wk lv m n p)\/∀N,Wk lv m N (U2 m {p with j:=p.j+s,more:=0})->Wk lv m (N+s+1) p
 |0,p,h=>by
   by_cases k:lv p.j
   · refine .inr λN w=>⟨k,?_⟩;have e:({p with j:=p.j+0,more:=0}:Probe)=p:=by
      obtain⟨a,b,c,d,f⟩:=p;have h:b=0:=h;rw[h];rfl
     rw[e]at w;exact w
   ·exact .inl ⟨0,zh _,k⟩
 |s+1,p,h=>by
   by_cases k:lv p.j
   · have e:=P9 (m:=m) h;rcases pS s (U2 m p) (by rw[e]) with⟨n,hn,w⟩|w
     ·exact .inl ⟨n+1,by lia,k,w⟩
     · refine .inr λN w'=>⟨k,w N ?_⟩;rw[e];have e2:p.j+1+s=p.j+(s+1):=by lia
       show Wk lv m N (U2 m {p with j:=p.j+1+s,more:=0});rw[e2];exact w'
   ·exact .inl ⟨0,zL _,k⟩
theorem BZ(m i:Nat):jx m i-i<=9:=by unfold jx;split<;>lia
theorem RR(h:∃n<N,Wk lv m n (rs m (ji m i pt).1 (ji m i pt).2)):∃n<N+10,Wk lv m n (rs m i pt):=by
 obtain⟨n,hn,w⟩:=h;have:=BZ m i;rcases pS _ (rs m i pt) rfl with⟨k,hk,w'⟩|w'
 ·have hk:k<=jx m i-i:=hk;exact⟨k,by lia,w'⟩
 ·have w2:=w' n (by rw[FK rfl];exact w);exact⟨_,by show n+(jx m i-i)+1<_;lia,w2⟩
theorem TM(hj:¬lv j):∀k i,itr m k i=j->∃n<10*(k+1),Wk lv m n (rs m i 0)
 |0,i,e=>⟨0,by lia,by
   have e:i=j:=e;show ¬lv i;rw[e];exact hj⟩
 |k+1,i,e=>by
   have e1:(ji m i 0).1=lcg m i:=by show (i*5+1+0 / 32) % (m+1)=_;simp[lcg]
   have e2:(ji m i 0).2=0:=by show 0 / 32=0;rfl
   obtain⟨n,hn,w⟩:=RR (by rw[e1,e2];exact TM hj k _ e);exact⟨n,by lia,w⟩
theorem IN(hF:y4 m)(hj:¬lv j)(hm:j<=m):∀n i p,p<32 ^ n->i<=m->∃k<10*(n+m+1),Wk lv m k (rs m i p)
 |0,i,p,hp,hi=>by
   obtain rfl:p=0:=by simpa using hp
   obtain⟨k,hk,e⟩:=hF i hi j hm;obtain⟨n,hn,w⟩:=TM hj k i e;exact⟨n,by lia,w⟩
 |n+1,i,p,hp,hi=>by
   obtain⟨k,hk,w⟩:=RR (IN hF hj hm n (ji m i p).1 (ji m i p).2 (by
    show p / 32<32 ^ n;rw[Nat.pow_succ]at hp;lia) (by
    show (i*5+1+p / 32) % (m+1)<=m;have:=yX (i*5+1+p / 32) (show 0<m+1 by lia);lia))
   exact⟨k,by lia,w⟩
theorem oV(hF:y4 m)(hj:¬lv j)(hm:j<=m)(h:Int):∃n<10*yk m,Wk lv m n (rs m (jd h % (m+1)) (jd h)):=by obtain⟨n,hn,w⟩:=IN hF hj hm 13 (jd h % (m+1)) (jd h) (HK h) (by have:=yX (jd h) (show 0<m+1 by lia);lia);exact⟨n,by unfold yk;lia,w⟩
end
abbrev lvT(t:SetTable)(j:Nat):Prop:=∃i,t.slot j= .live i
section
variable{t:SetTable}{ha:Nat->Int}{h:Int}
theorem Dg(e:t.slot p.j= .empty)(k:Rch (lvT t) t.mask p j):j=p.j:=by
 cases k with
 |here=>rfl
 |step h _=>
   obtain⟨i,h⟩:=h;rw[e]at h;cases h
theorem LR(nd:∀j,t.slot j≠ .dummy):∀n fuel p,Wk (lvT t) t.mask n p->n<fuel->
 (∃j,xQ t ha h fuel p=some (.empty j p.dummy)/\t.slot j= .empty/\Rch (lvT t) t.mask p j/\∀j' i,Rch (lvT t) t.mask p j'->t.slot j'= .live i->ha i≠h)\/
 (∃j i nx n',xQ t ha h fuel p=some (.candidate j i nx)/\t.slot j= .live i/\ha i=h/\Rch (lvT t) t.mask p j/\n'<n/\Wk (lvT t) t.mask n' nx/\nx.dummy=p.dummy/\(∀j' i',Rch (lvT t) t.mask p j'->t.slot j'= .live i'->ha i'=h->j'=j\/Rch (lvT t) t.mask nx j')/\∀j',Rch (lvT t) t.mask nx j'->Rch (lvT t) t.mask p j')
 |n,fuel+1,p,w,hf=>by
   have dm:(U2 t.mask p).dummy=p.dummy:=by unfold U2;split<;>rfl
   unfold xQ;rcases es:t.slot p.j with _|_|i
   ·refine .inl ⟨p.j,rfl,es,.here,λj' i r e=>?_⟩;rw[Dg es r,es]at e;cases e
   ·exact absurd es (nd _)
   · rcases n with _|n
     ·exact absurd ⟨i,es⟩ w
     · obtain⟨_,w⟩:=w;have back:∀j',Rch (lvT t) t.mask (U2 t.mask p) j'->Rch (lvT t) t.mask p j':=λj' r=>.step ⟨i,es⟩ r;by_cases c:ha i=h
       · refine .inr ⟨p.j,i,U2 t.mask p,n,by simp[c,GO],es,c,.here,by lia,w,dm,λj' i' r _ _=>?_,back⟩
         cases r with
         |here=>exact .inl rfl
         |step _ r=>exact .inr r
       · have ce:(if ha i==h then some (SetTable.Met.candidate p.j i (t.advance p))else xQ t ha h fuel (t.advance p))=xQ t ha h fuel (U2 t.mask p):=by rw[if_neg (by simpa using c),GO]
         rcases LR nd n fuel (U2 t.mask p) w (by lia) with⟨j,e,e1,r,no⟩|⟨j,i2,nx,n',e,e1,e2,rj,hn,w2,d2,al,bk⟩
         · refine .inl ⟨j,by dsimp only;rw[ce,e,dm],e1,back _ r,λj' i' r' e'=>?_⟩
           cases r' with
           |here=>rw[es]at e';cases e';exact c
           |step _ r'=>exact no _ _ r' e'
         · refine .inr ⟨j,i2,nx,n',by dsimp only;rw[ce,e],e1,e2,back _ rj,by lia,w2,by rw[d2,dm],λj' i' r' e' c'=>?_,λj' r'=>back _ (bk _ r')⟩
           cases r' with
           |here=>rw[es]at e';cases e';exact absurd c' c
           |step _ r'=>exact al _ _ r' e' c'
end
section
variable{xs:Array Nat}{j:Nat}
def Up(xs:Array Nat):Prop:=∀i k a b:Nat,xs[i]? =some a->xs[k]? =some b->i<k->a<b
theorem vH(up:Up xs):∀fuel lo hi,hi-lo<=fuel->lo<=hi->hi<=xs.size->(∀i v,i<lo->xs[i]? =some v->v<j)->(∀i v,hi<=i->xs[i]? =some v->j<=v)->
 xn xs j fuel lo hi<=xs.size/\(∀i v,i<xn xs j fuel lo hi->xs[i]? =some v->v<j)/\∀i v,xn xs j fuel lo hi<=i->xs[i]? =some v->j<=v
 |0,lo,hi,hf,hl,hs,h1,h2=>by
   unfold xn;obtain rfl:lo=hi:=by lia
   exact⟨hs,h1,h2⟩
 |fuel+1,lo,hi,hf,hl,hs,h1,h2=>by
   unfold xn;by_cases c:lo<hi
   · rw[if_pos c];have hm:(lo+hi) / 2<xs.size:=by lia
     have em:xs[(lo+hi) / 2]? =some xs[(lo+hi) / 2]:=zU hm;have eg:xs.getD ((lo+hi) / 2) j=xs[(lo+hi) / 2]:=by rw[jC,em];rfl
     dsimp only;rw[eg];by_cases d:xs[(lo+hi) / 2]<j
     · rw[if_pos d];refine vH up fuel _ _ (by lia) (by lia) hs (λi v hi' e=>?_) h2;rcases ZT (Nat.lt_succ_iff.mp hi')with k|k
       ·have:=up i _ v _ e em k;lia
       ·subst k;rw[em]at e;cases e;exact d
     · rw[if_neg d];refine vH up fuel _ _ (by lia) (by lia) (by lia) h1 (λi v hi' e=>?_);rcases ZT hi' with k|k
       ·have:=up _ i _ v em e k;lia
       ·subst k;rw[em]at e;cases e;lia
   · rw[if_neg c];obtain rfl:lo=hi:=by lia
     exact⟨hs,h1,h2⟩
theorem BL(up:Up xs):jf xs j<=xs.size/\(∀i v,i<jf xs j->xs[i]? =some v->v<j)/\∀i v,jf xs j<=i->xs[i]? =some v->j<=v:=
 vH up xs.size 0 xs.size (by lia) (zL _) (zh _) (λ_ _ h=>absurd h (Nat.not_lt_zero _)) λi v h e=>by rw[Array.getElem?_eq_none h]at e;cases e
theorem Bx(up:Up xs)(e:xs[i]? =some j):jf xs j=i:=by
 obtain⟨h0,h1,h2⟩:=BL up;have hi:i<xs.size:=(yy.mp e).1;rcases Nat.lt_trichotomy (jf xs j) i with k|k|k
 ·have eb:xs[jf xs j]? =some xs[jf xs j]:=zU (by lia);have:=up _ _ _ _ eb e k;have:=h2 _ _ (zh _) eb;lia
 ·exact k
 ·have:=h1 _ _ k e;lia
end
section
variable{t:SetTable}{j:Nat}
theorem RA(up:Up t.place)(dm:t.dummies= #[]):t.slot j= .live i↔t.place[i]? =some j:=by
 unfold SetTable.slot;dsimp only;constructor
 · intro h;split at h
   · rename_i c
     cases h
     simpa using c
   ·rw[dm]at h;split at h<;>cases h
 ·intro e;have:=Bx up e;rw[this,if_pos (by simp[e])]
theorem AR(j:Nat):¬JG #[] j=true:=by unfold JG;simp
theorem Bq(dm:t.dummies= #[]):t.slot j= .empty\/∃i,t.slot j= .live i:=by
 unfold SetTable.slot;dsimp only;split
 ·exact .inr ⟨_,rfl⟩
 ·rw[dm,if_neg (AR j)];exact .inl rfl
theorem bt(dm:t.dummies= #[]):t.slot j≠ .dummy:=λh=>by rcases Bq dm with e|⟨i,e⟩<;>rw[h]at e<;>cases e
end
theorem vB(xs:Array α)(p:Nat)(x:α):(jN xs p x).toList=xs.toList.take p++x::xs.toList.drop p:=by unfold jN;simp[List.extract_eq_drop_take];rw[yP (by simp)]
structure Tb(t:SetTable)(es:Array (Int×zg)):Prop where
 dm:t.dummies= #[]
 up:Up t.place
 sz:t.place.size=es.size
 le:∀j∈t.place.toList,j<=t.mask
 fu:y4 t.mask
 rch:∀q∈es.toList.zip t.place.toList,Rch (lvT t) t.mask (t.probeStart q.1.1) q.2
theorem wK:Up xs↔xs.toList.Pairwise (· < ·):=by
 rw[xa];constructor
 ·intro h i k hi hk c;exact h i k _ _ (zU (by simpa using hi)) (zU (by simpa using hk)) c
 ·intro h i k a b ea eb c;obtain⟨hi,rfl⟩:=yy.mp ea;obtain⟨hk,rfl⟩:=yy.mp eb;exact h i k (by simpa using hi) (by simpa using hk) c
theorem Tb.put(T:Tb t es)(hj:t.slot j= .empty)(hm:j<=t.mask)(r:Rch (lvT t) t.mask (t.probeStart h) j):
 Tb (t.put j).1 (jN es (t.put j).2 (h,x))/\(jN es (t.put j).2 (h,x)).toList.Perm ((h,x)::es.toList)/\(t.put j).1.mask=t.mask/\(t.put j).1.led=t.led/\(t.put j).1.plain=t.plain/\(t.put j).1.moves=t.moves:=by
 obtain⟨b0,b1,b2⟩:=BL (j:=j) T.up;have e2:(t.put j).2=jf t.place j:=rfl;have ep:(t.put j).1.place=jN t.place (jf t.place j) j:=rfl;have ed:(t.put j).1.dummies= #[]:=by show (if JG t.dummies j then _ else t.dummies)=_;rw[T.dm,if_neg (AR j)]
 have nin:∀i:Nat,t.place[i]? ≠some j:=λi e=>by rw[(RA T.up T.dm).mpr e]at hj;cases hj
 have up':Up (t.put j).1.place:=by
  rw[wK,ep,vB];have u:=wK.mp T.up;refine xN.mpr ⟨u.sublist (List.take_sublist ..),yH.mpr ⟨λa ha=>?_,u.sublist (List.drop_sublist ..)⟩,λa ha b hb=>?_⟩
  · obtain⟨i,hi,rfl⟩:=xO.mp ha;have e:t.place[jf t.place j+i]? =some ((t.place.toList.drop (jf t.place j))[i]):=by
     rw[<-zK,<-Xt,zq hi]
    have h1:=b2 _ _ (by lia) e;have h2:((t.place.toList.drop (jf t.place j))[i])≠j:=λz=>nin _ (by rw[e,z]);lia
  · obtain⟨i,hi,rfl⟩:=xO.mp ha;have hi':i<jf t.place j:=by rw[jW]at hi;lia
    have e:t.place[i]? =some ((t.place.toList.take (jf t.place j))[i]):=by rw[<-zK,<-List.getElem?_take_of_lt hi',zq hi]
    have h1:=b1 _ _ hi' e;rcases zr.mp hb with rfl|hb
    ·exact h1
    · obtain⟨k,hk,rfl⟩:=xO.mp hb;have e':t.place[jf t.place j+k]? =some ((t.place.toList.drop (jf t.place j))[k]):=by
       rw[<-zK,<-Xt,zq hk]
      have:=b2 _ _ (by lia) e';lia
 have mem':∀k,k∈(t.put j).1.place.toList↔k=j\/k∈t.place.toList:=λk=>by
  rw[ep,vB,zR,zr];have:=Zk (jf t.place j) t.place.toList;constructor
  · rintro(z|z|z)
    ·exact .inr (List.mem_of_mem_take z)
    ·exact .inl z
    ·exact .inr (List.mem_of_mem_drop z)
  · rintro(z|z)
    ·exact .inr (.inl z)
    ·rw[<-this]at z;exact(zR.mp z).elim .inl λz=>.inr (.inr z)
 have lvm:∀k,lvT t k->lvT (t.put j).1 k:=λk ⟨i,e⟩=>by have e:=(RA T.up T.dm).mp e;have:k∈(t.put j).1.place.toList:=(mem' k).mpr (.inr (jK (by rw[zK];exact e)));obtain⟨i',e'⟩:=YM.mp this;exact⟨i',(RA up' ed).mpr (by rw[<-zK];exact e')⟩
 have perm:(jN es (t.put j).2 (h,x)).toList.Perm ((h,x)::es.toList):=by rw[vB];refine List.perm_middle.trans ?_;rw[Zk]
 refine⟨⟨ed,up',?_,λk hk=>?_,T.fu,λq hq=>?_⟩,perm,rfl,rfl,rfl,rfl⟩
 ·rw[<-zF,<-zF,perm.length_eq,ep,vB,zd,zu,jW,xp,zu,zF,zF,T.sz];rw[T.sz]at b0;lia
 · rcases (mem' k).mp hk with rfl|hk
   ·exact hm
   ·exact T.le k hk
 · rw[vB,ep,vB,e2,List.zip_append (by rw[jW,jW,zF,zF,T.sz]),Zd]at hq;have ez:=List.zip_append (l₁:=es.toList.take (jf t.place j)) (r₁:=es.toList.drop (jf t.place j)) (r₂:=t.place.toList.drop (jf t.place j)) (by rw[jW,jW,zF,zF,T.sz]);rw[Zk,Zk]at ez;rcases zR.mp hq with z|z
   ·exact(T.rch q (by rw[ez];exact yf _ z)).mono lvm
   · rcases zr.mp z with rfl|z
     ·exact r.mono lvm
     ·exact(T.rch q (by rw[ez];exact zN _ z)).mono lvm
abbrev lvO(owner:Array (Option Nat))(j:Nat):Prop:=∃k,owner[j]? =some (some k)
section
variable{lv:Nat->Prop}{m:Nat}
theorem pP:∀k p,k<=p.more->(∀i<k,lv (p.j+i))->Rch lv m p (p.j+k)
 |0,p,_,_=>.here
 |k+1,p,h,hl=>by
   obtain⟨n,e⟩:∃n,p.more=n+1:=⟨p.more-1,by lia⟩;refine .step (hl 0 (by lia)) ?_;have:=pP k (U2 m p) (by rw[P9 e];show k<=n;lia) λi hi=>by rw[P9 e];show lv (p.j+1+i);rw[show p.j+1+i=p.j+(i+1) by lia];exact hl _ (by lia)
   rw[P9 e]at this ⊢;rw[show p.j+(k+1)=p.j+1+k by lia];exact this
theorem lN:∀s p j,p.more=s->(∀i≤s,lv (p.j+i))->Rch lv m (U2 m {p with j:=p.j+s,more:=0}) j->Rch lv m p j
 |0,p,j,h,hl,r=>by
   refine .step (hl 0 (zh _)) ?_;have e:({p with j:=p.j+0,more:=0}:Probe)=p:=by obtain⟨a,b,c,d,f⟩:=p;have h:b=0:=h;rw[h];rfl
   rw[e]at r;exact r
 |s+1,p,j,h,hl,r=>by
   refine .step (hl 0 (by lia)) ?_;refine lN s (U2 m p) j (by rw[P9 h]) (λi hi=>?_) ?_
   ·rw[P9 h];show lv (p.j+1+i);rw[show p.j+1+i=p.j+(i+1) by lia];exact hl _ (by lia)
   ·rw[P9 h];show Rch lv m (U2 m {p with j:=p.j+1+s,more:=0}) j;rw[show p.j+1+s=p.j+(s+1) by lia];exact r
end
theorem vJ(h:i<=m):i<=jx m i/\jx m i<=m:=by unfold jx;split<;>lia
theorem oS(hj:j<owner.size)(h:¬(owner.getD j (some 0)).isNone=true):lvO owner j:=by
 rw[jC,zU hj]at h;rcases e:owner[j]with _|k
 ·rw[e]at h;exact absurd rfl h
 ·exact⟨k,by rw[zU hj,e]⟩
theorem kL(hs:owner.size=m+1):∀f i p,i<=m->jj m owner f i p=some j->Rch (lvO owner) m (rs m i p) j
 |0,i,p,hi,h=>by unfold jj at h;cases h
 |f+1,i,p,hi,h=>by
   unfold jj at h;obtain⟨r1,r2⟩:=vJ hi;split at h
   · rename_i k hk
     cases h
     obtain⟨_,hm,hb⟩:=List.find?_range_eq_some.mp hk;have hm:=jn.mp hm;exact pP k (rs m i p) (by show k<=jx m i-i;lia) λx hx=>oS (by show i+x<_;lia) (by
      have:=hb x hx;show ¬(owner.getD (i+x) (some 0)).isNone=true;intro z;rw[z]at this
      cases this)
   ·rename_i hk;have hk:=List.find?_eq_none.mp hk;refine lN (jx m i-i) (rs m i p) j rfl (λx hx=>oS (by show i+x<_;lia) (show ¬(owner.getD (i+x) (some 0)).isNone=true from hk x (jn.mpr (by lia)))) ?_;rw[FK rfl];refine kL hs f _ _ ?_ h;show (i*5+1+p / 32) % (m+1)<=m;have:=yX (i*5+1+p / 32) (show 0<m+1 by lia);lia
def OwR(m:Nat)(H:List Int)(k:Nat)(owner:Array (Option Nat)):Prop:=∀j k',owner[j]? =some (some k')->k'<k/\∃h,H[k']? =some h/\Rch (lvO owner) m (rs m (jd h % (m+1)) (jd h)) j
theorem Lb{owner:Array (Option Nat)}(h:(owner.setIfInBounds j (some k))[i]? =some o):(i=j/\o=some k)\/owner[i]? =some o:=by
 rw[Jp]at h;split at h
 · rename_i e;split at h
   ·cases h;exact .inl ⟨e.symm,rfl⟩
   ·cases h
 ·exact .inr h
theorem OwR.step{owner:Array (Option Nat)}(hs:owner.size=m+1)(R:OwR m H k owner)(hh:H[k]? =some h)(hf:jj m owner (yk m) (jd h % (m+1)) (jd h)=some j)(hj:owner[j]? =some none):OwR m H (k+1) (owner.setIfInBounds j (some k)):=by
 have mono:∀i,lvO owner i->lvO (owner.setIfInBounds j (some k)) i:=λi ⟨x,e⟩=>⟨x,by
  rw[Jp,if_neg (λz=>by rw[z,e]at hj;cases hj)];exact e⟩
 intro i k' e;rcases Lb e with⟨rfl,z⟩|z
 · cases z
   exact⟨by lia,h,hh,(kL hs _ _ _ (by have:=yX (jd h) (show 0<m+1 by lia);lia) hf).mono mono⟩
 ·obtain⟨h1,x,h2,r⟩:=R i k' z;exact⟨by lia,x,h2,r.mono mono⟩
theorem eM(hF:y4 m)(H:List Int):∀hs k owner,vC m k owner->OwR m H k owner->H.drop k=hs->H.length<=m+1->k<=H.length->
 ∃owner',(hs.foldl (fun(rz:Option (Array (Option Nat)×Nat)) h=>do
  let (owner,k) <-rz
  let j <-jj m owner (yk m) (jd h % (m+1)) (jd h)
  pure (owner.setIfInBounds j (some k),k+1)) (some (owner,k)))=some (owner',H.length)/\vC m H.length owner'/\OwR m H H.length owner'
 |[],k,owner,I,R,e,hl,hk=>by
   have:k=H.length:=by have:=congrArg xv e;rw[xp]at this;simp at this;lia
   subst this;exact⟨owner,rfl,I,R⟩
 |h::hs,k,owner,I,R,e,hl,hk=>by
   have hk2:k<H.length:=by have:=congrArg xv e;rw[xp]at this;simp at this;lia
   have hh:H[k]? =some h:=by have:=congrArg (·[0]?) e;simpa using this
   obtain⟨j,ef,I2⟩:=I.step hF (by lia) h;have hi:jd h % (m+1)<=m:=by have:=yX (jd h) (show 0<m+1 by lia);lia
   have hj:owner[j]? =some none:=by
    have hl':(owner.toList.filterMap id).length=k:=by rw[I.pm.length_eq,jZ]
    obtain⟨j0,hj0,e0⟩:=UI (by rw[hl',zF,I.sz];lia);rw[zK]at e0;have hm:j0<=m:=by rw[zF,I.sz]at hj0;lia
    obtain⟨j',e',ho⟩:=cL hF e0 hm 13 (yk m) _ _ (HK h) (by unfold yk;lia) hi;rw[ef]at e'
    cases e'
    exact ho
   obtain⟨o',e2,I3,R3⟩:=eM hF H hs (k+1) _ I2 (R.step I.sz hh ef hj) (by rw[<-List.drop_drop,e];rfl) hl (by lia);refine⟨o',?_,I3,R3⟩;rw[xB,<-e2];simp[ef]
theorem LO:∀l:List α,(∀x∈l,f x=some (g x))->l.filterMap f=l.map g
 |[],_=>rfl
 |x::r,h=>by rw[jF,h x (zv ..),zH,LO r λy hy=>h y (zl _ hy)]
theorem Hw{led plain:Bool}(hF:y4 m)(es:Array (Int×zg))(hl:es.size<=m):∃t order,SetTable.laid m finger moves led plain (es.map (·.1))=some (t,order)/\Tb t (order.filterMap (es[·]?))/\(order.filterMap (es[·]?)).toList.Perm es.toList/\t.led=led/\t.plain=plain/\t.mask=m:=by
 have I0:vC m 0 (Array.replicate (m+1) none):=⟨by simp,by simp⟩;have R0:OwR m (es.map (·.1)).toList 0 (Array.replicate (m+1) none):=λj k' e=>by rw[Array.getElem?_replicate]at e;split at e<;>cases e
 have hz:(es.map (·.1)).toList.length=es.size:=by simp
 obtain⟨o,e,I,R⟩:=eM hF (es.map (·.1)).toList (es.map (·.1)).toList 0 _ I0 R0 rfl (by lia) (zL _);rw[hz]at I R;have el:SetTable.layClean m (es.map (·.1))=some o:=by unfold SetTable.layClean;rw[<-Array.foldl_toList,e];rfl
 have memL:∀q:Nat×Nat,q∈((zE (m+1)).filterMap λj=>(o.getD j none).map (j, ·))↔o[q.1]? =some (some q.2):=fun⟨j,k⟩=>by
  rw[Xs];constructor
  · rintro⟨x,hx,e⟩;rw[jC]at e;rcases eo:o[x]? with _|_|v
    ·rw[eo]at e;cases e
    ·rw[eo]at e;cases e
    · rw[eo]at e
      cases e
      exact eo
  ·intro e;have e:o[j]? =some (some k):=e;have hj:=(yy.mp e).1;exact⟨j,jn.mpr (by rw[I.sz]at hj;exact hj),by rw[jC,e];rfl⟩
 have lo:=Lp I.sz;have pwL:(((zE (m+1)).filterMap λj=>(o.getD j none).map (j, ·)).map (·.1)).Pairwise (· < ·):=by
  refine jJ.mpr (List.pairwise_filterMap.mpr (List.pairwise_lt_range.imp λ{a b} h x hx y hy=>?_));rcases ea:o.getD a none with _|u
  ·rw[ea]at hx;cases hx
  · rcases eb:o.getD b none with _|v
    ·rw[eb]at hy;cases hy
    ·rw[ea]at hx;rw[eb]at hy;cases hx;cases hy;exact h
 have leL:∀j∈(((zE (m+1)).filterMap λj=>(o.getD j none).map (j, ·)).map (·.1)),j<=m:=λj hj=>by obtain⟨q,hq,rfl⟩:=zM.mp hj;have:=(yy.mp ((memL q).mp hq)).1;rw[I.sz]at this;lia
 generalize eL:((zE (m+1)).filterMap λj=>(o.getD j none).map (j, ·))=L at *;have op:(L.map (·.2)).Perm (zE es.size):=by rw[lo];exact I.pm
 have eE:((L.map (·.2)).toArray.filterMap (es[·]?)).toList=L.map λq=>es.getD q.2 (0,.none):=by rw[Array.toList_filterMap,yo];refine LO L λq hq=>?_;have sd:q.2<es.size:=jn.mp (op.mem_iff.mp (zM.mpr ⟨q,hq,rfl⟩));show es[q.2]? =_;rw[jC,zU sd];rfl
 refine⟨{mask:=m,place:=(L.map (·.1)).toArray,dummies:= #[],finger,led,moves,plain},(L.map (·.2)).toArray,by unfold SetTable.laid;rw[el];show some _=some _;rw[eL],?_,mT op,rfl,rfl,rfl⟩;have up:Up (L.map (·.1)).toArray:=wK.mpr pwL;refine⟨rfl,up,?_,leL,hF,λq hq=>?_⟩
 ·rw[<-zF,<-zF,eE,zf,zf]
 · rw[eE]at hq;have hq:q∈(L.map λq=>es.getD q.2 (0,Value.none)).zip (L.map (·.1)):=hq;rw[List.zip_map']at hq;obtain⟨x,hx,rfl⟩:=zM.mp hq;obtain⟨hk,h,e1,r⟩:=R x.1 x.2 ((memL x).mp hx);have eh:(es.getD x.2 (0,Value.none)).1=h:=by
    rw[jC,zU hk];rw[zK,Array.getElem?_map,zU hk]at e1;exact js e1
   show Rch _ m (rs m (jd (es.getD x.2 (0,Value.none)).1 % (m+1)) (jd (es.getD x.2 (0,Value.none)).1)) x.1;rw[eh];refine r.mono λi ⟨k,ek⟩=>?_;have:i∈L.map (·.1):=zM.mpr ⟨(i,k),(memL (i,k)).mpr ek,rfl⟩;obtain⟨n,en⟩:=YM.mp this;exact⟨n,(RA up rfl).mpr (by show (L.map (·.1)).toArray[n]? =some i;rw[YO];exact en)⟩
section
variable{prog:zV}{w:je}{A:jm}{E:VSP}{s:zw}{K:Type}[DecidableEq K]{knd:KeyKind prog w K}
theorem Pq(n:Nat)(h:carriedByValue v=true):Yu n v=pure false:=by
 cases v with
 |ref a=>simp[carriedByValue]at h
 |_=>first|rfl|(unfold Yu;rfl)
theorem GN(hk:yh knd s.heap ks a)(h:Q false s):zo (zA prog w) A (Yu 8 (.ref a)) Q E s:=by
 have hT:=hk.typeIs;obtain⟨o,items,n,ho,_,hd,hi⟩:=hk;unfold Yu;refine za (xD hT ?_);dsimp only;refine za (ze ?_);simp only[Xp,zy,if_false];refine za (yp ho hd ?_);dsimp only;refine za ?_;show zo _ _ (forIn items _ _) _ _ s;rw[<-xw];refine JO _ (λrest r s'=>r.1=none/\s'=s/\∀v∈rest,carriedByValue v=true) _ ?_ ?_ _ _ ⟨rfl,rfl,hi.byValue⟩
 ·rintro v rest r s' ⟨hr,rfl,hall⟩;rw[Pq _ (hall v zv)];refine za (ze ?_);simp only[zy,if_false];exact ze ⟨rfl,rfl,λu hu'=>hall u (zl _ hu')⟩
 ·rintro⟨r1,r2⟩ s' ⟨hr,rfl,_⟩;simp only at hr;subst hr;exact ze h
def RJ(knd:KeyKind prog w K)(h:Heap)(v:zg):Prop:=∃b ks,v= .ref b/\yh knd h ks b
theorem mX{stored:List zg}(hk:yh knd s.heap ks b)(hs:∀y∈stored,RJ knd s.heap y)(h:Q false s):zo (zA prog w) A (searchCouldBeSeen (.ref b) stored) Q E s:=by
 unfold searchCouldBeSeen;refine za ?_;refine JO _ (λrest r s'=>r.1=none/\s'=s/\∀y∈rest,RJ knd s.heap y) _ ?_ ?_ _ _ ⟨rfl,rfl,hs⟩
 · rintro v rest r s' ⟨hr,rfl,hall⟩;obtain⟨c,kc,rfl,hc⟩:=hall v zv;dsimp only;split
   ·exact ze ⟨rfl,rfl,λu hu=>hall u (zl _ hu)⟩
   ·refine za (wpAny_eqIsQuiet_tuple hk ?_);simp only[Xp,zy,if_false];refine za (wpAny_eqIsQuiet_tuple hc ?_);simp only[Xp,zy,if_false];refine za (GN hk ?_);simp only[zy,if_false];refine za (GN hc ?_);simp only[zy,if_false];exact ze ⟨rfl,rfl,λu hu=>hall u (zl _ hu)⟩
 ·rintro⟨r1,r2⟩ s' ⟨hr,rfl,_⟩;simp only at hr;subst hr;exact ze h
def elT(knd:KeyKind prog w K)(q:List K×Addr):Int×zg:=(jP knd q.1,.ref q.2)
structure TpS(knd:KeyKind prog w K)(h:Heap)(L:List (List K×Addr))(es:Array (Int×zg))(t:SetTable):Prop where
 tb:Tb t es
 pm:es.toList.Perm (L.map (elT knd))
 ks:∀q∈L,yh knd h q.1 q.2
 sm:t.mask=7\/t.mask=31\/t.mask=127
 fl:es.size*5<t.mask*3
theorem TpS.at{i:Nat}(T:TpS knd h L es t)(he:es[i]? =some e):∃q∈L,e=elT knd q:=by have:e∈es.toList:=jK (by rw[zK];exact he);obtain⟨q,hq,rfl⟩:=zM.mp (T.pm.mem_iff.mp this);exact⟨q,hq,rfl⟩
theorem TpS.fits(T:TpS knd h L es t):t.fits es.size=true:=by unfold Jq Jr;rw[T.tb.sz,T.tb.dm];have:=T.fl;simp;lia
theorem TpS.way(T:TpS knd h L es t):t.gaveWay=false:=by unfold SetTable.gaveWay;rcases T.sm with e|e|e<;>rw[e]<;>rfl
def EK(t:SetTable)(L:List (List K×Addr))(es:Array (Int×zg))(knd:KeyKind prog w K)(ks:List K)(p:Probe):Prop:=∃i j q,q∈L/\q.1=ks/\es[i]? =some (elT knd q)/\t.slot j= .live i/\Rch (lvT t) t.mask p j
theorem wf{a b:Addr}{o:Obj}{ep:Nat}{ks:List K}(hu:A.units<xh)(ho:s.heap.get? a=some o)(hd:o.data= .set es ep t)(T:TpS knd s.heap L es t)(hb:yh knd s.heap ks b):
 ∀(n fuel:Nat) (p:Probe) st,st.getD (t.probeStart (jP knd ks))=p->Wk (lvT t) t.mask n p->n<fuel->n<10*yk t.mask->p.dummy=none->
  (EK t L es knd ks p->Q (.there none) s)->(¬EK t L es knd ks p->∀j,t.slot j= .empty->Rch (lvT t) t.mask p j->Q (.free j false) s)->zo (zA prog w) A (XX a (.ref b) (jP knd ks) true fuel st) Q E s:=by
 intro n
 induction n using Nat.strongRecOn with
 |_ n ih=>
 intro fuel p st est wk hf ht dm h1 h2;obtain⟨fuel,rfl⟩:∃f,fuel=f+1:=⟨fuel-1,by lia⟩;unfold XX;refine za (jz ho hd T.fits ?_);dsimp only;rw[T.way];simp only[zy,if_false];rw[est];rcases LR (λj=>bt T.tb.dm) n (10*yk t.mask) p wk ht with⟨j,e,e1,r,no⟩|⟨j,i,nx,n',e,e1,e2,rj,hn,w2,d2,al,bk⟩
 ·have e':t.probe (λi=>(es[i]?.map (·.1)).getD 0) (jP knd ks) p=some (.empty j p.dummy):=e;erw [e'];rw[dm];dsimp only;refine ze (h2 (fun⟨i,j',q,hq,e3,e4,e5,e6⟩=>?_) j e1 r);refine no j' i e6 e5 ?_;show (es[i]?.map (·.1)).getD 0=_;rw[e4,<-e3];rfl
 · have e':t.probe (λi=>(es[i]?.map (·.1)).getD 0) (jP knd ks) p=some (.candidate j i nx):=e;erw [e'];dsimp only;have ei:t.place[i]? =some j:=(RA T.tb.up T.tb.dm).mp e1;have hi:i<es.size:=by
    have:=(yy.mp ei).1;rw[T.tb.sz]at this;exact this
   have ee:es[i]? =some es[i]:=zU hi;obtain⟨q,hq,eq⟩:=T.at ee;rw[eq]at ee;have hstore:∀y∈(es.filter (·.1==jP knd ks)).toList.map (·.2),RJ knd s.heap y:=λy hy=>by obtain⟨x,hx,rfl⟩:=zM.mp hy;rw[Array.toList_filter]at hx;have hx:=(yL.mp hx).1;obtain⟨q,hq,rfl⟩:=zM.mp (T.pm.mem_iff.mp hx);exact⟨q.2,q.1,rfl,T.ks q hq⟩
   have rest:zo (zA prog w) A (do
    let some (_,y):=es[i]?|unsupported "internal:set-entry"
    let equal <-Yw [y] (eqBool y (.ref b))
    let (uh,_,t') <-setState a
    if true&&equal then return .there none
    let some same:=t'.sameMemory t.moves t.mask|unsupported "set.changed-during-lookup:is-the-new-block-at-the-old-address"
    let still <-match (if same then t'.slot j else .empty) with
     | .live i'=>match uh[i']? with
       |some (_,y')=>do pure (if <-isSame y' y then some i' else none)
       |none=>pure none
     |_=>pure none
    match still with
    |none=>rule "set.search.anew";XX a (.ref b) (jP knd ks) true fuel none
    |some i'=>if equal then return .there (some i')else XX a (.ref b) (jP knd ks) true fuel (some nx)) Q E s:=by
    rw[ee];dsimp only [elT];refine za (jt (wpAny_eqBool_tuple hu (T.ks q hq) hb ?_));refine za (jz ho hd T.fits ?_);dsimp only;by_cases c:q.1=ks
    ·rw[decide_eq_true c];simp only[Bool.and_true,if_true];exact ze (h1 ⟨i,j,q,hq,c,ee,e1,rj⟩)
    · rw[decide_eq_false c];simp only[Bool.and_false,zy,if_false];rw[show t.sameMemory t.moves t.mask=some true by unfold SetTable.sameMemory;rw[if_pos (by simp)]];dsimp only;rw[if_pos rfl,e1];dsimp only;rw[ee];dsimp only [elT];refine za (wpAny_isSame_ref_self (za (ze ?_)));rw[if_pos rfl];dsimp only;refine ih n' hn fuel nx (some nx) rfl w2 (by lia) (by lia) (by rw[d2,dm]) (fun⟨i',j',q',g1,g2,g3,g4,g5⟩=>h1 ⟨i',j',q',g1,g2,g3,g4,bk _ g5⟩) λhno j' g1 g2=>h2 (fun⟨i',j2,q',k1,k2,k3,k4,k5⟩=>?_) j' g1 (bk _ g2);rcases al j2 i' k5 k4 (by show (es[i']?.map (·.1)).getD 0=_;rw[k3,<-k2];rfl)with rfl|k
      · rw[e1]at k4
        cases k4
        rw[ee]at k3;have:=congrArg (λo=>o.map (·.2)) k3;have:q.2=q'.2:=by have:=js this;injection this
        have h3:=T.ks q hq;rw[this]at h3;exact c ((h3.inj (T.ks q' k1)).trans k2)
      ·exact hno ⟨i',j2,q',k1,k2,k3,k4,k⟩
   split
   ·refine za (mX hb hstore ?_);simp only[zy,if_false];exact rest
   ·exact rest
end
section
variable{prog:zV}{w:je}{A:jm}{E:VSP}{s:zw}{K:Type}[DecidableEq K]{knd:KeyKind prog w K}{a b:Addr}{o:Obj}{ep:Nat}{t t':SetTable}{es uh:Array (Int×zg)}{L:List (List K×Addr)}{ks:List K}
theorem SH(x:yh knd h ks b)(ho:h.get? a=some o)(hd:o.data= .set es ep t)(hs:yA a h h'):yh knd h' ks b:=by
 obtain⟨o',items,n,ho',hc,ui,hi⟩:=x;have sf:b≠a:=by rintro rfl;obtain rfl:o'=o:=js (ho'.symm.trans ho);rw[hd]at ui;exact nomatch ui
 exact⟨o',items,n,(hs.2 b sf).trans ho',hc,ui,hi⟩
theorem Gq(r:Rch lv m p j)(h:p.j+p.more<=m):j<=m:=by
 induction r with
 |here=>lia
 |@step p j hl k ih=>
   refine ih ?_;by_cases c:p.more>0
   ·obtain⟨n,e⟩:∃n,p.more=n+1:=⟨p.more-1,by lia⟩;rw[P9 e];show p.j+1+n<=m;lia
   · rw[FK (by lia)];have hi:(ji m p.i p.perturb).1<=m:=by
      show (p.i*5+1+p.perturb / 32) % (m+1)<=m;have:=yX (p.i*5+1+p.perturb / 32) (show 0<m+1 by lia);lia
     obtain⟨r1,r2⟩:=vJ hi;show (ji m p.i p.perturb).1+(jx m (ji m p.i p.perturb).1-(ji m p.i p.perturb).1)<=m;lia
theorem bi(t:SetTable)(h:Int):(t.probeStart h).j+(t.probeStart h).more<=t.mask:=by
 have hi:jd h % (t.mask+1)<=t.mask:=by have:=yX (jd h) (show 0<t.mask+1 by lia);lia
 obtain⟨r1,r2⟩:=vJ hi;show jd h % (t.mask+1)+(jx t.mask (jd h % (t.mask+1))-jd h % (t.mask+1))<=t.mask;lia
def u3(knd:KeyKind prog w K)(h:Heap)(a:Addr)(L:List (List K×Addr)):Prop:=∃o es ep t,h.get? a=some o/\o.ExactSet/\o.data= .set es ep t/\TpS knd h L es t/\t.led= (!byT w)/\(0<es.size->t.plain=false)
theorem aK(ho:s.heap.get? a=some o)(hd:o.data= .set es ep t):(s.heap.update a (XB uh t')).get? a=some {o with data:=.set uh (ep+1) t'}:=by have:=jM (XB uh t') ho (by rw[putSet_of uh t' hd];rfl);rw[putSet_of uh t' hd]at this;exact this
theorem Tb.plain(T:Tb t es):Tb {t with plain:=false} es:=⟨T.dm,T.up,T.sz,T.le,T.fu,T.rch⟩
theorem LV(ho:s.heap.get? a=some o)(ud:o.ExactSet)(hd:o.data= .set es ep t)(tb:Tb t es)(pm:es.toList.Perm (L.map (elT knd)))(hk:∀q∈L,yh knd s.heap q.1 q.2)(hm:t.mask=7/\es.size=5\/t.mask=31/\es.size=19)(hl:t.led= (!byT w))(uf:t.plain=false)
 (h:∀h',yA a s.heap h'->u3 knd h' a L->R () {s with heap:=h'}):zo (zA prog w) A (setRelay a (Yx es.size)) R E s:=by
 have hg:Yx es.size=es.size*4:=by unfold Yx;rw[if_neg (by lia)]
 have hsa:Zr (es.size*4)-1=31/\es.size=5\/Zr (es.size*4)-1=127/\es.size=19:=by
  rcases hm with⟨_,e⟩|⟨_,e⟩<;>rw[e]
  ·exact .inl ⟨by decide,rfl⟩
  ·exact .inr ⟨by decide,rfl⟩
 have hF:y4 (Zr (es.size*4)-1):=by
  rcases hsa with⟨e,_⟩|⟨e,_⟩<;>rw[e]
  ·exact BY
  ·exact oZ
 have tq:t.fits es.size=true:=by unfold Jq Jr;rw[tb.sz,tb.dm];simp;lia
 obtain⟨t',order,el,T',hop,h1,h2,h3⟩:=Hw hF es (by lia);have hos:(order.filterMap (es[·]?)).size=es.size:=by rw[<-zF,hop.length_eq,zF]
 rw[hg];unfold setRelay;refine za (jz ho hd tq ?_);refine jR (λz=>absurd z (Nat.not_lt.mpr (zS (show Zr (es.size*4)<=128 by lia) (by decide)))) (λ_=>?_);refine za ?_;have er:t.relaid (es.map (·.1)) (es.size*4)=some (t',order):=el;rw[er];refine jR (λz=>absurd z (by rw[hos];simp)) (λ_=>ze ?_);refine wpAny_storeSet_of ho hd ?_ (fits_of_scanBound (by rw[hos];exact Nat.lt_of_le_of_lt (show es.size<=63 by lia) (by decide)));have sb:=yq s.heap a (XB (order.filterMap (es[·]?)) t');refine h _ sb ⟨_,_,_,t',aK ho hd,ud,rfl,⟨T',hop.trans pm,λq hq=>SH (hk q hq) ho hd sb,?_,?_⟩,h1.trans hl,λ_=>h2.trans uf⟩
 ·rw[h3];lia
 ·rw[h3,hos];lia
theorem TpS.len(T:TpS knd h L es t):es.size=L.length:=by have:=T.pm.length_eq;rw[zf,zF]at this;exact this
theorem Pb(hu:A.units<xh)(hS:u3 knd s.heap a L)(hb:yh knd s.heap ks b)(hroom:L.length+1<64)(hv:∀ {R},R false s->zo (zA prog w) A (ZB 8 (.ref b)) R E s)
 (h:∀r h',yA a s.heap h'->u3 knd h' a (if ks∈L.map (·.1)then L else L++[(ks,b)])->Q r {s with heap:=h'}):zo (zA prog w) A (setAddHashed a (.ref b) (jP knd ks)) Q E s:=by
 have tu:=hS;obtain⟨o,es,ep,t,ho,ud,hd,T,hl,uf⟩:=hS;have hn:=T.len;have fl:=T.fl;have sm:=T.sm;unfold setAddHashed setAddHashedIn;refine jt (za (jz ho hd T.fits ?_));dsimp only;have hbs:byScan (.ref b) es=false:=rfl;rw[hbs];simp only[zy,if_false];obtain⟨j0,hj0,nj0⟩:∃j,j<=t.mask/\¬lvT t j:=by
  refine jr λz=>?_;have all:∀j∈zE (t.mask+1),j∈t.place.toList:=λj hj=>by have hj:=jn.mp hj;obtain⟨i,e⟩:=jr λy=>z ⟨j,by lia,y⟩;exact jK (by rw[zK];exact(RA T.tb.up T.tb.dm).mp e)
  have:=(List.nodup_range).length_le_of_subset all;rw[jZ,zF,T.tb.sz]at this;lia
 obtain⟨n,hnn,wk⟩:=oV T.tb.fu nj0 hj0 (jP knd ks);have on_iff:EK t L es knd ks (t.probeStart (jP knd ks))↔ks∈L.map (·.1):=by
  constructor
  ·rintro⟨i,j,q,hq,rfl,_⟩;exact zM.mpr ⟨q,hq,rfl⟩
  · intro hm;obtain⟨q,hq,rfl⟩:=zM.mp hm;have:elT knd q∈es.toList:=T.pm.mem_iff.mpr (zM.mpr ⟨q,hq,rfl⟩);obtain⟨i,hi⟩:=YM.mp this;have sd:i<es.size:=by
     have:=(xb.mp hi).1;rw[zF]at this;exact this
    have ep:t.place.toList[i]? =some (t.place[i]'(by rw[T.tb.sz];exact sd)):=by rw[zK,zU]
    refine⟨i,_,q,hq,rfl,by rw[<-zK];exact hi,(RA T.tb.up T.tb.dm).mpr (by rw[<-zK];exact ep),?_⟩;exact T.tb.rch (elT knd q,_) (jK (by rw[List.getElem?_zip_eq_some];exact⟨hi,ep⟩))
 refine za ?_;unfold setSearch;refine wf hu ho hd T hb n 100000 (t.probeStart (jP knd ks)) none rfl wk (jc hnn (by unfold yk;lia)) hnn rfl (λon=>?_) λno j ej rj=>?_
 · have hk:=on_iff.mp on;dsimp only;refine ze ?_;have e:s= {s with heap:=s.heap}:=by cases s;rfl
   have:=h false s.heap (Heap.SameBut.refl a s.heap) (by rw[if_pos hk];exact tu);rw[e];exact this
 · have hk:ks∉L.map (·.1):=λz=>no (on_iff.mpr z);rw[if_neg hk]at h;dsimp only;refine za (jz ho hd T.fits ?_);dsimp only;have hjm:j<=t.mask:=Gq rj (bi t _);obtain⟨T1,p1,m1,l1,pl1,mv1⟩:=T.tb.put ej hjm rj;have pm1:(jN es (t.put j).2 (jP knd ks,Value.ref b)).toList.Perm ((L++[(ks,b)]).map (elT knd)):=by
    rw[zY];exact(p1.trans ((T.pm.cons _))).trans (JM ..).symm
   have sz1:(jN es (t.put j).2 (jP knd ks,Value.ref b)).size=es.size+1:=by rw[<-zF,p1.length_eq,zu,zF]
   have hk1:∀q∈L++[(ks,b)],yh knd s.heap q.1 q.2:=λq hq=>(zR.mp hq).elim (T.ks q) λz=>by rw[zm.mp z];exact hb
   have tail:∀t2:SetTable,Tb t2 (jN es (t.put j).2 (jP knd ks,Value.ref b))->t2.mask=t.mask->t2.led= (!byT w)->t2.plain=false->zo (zA prog w) A (do
    storeSet a (jN es (t.put j).2 (jP knd ks,Value.ref b)) t2
    if !false&&t2.tooFull then setRelay a (Yx (es.size+1))
    return true) Q E s:=λt2 T2 m2 l2 q2=>by
    have sb:=yq s.heap a (XB (jN es (t.put j).2 (jP knd ks,Value.ref b)) t2);refine za (wpAny_storeSet_of ho hd ?_ (fits_of_scanBound (by rw[sz1];exact Nat.lt_of_le_of_lt (show es.size+1<=63 by lia) (by decide))));have tf:t2.tooFull=decide ((es.size+1)*5>=t.mask*3):=by unfold SetTable.tooFull Jr;rw[T2.sz,T2.dm,m2,sz1];rfl
    rw[tf];by_cases c:(es.size+1)*5>=t.mask*3
    ·rw[decide_eq_true c];simp only[JN,Bool.true_and,if_true];refine za ?_;have:=LV (s:={s with heap:=s.heap.update a (XB (jN es (t.put j).2 (jP knd ks,Value.ref b)) t2)}) (E:=E) (A:=A) (R:=λ_ s'=>zo (zA prog w) A (pure true) Q E s') (aK ho hd) ud rfl T2 pm1 (λq hq=>SH (hk1 q hq) ho hd sb) (by rw[m2,sz1];lia) l2 q2 λh' sb' S'=>ze (h true h' (sb.trans sb') S');rw[sz1]at this;exact this
    ·rw[decide_eq_false c];simp only[JN,Bool.true_and,zy,if_false];refine ze (h true _ sb ⟨_,_,_,t2,aK ho hd,ud,rfl,⟨T2,pm1,λq hq=>SH (hk1 q hq) ho hd sb,by rw[m2];exact sm,by rw[m2,sz1];lia⟩,l2,λ_=>q2⟩)
   rw[pl1];rcases hp:t.plain with _|_
   ·simp only[zy,if_false];refine za (ze ?_);simp only[if_true];exact tail _ T1 m1 (l1.trans hl) (pl1.trans hp)
   ·simp only[if_true];refine za (hv ?_);simp only[zy,if_false];exact tail _ T1.plain m1 (l1.trans hl) rfl
end
end DL
namespace DL
open PySem PySem.Spec L2
open PyProof.Rows hiding St
section
variable{K:Type}[DecidableEq K]
def ddP(L:List (List K×Addr))(q:List K×Addr):List (List K×Addr):=if q.1∈L.map (·.1)then L else L++[q]
theorem EH:∀(l L:List (List K×Addr)),(l.foldl ddP L).length<=L.length+l.length
 |[],L=>zh _
 |q::l,L=>by
   have:=EH l (ddP L q);rw[xB,zu];have h:(ddP L q).length<=L.length+1:=by unfold ddP;split<;>simp
   lia
theorem tJ:∀(l L:List (List K×Addr)) q,q∈l.foldl ddP L->q∈L\/q∈l
 |[],L,q,h=>.inl h
 |x::l,L,q,h=>by
   rcases tJ l (ddP L x) q h with h|h
   · unfold ddP at h;split at h
     ·exact .inl h
     · rcases zR.mp h with h|h
       ·exact .inl h
       ·exact .inr (by rw[zm.mp h];exact zv ..)
   ·exact .inr (zl _ h)
end
section
variable{prog:zV}{w:je}{A:jm}{R:Result->zw->Prop}{I:Addr}{fp wr:List Addr}{G:Array GenState->Array GenState->Prop}{n:Nat}{P:Nat->zg->Prop}{St:Nat->zw->Prop}{K:Type}[DecidableEq K]{knd:KeyKind prog w K}
theorem RE(x:yh knd h ks b)(k:∀o,h.get? b=some o->h'.get? b=some o):yh knd h' ks b:=by obtain⟨o,items,n,ho,r⟩:=x;exact⟨o,items,n,k o ho,r⟩
theorem u3.congr(hS:u3 knd h a L)(e:∀o,h.get? a=some o->h'.get? a=some o)(k:∀q∈L,∀o,h.get? q.2=some o->h'.get? q.2=some o):u3 knd h' a L:=by obtain⟨o,es,ep,t,ho,ud,hd,T,r⟩:=hS;exact⟨o,es,ep,t,e o ho,ud,hd,⟨T.tb,T.pm,λq hq=>RE (T.ks q hq) (k q hq),T.sm,T.fl⟩,r⟩
def VI(knd:KeyKind prog w K)(q:List K×Addr):Prop:=∀ {A:jm} {E:VSP} {s:zw} {R:Bool->zw->Prop},yh knd s.heap q.1 q.2->R false s->zo (zA prog w) A (ZB 8 (.ref q.2)) R E s
theorem cn(W:WalksS prog w A.in1 I fp wr G n P St)(S:Addr)(hSf:S∉fp)(xs:List (List K×Addr))(hn:xs.length=n)(hval:∀i v,P i v->∃q,xs[i]? =some q/\v= .ref q.2)(hb:n+1<64)(hu:A.units+8<xh)(hw:∀q∈xs,q.2∉S::wr)(hv:∀q∈xs,VI knd q):
 ∀k i (s:zw),n-i=k->i<=n->St i s->(∀q∈xs,yh knd s.heap q.1 q.2)->u3 knd s.heap S ((xs.take i).foldl ddP [])->
  (∀s',Moved (S::wr) G s s'->u3 knd s'.heap S (xs.foldl ddP [])->R (.ok (.ret .none)) s')->
  xZ (zA prog w) A (.builtin "set.update.loop" ⟨[.ref S,.ref I], []⟩) R s:=by
 have hSw:S∉wr:=λh=>hSf (W.sub _ h);have hsub:∀b∈wr,b∈S::wr:=λb hb=>zl _ hb;have sub:∀i,∀q∈(xs.take i).foldl ddP [],q∈xs:=λi q hq=>List.mem_of_mem_take ((tJ _ _ q hq).resolve_left λh=>nomatch h);have nw:∀q∈xs,q.2∉wr:=λq hq z=>hw q hq (zl _ z);intro k
 induction k with
 |zero=>
   intro i s hk hi hst ht hS hR;have hin:i=n:=by omega
   subst hin;refine yt F.entry_set_update_loop ?_;rw[jS YG _];show zo _ A.in1 (xf (.ref I) >>= _) _ _ s;refine za (W.done s _ _ hst λs' hm=>?_);show zo _ A.in1 (ret Value.none) _ _ s';have sb:=sub i;rw[yP (by omega)]at hS sb;exact ze (hR s' (hm.mono hsub) (hS.congr (λo e=>hm.heap S _ hSw e) λq hq o e=>hm.heap _ _ (nw q (sb q hq)) e))
 |succ k ih=>
   intro i s hk hi hst ht hS hR;have sd:i<n:=by omega
   refine yt F.entry_set_update_loop ?_;rw[jS YG _];show zo _ A.in1 (xf (.ref I) >>= _) _ _ s;refine za (W.item i s _ _ sd hst λv s' hP hst' hm=>?_);obtain⟨q,ex,rfl⟩:=hval i v hP;have hq:q∈xs:=jK ex;have tu:=hS.congr (λo e=>hm.heap S _ hSw e) λq hq o e=>hm.heap _ _ (nw q (sub i q hq)) e;have ht':∀q∈xs,yh knd s'.heap q.1 q.2:=λq hq=>RE (ht q hq) λo e=>hm.heap _ _ (nw q hq) e;show zo _ A.in1 (Yw [Value.ref q.2] (setAdd S (.ref q.2)) >>= _) _ _ s';refine za (jt ?_);unfold setAdd;refine jt ?_;have hu1:A.in1.units<xh:=by rw[Around.in1_units];omega
   refine za (wpAny_pyHash_tuple hu1 (ht' q hq) ?_);have hl:=EH (xs.take i) [];rw[jW]at hl;refine Pb hu1 tu (ht' q hq) (by simp at hl;omega) (λhr=>hv q hq (ht' q hq) hr) λb h' hsb hS2=>?_;have e2:(xs.take (i+1)).foldl ddP []=ddP ((xs.take i).foldl ddP []) q:=by rw[List.take_succ,ex,List.foldl_append];rfl
   refine ze ⟨yJ YG _,ih (i+1) _ (by omega) sd (W.frame _ s' _ _ hst' (by simp) λb hb o e=>?_) (λq hq=>RE (ht' q hq) λo e=>?_) (by rw[e2];exact hS2) λs'' hm'' hS''=>?_⟩
   ·rw[hsb.2 b (λh:b=S=>hSf (by rw[<-h];exact hb))];exact e
   ·rw[hsb.2 _ (λh=>hw q hq (by rw[h];exact zv ..))];exact e
   ·refine hR s'' (Moved.trans W.gtrans ((hm.mono hsub).then_heap (by simp) λb o hb e=>?_) hm'') hS'';rw[hsb.2 b (λh:b=S=>hb (by rw[h];exact zv))];exact e
end
theorem mZ:Tb (XZ f m led) #[]:=⟨rfl,λi k a b ha=>by simp[XZ]at ha,rfl,λj hj=>by simp[XZ]at hj,Fc,λq hq=>by simp at hq⟩
theorem vW{K:Type}[DecidableEq K]{knd:KeyKind prog w K}{a:Addr}(e:h.get? a=some {cls:=.type "set",dict:=none,data:=.set #[] 0 (.fresh 0 0 (!byT w))}):u3 knd h a []:=
 ⟨_, #[],0,_,e,⟨rfl,rfl,rfl⟩,rfl,⟨mZ,.nil,λ_ h=>(nomatch h),.inl rfl,by show 0*5<7*3;decide⟩,rfl,λh=>by simp at h⟩
section
variable{prog:zV}{w:je}{A:jm}{E:VSP}{s:zw}{K:Type}[DecidableEq K]{knd:KeyKind prog w K}{items:Array zg}{xs:List (List K×Addr)}{Q:VSP}
set_option maxHeartbeats 3200000 in
theorem ky
 (hh:A.handled=none) (hl:s.heap.IsList l items) (hi:items.toList=xs.map λq=>Value.ref q.2) (ht:∀q∈xs,yh knd s.heap q.1 q.2) (hv:∀q∈xs,VI knd q) (hu:A.units+64<xh) (hb:items.size+1<64)
 (h:∀h' tk,u3 knd h' s.heap.objs.size (xs.foldl ddP [])->(∀b o,s.heap.get? b=some o->h'.get? b=some o)->Q (.ref s.heap.objs.size) {s with heap:=h',toks:=tk}):
 zo (zA prog w) A (call (.type "set") [.ref l]) Q E s:=by
 obtain⟨c,tl,hmro⟩:=xW.mro;have hmade:=xW.made;have hsub:=xW.sub;refine wpAny_call (codeAny_of_tree ?_);show zo _ _ (callAny (.type "set") _) _ _ _;refine ze ⟨Code.quiet_builtin _ (by decide +kernel),yt F.entry_type_call ?_⟩;rw[Around.under_plain (weight_type_call_type "set" [.ref l] []) rfl];have h1:=xW.notType;have h2:=xW.canCreate;have hct:=F.typeCall_set_1 (.ref l)
 repeat (any_goals (first|assumption|wp_step))
 refine ZX (kh (.ref l) (E:=E) (Q₁:=λobj W1=>obj= .ref s.heap.objs.size/\W1= {s with heap:=s.heap.push {cls:=.type "set",dict:=none,data:=.set #[] 0 (.fresh 0 0 (!byT w))}}) ⟨rfl,rfl⟩) λr W1 hr=>?_;rcases r with e|fl
 ·exact hr
 rcases fl with _|ob|_|_<;>try exact hr.elim
 obtain⟨rfl,rfl⟩:=hr;generalize hbt:(!byT w)=led at h ⊢;have hS:(s.heap.push {cls:=.type "set",dict:=none,data:=.set #[] 0 (.fresh 0 0 led)}).get? s.heap.objs.size=some {cls:=.type "set",dict:=none,data:=.set #[] 0 (.fresh 0 0 led)}:=zn _ rfl;have hT:Shared.TypeIs {s with heap:=s.heap.push {cls:=.type "set",dict:=none,data:=.set #[] 0 (.fresh 0 0 led)}} (.ref s.heap.objs.size) "set":=⟨_,hS,rfl⟩;have hli:=xW.init.lookup;have hbi:=xW.init.bind (.ref s.heap.objs.size)
 repeat (any_goals (first|assumption|wp_step))
 refine ZX (codeAny_call_builtin (R:=wants (λr s₂=>r= .none/\∃h' tk,s₂= {s with heap:=h',toks:=tk}/\u3 knd h' s.heap.objs.size (xs.foldl ddP [])/\(∀b o,s.heap.get? b=some o->h'.get? b=some o)) E) xW.init.plain F.entry_set_init (check_set_init_1 hT ?_)) λr₂ s₂ hr₂=>?_
 · obtain⟨ol,hol,hcl,nl,hdl⟩:=hl;obtain⟨ocls,odict,odata,oslots⟩:=ol;simp only at hcl hdl;subst hcl;subst hdl;have hol':(s.heap.push {cls:=.type "set",dict:=none,data:=.set #[] 0 (.fresh 0 0 led)}).get? l=some {cls:=.type "list",dict:=odict,data:=.seq items nl,slots:=oslots}:=zc _ hol;have hsls:=F.sub_list_set;have hslf:=F.sub_list_frozenset;have sf:(Value.type "list" == Value.type "dict")=false:=by decide
   have tz:(s.heap.push {cls:=.type "set",dict:=none,data:=.set #[] 0 (.fresh 0 0 led)}).IsList l items:=⟨_,hol',rfl,nl,rfl⟩;unfold jQ.«set.__init__» noKeywords Builtin.Frozenset.updateFrom;generalize hPI:Xw=PI
   wp_walk
   subst hPI;refine Zl tz ?_;refine za (wpAny_runValue ?_);have hlS:l<s.heap.objs.size:=zt hol;have hh3:A.in1.in1.in1.handled=none:=by simp[hh]
   have hneI:l≠(s.heap.push {cls:=.type "set",dict:=none,data:=.set #[] 0 (.fresh 0 0 led)}).objs.size:=by rw[jO];exact zC (jT hlS)
   have hSf:s.heap.objs.size∉ [(s.heap.push {cls:=.type "set",dict:=none,data:=.set #[] 0 (.fresh 0 0 led)}).objs.size,l]:=by rw[jO];simp only[zr,zm,zT,or_false,not_or];exact⟨zC (Zp _),xj hlS⟩
   have re:xs.length=items.size:=by rw[<-zF,hi,zf]
   have sd:∀q∈xs,q.2<s.heap.objs.size:=λq hq=>by obtain⟨o,_,_,ho,_⟩:=ht q hq;exact zt ho
   refine cn ((Walks.list hh3 _ l hneI items).toS) s.heap.objs.size hSf xs re (λi v hv=>?hval) hb (by simp only[Around.in1_units];omega) (λq hq=>?hw) hv (items.size-0) 0 _ (by omega) (zL _)
    ⟨⟨_,zn _ rfl,rfl,rfl⟩,(tz.push _)⟩ (λq hq=>RE (ht q hq) λo e=>zc _ (zc _ e)) ?hS0 ?hR
   case hval=>
    have hv:items[i]? =some v:=hv;rw[<-zK,hi,jp]at hv;obtain⟨q,e,rfl⟩:=Yl.mp hv;exact⟨q,e,rfl⟩
   case hw=>
    have:=sd q hq;rw[jO];simp only[zr,zm,zT,or_false,not_or];exact⟨zC this,zC (jT this)⟩
   case hS0=>
    refine vW ?_;rw[hbt];exact zc _ hS
   case hR=>
    intro s' hm tu;obtain⟨h',g',d',tk',os'⟩:=s';have eg:g'=s.gens:=hm.gens;have ed:d'=s.drawn:=hm.drawn;have eo:os'=s.os:=hm.os;subst eg;subst ed;subst eo;show zo _ _ _ _ _ _;refine ze ?_;show zo _ _ (ret Value.none) _ _ _;refine ze ⟨rfl,h',tk',rfl,tu,λb o e=>?_⟩;have hb:=zt e;have hb1:b≠s.heap.objs.size:=zC hb;have hb2:b≠(s.heap.push {cls:=.type "set",dict:=none,data:=.set #[] 0 (.fresh 0 0 led)}).objs.size:=by rw[jO];exact zC (jT hb)
    exact hm.heap b o (by simp only[zr,zm,zT,or_false,not_or];exact⟨hb1,hb2⟩) (zc _ (zc _ e))
 · rcases r₂ with e|fl
   ·exact hr₂
   rcases fl with _|ob|_|_<;>try exact hr₂.elim
   obtain⟨rfl,h',tk,rfl,tu,uj⟩:=hr₂
   repeat (any_goals (first|assumption|wp_step))
   exact h _ _ tu uj
end
theorem GG{l m:List β}(h:l.Perm m):∀ {L},m=L.map f->∃L':List α,l=L'.map f/\L'.Perm L:=by
 induction h with
 |nil=>exact λ{L} e=>⟨L,e,.refl _⟩
 |cons x h ih=>
   intro L e;rcases L with _|⟨q,L⟩
   ·cases e
   ·obtain⟨e1,e2⟩:=zD e;obtain⟨L',e3,p⟩:=ih e2;exact⟨q::L',by rw[zH,e1,e3],p.cons q⟩
 |swap x y l=>
   intro L e;rcases L with _|⟨q,_|⟨r,L⟩⟩
   ·cases e
   ·cases (zD e).2
   ·obtain⟨e1,e2⟩:=zD e;obtain⟨e3,e4⟩:=zD e2;exact⟨r::q::L,by rw[zH,zH,e1,e3,e4],.swap ..⟩
 |trans _ _ ih1 ih2=>
   intro L e;obtain⟨L1,e1,p1⟩:=ih2 e;obtain⟨L2,e2,p2⟩:=ih1 e1;exact⟨L2,e2,p2.trans p1⟩
section
variable{prog:zV}{w:je}{A:jm}{E:VSP}{s:zw}{a I:Addr}{K:Type}[DecidableEq K]{knd:KeyKind prog w K}{L:List (List K×Addr)}
structure QZ(prog:zV)(w:je)(A:jm)(s:zw)(a:Addr)(L:List (List K×Addr))(I:Addr)(h':Heap):Prop where
 keep:∀b o,s.heap.get? b=some o->h'.get? b=some o
 new:s.heap.objs.size<=I
 walk:∃(J:Addr) (vs:List zg) (L':List (List K×Addr)) (St:Nat->Heap->Prop),s.heap.objs.size<=J/\vs=L'.map (λq=>Value.ref q.2)/\L'.Perm L/\Walks prog w A I [I,J,a] [I] vs.length (λi v=>vs[i]? =some v) St/\St 0 h'
theorem u3.type(hS:u3 knd s.heap a L):s.TypeIs (.ref a) "set":=by obtain⟨o,es,ep,t,ho,⟨x1,_⟩,_⟩:=hS;exact⟨o,ho,x1⟩
theorem Qz{Q:VSP}(hh:A.handled=none)(hS:u3 knd s.heap a L)(h:∀I h' d',QZ prog w A s a L I h'->Q (.ref I) {s with heap:=h',drawn:=d'}):zo (zA prog w) A (Xw (.ref a)) Q E s:=by
 obtain⟨o,es,ep,t,ho,⟨x1,x2,x3⟩,hd,T,hl,uf⟩:=hS;have hf:=T.fits;have hpm:=T.pm;have hb:es.size<100:=by have:=T.fl;have:=T.sm;lia
 obtain⟨oc,od,odt,os⟩:=o;obtain rfl:oc= .type "set":=x1;obtain rfl:od=none:=x2;obtain rfl:os= #[]:=x3;obtain rfl:odt= .set es ep t:=hd;have sd:=zt ho;have sf:a≠s.heap.objs.size:=zC sd;have hne2:a≠s.heap.objs.size+1:=zC (jT sd);have hne3:(s.heap.objs.size:Addr)≠s.heap.objs.size+1:=zC (Zp _);have hz:es.size<=zi:=zS (yT hb) (by decide);refine Fv ho hf (λz ps d' hp=>?_) (λz=>?_) hz
 ·refine h _ _ d' ⟨λb o e=>zc _ (zc _ e),Ju _,?_⟩;obtain⟨l,tz,ub⟩:=gw hp;obtain⟨L',e1,e2⟩:=GG (tz.trans hpm) rfl;refine⟨s.heap.objs.size,l.map (·.2),L',_,zh _,by rw[e1,jg];rfl,e2,wkD (ep:=ep) hh hf hne2 _ hne3 ub,?_⟩;have e1:(s.heap.push {cls:=.type "tuple",data:=.seq (ps.map fun(i:Nat)=>yC i).toArray}).objs.size=s.heap.objs.size+1:=jO ..;refine⟨?_,zc _ (zc _ ho),0,zc _ (zn _ rfl)⟩;rw[<-e1];exact zn _ rfl
 · refine h _ _ s.drawn ⟨λb o e=>zc _ e,zh _,?_⟩;rcases hbt:byT w with _|_
   · have led:t.led=true:=by rw[hl,hbt];rfl
     have h1:¬(!t.plain&&decide (es.size>1))=true:=λq=>z (by rw[hbt,q];rfl);have hs:es.size<=1:=by
      rcases Zj 1 es.size with q|q
      ·exact absurd (by rw[uf (by omega),decide_eq_true q];rfl) h1
      ·exact q
     obtain⟨l⟩:=es;rcases l with _|⟨e,_|⟨_,_⟩⟩
     ·obtain⟨L',e1,e2⟩:=GG hpm rfl;exact⟨s.heap.objs.size+1, [],L',_,by omega,by rw[Xg.mp e1.symm];rfl,e2,Cm hh hbt led rfl hf sf _,zn _ rfl,zc _ ho⟩
     · have hp1:t.place.size=1:=by
        have:=hf;unfold Jq at this;rw[jy]at this;simpa using this.1
       obtain⟨p,ep1⟩:∃p,t.place= #[p]:=by
        rcases hq:t.place with⟨pl⟩;rcases pl with _|⟨p,_|⟨_,_⟩⟩
        ·rw[hq]at hp1;simp at hp1
        ·exact⟨p,rfl⟩
        ·rw[hq]at hp1;simp at hp1
       obtain⟨L',e1,e2⟩:=GG hpm rfl;exact⟨s.heap.objs.size+1, [e.2],L',_,by omega,by have:=congrArg (ZK (·.2)) e1;rw[jg]at this;exact this,e2,iw hh hbt led rfl ep1 hf sf _,zn _ rfl,zc _ ho⟩
     ·simp at hs
   ·obtain⟨L',e1,e2⟩:=GG ((ny (w.params.setOrder a ep) es).trans hpm) rfl;refine⟨s.heap.objs.size+1,_,L',_,by omega,by rw[e1,jg];rfl,e2,wkT hh hbt hf sf _ hne3.symm,zn _ rfl,zc _ ho⟩
theorem qj(hh:A.handled=none)(hS0:u3 knd s.heap a L)(S:Addr)(hSr:S≠a)(res:zg)(c₀:Nat)(hS:s.heap.get? S=some {cls:=.type "list",data:=.seq #[] c₀})(hn:L.length<=zi)
 (hR:∀h' d' tk rf c' (uc:List (List K×Addr)),(∀b o,b≠S->s.heap.get? b=some o->h'.get? b=some o)->h'.get? S=some {cls:=.type "list",dict:=none,data:=.seq rf c',slots:= #[]}->rf.toList=uc.map (λq=>Value.ref q.2)->uc.Perm L->R (.ok (.ret res)) {s with heap:=h',drawn:=d',toks:=tk}):
 zo (zA prog w) A.in1 (jV (.ref S) (.ref a) res)
  (λfin s'=>match fin with| .done f=>R (.ok f) s'| .again c'=>c'.quiet=true/\xZ (zA prog w) A c' R s') (λe s'=>R (.error e) s') s:=by
 unfold jV;refine za (xD hS0.type ?_);have h1:xK (.ref S) (.ref a)=false:=by simp[xK,hSr]
 have h2:(Value.type "set" == Value.type "list")=false:=by decide
 have h3:(Value.type "set" == Value.type "tuple")=false:=by decide
 simp only[h1,h2,h3,Xo,zy,if_false];refine za (Qz hh hS0 λI h0 d0 ⟨keep,new,J,vs,uc,St,hJ,hv,hp,W,st⟩=>?_);have hSlt:=zt hS;have halt:a<s.heap.objs.size:=by obtain⟨o,_,_,_,ho,_⟩:=hS0;exact zt ho
 have hSf:S∉ [I,J,a]:=by simp only[zr,zT,or_false,not_or];exact⟨zC (jc hSlt new),zC (jc hSlt hJ),hSr⟩
 have hvl:vs.length<=zi:=by rw[hv,zf,hp.length_eq];exact hn
 have key:∀(h:Heap) (c₁ tk:Nat),St 0 h->(∀b o,b≠S->s.heap.get? b=some o->h.get? b=some o)->
  h.get? S=some {cls:=.type "list",data:=.seq #[] c₁}->xZ (zA prog w) A (.builtin "list.extend.loop" ⟨[.ref S,.ref I,res], []⟩) R {s with heap:=h,drawn:=d0,toks:=tk}:=by
  intro h c₁ tk hst hk hS₁;refine codeAny_extend_loopS W.toS hvl S hSf res vs.length 0 _ #[] c₁ rfl (zL _) hst hS₁ (ItemsOf.nil _) λs' rf c' hm tu sv=>?_;rw[Moved.eq_with hm];refine hR s'.heap d0 s'.toks rf c' uc (λb o hb e=>hm.heap b o (λhmem=>?_) (hk b o hb e)) tu ?_ hp
  · rcases zr.mp hmem with e'|hmem
    ·exact hb e'
    ·have:=zt e;rw[zm.mp hmem]at this;exact absurd new (Nat.not_le.mpr this)
  · have:rf.toList=vs:=by
     apply XM;intro i;rcases Zj i rf.size with q|q
     ·have:=sv.2 i rf[i] (by simp[q]);rw[this,zK];simp[q]
     ·rw[zZ (by simpa using q),zZ (by rw[<-sv.1];exact q)]
    rw[this];exact hv
 have hS₁:=keep _ _ hS;refine za (jt (az (u3.type (hS0.congr (λo e=>keep _ _ e) λq _ o e=>keep _ _ e)) ?_));refine jR (λ_=>?_) (λ_=>ze ⟨yJ ZC _,key _ c₀ _ st (λb o _ e=>keep _ _ e) hS₁⟩);refine za (xE ?_);refine za ?_;show zo _ _ (updateSeq S (·.push .none) >>= λ_=>updateSeq S (·.pop)) _ _ _;refine za (wpAny_updateSeq hS₁ rfl ?_);have hS₂:=jM (zP (·.push Value.none)) hS₁ rfl;refine wpAny_updateSeq hS₂ rfl ?_;have hS₃:=jM (zP (·.pop)) hS₂ rfl;refine ze ⟨yJ ZC _,key _ _ _ ?_ (λb o hb e=>?_) hS₃⟩
 ·refine W.frame 0 _ _ st λb hb o e=>?_;have hbS:b≠S:=λh=>hSf (h▸hb);exact(yz _ _ (Ne.symm hbS)).trans ((yz _ _ (Ne.symm hbS)).trans e)
 ·exact(yz _ _ (Ne.symm hb)).trans ((yz _ _ (Ne.symm hb)).trans (keep _ _ e))
theorem kl(hh:A.handled=none)(hS0:u3 knd s.heap a L)(hn:L.length<=zi)
 (h:∀h' d' tk vs (uc:List (List K×Addr)),(∀b o,s.heap.get? b=some o->h'.get? b=some o)->vs=uc.map (λq=>Value.ref q.2)->uc.Perm L->R vs {s with heap:=h',drawn:=d',toks:=tk}):
 zo (zA prog w) A (collect (.ref a)) R E s:=by
 have halt:a<s.heap.objs.size:=by obtain⟨o,_,_,_,ho,_⟩:=hS0;exact zt ho
 unfold collect;refine za (wpAny_runValue (yt entry_proto_collect' ?_));rw[jS PySem.F.plain_proto_collect _];show zo _ A.in1 (newList [] >>= λl=>again (.builtin "list.__iadd__" ⟨[l,.ref a], []⟩)) _ _ s;refine za (yd ?_);refine ze ⟨yJ JK _,yt entry_list_iadd' ?_⟩;rw[jS JK _];have hS₁:(s.heap.push {cls:=.type "list",data:=.seq ([]:List zg).toArray}).get? s.heap.objs.size=some {cls:=.type "list",data:=.seq #[]}:=zn _ rfl;show zo _ A.in1 (jV (.ref s.heap.objs.size) (.ref a) (.ref s.heap.objs.size)) _ _ _;have key:=qj (s:={s with heap:=s.heap.push {cls:=.type "list",data:=.seq ([]:List zg).toArray}})
  (R:=fun(q:Result) (s':zw)=>∃(h':Heap) (d':_) (tk:Nat) (rf:Array zg) (c':Nat) (uc:List (List K×Addr)),q= .ok (.ret (.ref s.heap.objs.size))/\s'= {s with heap:=h',drawn:=d',toks:=tk}/\
    (∀b o,s.heap.get? b=some o->h'.get? b=some o)/\h'.get? s.heap.objs.size=some {cls:=.type "list",dict:=none,data:=.seq rf c',slots:= #[]}/\rf.toList=uc.map (λq=>Value.ref q.2)/\uc.Perm L)
  hh (hS0.congr (λo e=>zc _ e) λq _ o e=>zc _ e) s.heap.objs.size (xj halt) (.ref s.heap.objs.size) 0 hS₁ hn
  (λh' d' tk rf c' uc hk tu hv hp=>⟨h',d',tk,rf,c',uc,rfl,rfl,λb o e=>hk b o (zC (zt e)) (zc _ e),tu,hv,hp⟩)
 refine jE key (λfin s' x=>?_) λe s' x=>?_
 · cases fin with
   |done f=>
     obtain⟨h',d',tk,rf,c',uc,e,rfl,hk,tu,hv,hp⟩:=x
     cases e
     show zo _ A (load s.heap.objs.size >>= _) _ _ _;refine za (wpAny_load tu ?_);exact ze (h h' d' tk rf.toList uc hk hv hp)
   |again c₁=>
     refine⟨x.1,ZX x.2 λq s₂ y=>?_⟩;obtain⟨h',d',tk,rf,c',uc,rfl,rfl,hk,tu,hv,hp⟩:=y;show zo _ A (load s.heap.objs.size >>= _) _ _ _;refine za (wpAny_load tu ?_);exact ze (h h' d' tk rf.toList uc hk hv hp)
 · obtain⟨_,_,_,_,_,_,e',_⟩:=x
   cases e'
end
section
variable{prog:zV}{w:je}{A:jm}{E:VSP}{s:zw}
theorem Qx{n:Nat}{vs:List zg}{qs:List (Int×Str)}(hl:qs.length=vs.length)(td:vs.length<64)(ho:s.heap.get? a=some (zO "list" vs.toArray n))(hp:∀(i:Nat) q,qs[i]? =some q->∃u,vs[i]? =some u/\E5 s.heap u q)(nd:qs.Nodup)
 (h:∀(h':Heap) e (p:List Nat),p.Perm (zE vs.length)->p.Pairwise (λi j=>W2 (qs.getD i (0, "")) (qs.getD j (0, ""))=true)->(∀b o,b≠a->s.heap.get? b=some o->h'.get? b=some o)->h'.get? a=some (zO "list" (zI (p.map λi=>vs.getD i .none)) e)->P (.done (.ret .none)) {s with heap:=h'}):
 zo (zA prog w) A (jQ.«list.sort» ⟨[.ref a], []⟩) P E s:=by
 have ha:a<s.heap.objs.size:=zt ho;obtain⟨e1,ho1⟩:∃e1,(s.heap.update a (zP λ_=>(#[]:Array zg))).get? a=some (zO "list" #[] e1):=⟨_,xl ho λ_=> #[]⟩;have k1:∀b o,b≠a->s.heap.get? b=some o->(s.heap.update a (zP λ_=>(#[]:Array zg))).get? b=some o:=λb o hb e=>by rw[jq _ _ _ _ hb];exact e
 rw[list_sort_plain];refine za (Yc ho rfl (za (yi ho rfl ?_ (by rw[zk,jl];lia) (zL _))));refine za (xX ho1 rfl (za (Zm ?_ (by show vs.length<=_;rw[jl];lia))));refine za (xr ?_ (zL _));refine jt ?_;have sj:(((s.heap.update a (zP λ_=>(#[]:Array zg))).push (zO "tuple" vs.toArray 0)).push (zO "list" #[] 0)).get? a=some (zO "list" #[] e1):=zc _ (zc _ ho1);have k2:∀b o,b≠a->s.heap.get? b=some o->(((s.heap.update a (zP λ_=>(#[]:Array zg))).push (zO "tuple" vs.toArray 0)).push (zO "list" #[] 0)).get? b=some o:=λb o hb e=>zc _ (zc _ (k1 b o hb e));show zo (zA prog w) A _ P E {s with heap:=((s.heap.update a (zP λ_=>(#[]:Array zg))).push (zO "tuple" vs.toArray 0)).push (zO "list" #[] 0)};generalize ((s.heap.update a (zP λ_=>(#[]:Array zg))).push (zO "tuple" vs.toArray 0)).push (zO "list" #[] 0)=hh at sj k2;dsimp only;have hp':∀(i:Nat) q,qs[i]? =some q->∃u,vs[i]? =some u/\E5 hh u q:=λi x e=>by
  obtain⟨u,e1,b,t,t',rfl,o,hb,hc,n',hd⟩:=hp i x e;refine⟨_,e1,b,t,t',rfl,o,k2 b _ (λz=>?_) hb,hc,n',hd⟩;rw[z,ho]at hb
  cases hb
  simp[zO]at hc
 have fin:∀p:List Nat,p.Perm (zE vs.length)->p.Pairwise (λi j=>W2 (qs.getD i (0, "")) (qs.getD j (0, ""))=true)->P (.done (.ret .none)) {s with heap:=hh.update a (zP λ_=>zI (p.map λi=>vs.getD i .none))}:=λp pm pw=>by obtain⟨e,he⟩:∃e,(hh.update a (zP λ_=>zI (p.map λi=>vs.getD i .none))).get? a=some (zO "list" (zI (p.map λi=>vs.getD i .none)) e):=⟨_,xl sj λ_=>_⟩;exact h _ e p pm pw (λb o hb q=>by rw[jq _ _ _ _ hb];exact k2 b o hb q) he
 have tail:∀p:List Nat,p.Perm (zE vs.length)->(zI (p.map λi=>vs.getD i Value.none)).size<=zi+1:=λp pm=>by rw[zk,zf,pm.length_eq,jZ,jl];lia
 by_cases h2:vs.toArray.size<2
 · rw[if_pos h2,if_pos h2];refine za (ze ?_);rw[Yp];refine za (ze ?_);dsimp only;have hn:vs.length<2:=by simpa using h2
   have hv:(Yy (Jt general' (vs.toArray.zip vs.toArray) #[] 7 none)).map (·.2)=zI ((zE vs.length).map λi=>vs.getD i Value.none):=by
    show (vs.toArray.zip vs.toArray).map (·.2)=_;apply xo.mp;rw[Yi];apply yr
    ·simp
    ·intro i hi hj;simp at hi hj ⊢;simp[hj]
   rw[hv];refine za (xX sj rfl (za (yi sj rfl ?_ (zL _) (tail _ (.refl _)))));simp only[bne_self_eq_false,zy,if_false];refine ze (fin _ (.refl _) ?_)
   match hn:vs.length,hn with
   |0,_=>simp
   |1,_=>simp[YH]
 · rw[if_neg h2,if_neg h2];have hn2:2<=vs.length:=by simpa using h2
   let lt:Nat->Nat->Bool:=λi j=>W2 (qs.getD i (0, "")) (qs.getD j (0, ""))
   have gq:∀i,i<vs.length->qs[i]? =some (qs.getD i (0, "")):=λi hi=>by rw[zp,zq (by lia)];rfl
   have O:m6 lt vs.length:=⟨λi j k h1 h2=>oA h1 h2,λi j hi hj hij h=>GB (λee=>hij (by
    have e1:=gq i hi;have e2:=gq j hj;rw[ee]at e1;have li:i<qs.length:=by lia
    exact(List.getElem?_inj li nd).mp (e1.trans e2.symm))) h⟩
   obtain⟨kd,hkd,sd⟩:=CS (s:={s with heap:=hh}) hl hn2 (.inl hp');refine za (hkd _ _ ?_);have run:=tOk.wp (λi j C hi hj hC=>sd i j _ _ C (gq i hi) (gq j hj) hC) _ (RQ O hn2);refine za (jE (Yk (Q:=λsh s'=>∃p:Array Nat,p.size=vs.length/\Yy sh=p.map (Ya (vs.toArray.zip vs.toArray))/\YU sh=none/\s'= {s with heap:=hh}/\J2 p vs.length/\A4 lt p vs.length) rfl hn2 td (λp sh s' a1 a2 a3 a4=>⟨p,a1,a2,a3,a4⟩) run) ?_ λ_ _ x=>x);rintro⟨⟨⟩,sh⟩ s' ⟨p,hp,har,hf,rfl,P1,U⟩;dsimp only;rw[ZY rfl har];refine za (xX sj rfl (za (yi sj rfl ?_ (zL _) (tail _ P1.pm))));rw[hf];simp only[bne_self_eq_false,zy,if_false];refine ze (fin _ P1.pm ?_);rw[xa];intro i j hi hj hij;have hi':i<p.size:=by simpa using hi
   have hj':j<p.size:=by simpa using hj
   have:=U i j hij (by lia);simpa [ZG,hi',hj',lt]using this
end
abbrev PK:=List Key×Addr
def isP(q:PK):Prop:=∃n z,q.1= [.inl n,.inr z]
def E2:PK->Int×Str
 |([.inl n,.inr z],_)=>(n,z)
 |_=>(0, "")
section
variable{prog:zV}{w:je}{A:jm}{E:VSP}{s:zw}
theorem OM(hq:isP q)(x:yh (u5 prog w) h q.1 q.2):E5 h (.ref q.2) (E2 q):=by
 obtain⟨n,z,e⟩:=hq;obtain⟨o,items,m,ho,hc,hd,hi⟩:=x;obtain⟨ks,b⟩:=q;obtain rfl:ks= [.inl n,.inr z]:=e
 cases hi':items.toList with
 |nil=>rw[hi']at hi;cases hi
 |cons v1 r1=>
   rw[hi']at hi
   cases hi with
   |cons h1 hr=>
     cases hr with
     |cons h2 hr2=>
       cases hr2
       have h1:y8 (.inl n) _=true:=h1;have h2:y8 (.inr z) _=true:=h2;rcases w6 h1 with⟨i,t,e1,rfl⟩|⟨x,t,e1,rfl⟩
       · cases e1
         rcases w6 h2 with⟨i,t',e2,rfl⟩|⟨x,t',e2,rfl⟩
         ·cases e2
         · cases e2
           exact⟨b,t,t',rfl,o,ho,hc,m,by rw[hd];congr 1;exact xo.mp hi'⟩
       ·cases e1
theorem UU(hq:isP q):VI (u5 prog w) q:=λ{A E s R} x hr=>by
 have hT:=x.typeIs;obtain⟨b,t,t',e,o,ho,hc,m,hd⟩:=OM hq x
 cases e
 unfold ZB;refine za (xL hT F.slot_tuple_hash.lookup ?_);dsimp only;refine za (yp ho hd ?_);refine za ?_;show zo _ _ (forIn #[Value.int _ t,Value.str _ t'] _ _) _ _ s;rw[<-xw];simp only[Zs,YX];have h1:∀i t,ZB 7 (.int i t)=pure true:=λi t=>by unfold ZB;rfl
 have h2:∀i t,ZB 7 (.str i t)=pure false:=λi t=>by unfold ZB;rfl
 simp only[h1,h2,pure_bind,Xp,zy,if_false,JN,if_true];exact ze (ze hr)
theorem kO(hq:isP q)(hr:isP r)(e:E2 q=E2 r):q.1=r.1:=by
 obtain⟨ks,b⟩:=q;obtain⟨ls,c⟩:=r;obtain⟨n,z,rfl⟩:=hq;obtain⟨m,y,rfl⟩:=hr
 cases e
 rfl
theorem nv(hh:A.handled=none)(hS0:u3 (u5 prog w) s.heap a L)(hn:L.length<64)(hk:∀q∈L,isP q)(nd:(L.map (·.1)).Nodup)
 (h:∀(h1 h':Heap) d' (tk e:Nat) (L':List PK),(∀b o,s.heap.get? b=some o->h1.get? b=some o)->(∀b o,h1.get? b=some o->h'.get? b=some o)->h'.get? h1.objs.size=some (zO "list" (L'.map λq=>Value.ref q.2).toArray e)->L'.Perm L->(L'.map E2).Pairwise (λx y=>W2 x y=true)->Q (.ref h1.objs.size) {s with heap:=h',drawn:=d',toks:=tk}):
 zo (zA prog w) A (call (.builtin "sorted") [.ref a]) Q E s:=by
 have hz:L.length<=zi:=zS (yT hn) (by decide);have hks:∀q∈L,yh (u5 prog w) s.heap q.1 q.2:=by obtain⟨o,es,ep,t,ho,ud,hd,T,r⟩:=hS0;exact T.ks
 refine ZQ XD Xd Xe (args_sorted1 _) ?_;unfold jQ.«sorted»;refine za (ze ?_);refine za (kl hh hS0 hz λh1 d' tk vs L1 hkeep hv hp1=>?_);subst hv;have hl:(L1.map λq=>Value.ref q.2).length=L.length:=by rw[zf,hp1.length_eq]
 refine za (xr ?_ (by rw[hl];exact hz));have hoL:(h1.push (zO "list" (L1.map λq=>Value.ref q.2).toArray 0)).get? h1.objs.size=some (zO "list" (L1.map λq=>Value.ref q.2).toArray 0):=zn _ rfl;have nd1:(L1.map E2).Nodup:=by have n1:(L1.map (·.1)).Nodup:=(hp1.map (·.1)).nodup_iff.mpr nd;rw[List.Nodup,jJ]at n1 ⊢;exact n1.imp_of_mem λ{x y} hx hy sf e=>sf (kO (hk x (hp1.mem_iff.mp hx)) (hk y (hp1.mem_iff.mp hy)) e)
 refine za (jt (jk Yh ⟨_,hoL,rfl⟩ ZR (Qx (by rw[zf,zf]) (by rw[hl];exact hn) hoL (λi q e=>?_) nd1 λh' e p pm pw k1 k2=>⟨_,rfl,?_⟩) (args_list_sort _)))
 ·rw[jp]at e;obtain⟨x,ex,rfl⟩:=Yl.mp e;have hx:=hp1.mem_iff.mp (jK ex);refine⟨.ref x.2,by rw[jp,ex];rfl,?_⟩;obtain⟨b,t,t',eb,o,ho,r⟩:=OM (hk x hx) (hks x hx);exact⟨b,t,t',eb,o,zc _ (hkeep _ _ ho),r⟩
 · rw[zf]at pm;have lt:∀i∈p,i<L1.length:=λi hi=>jn.mp (pm.mem_iff.mp hi);have eo:(p.map λi=>(L1.map λq=>Value.ref q.2).getD i .none)= (p.map λi=>L1.getD i ([],0)).map λq=>Value.ref q.2:=by
    rw[jg];refine ym λi hi=>?_;have:=lt i hi;simp[zp,this]
   rw[eo]at k2;refine ze ⟨_,rfl,h h1 h' d' tk e (p.map λi=>L1.getD i ([],0)) hkeep (λb o hb=>k1 b o (zC (zt hb)) (zc _ hb)) k2 ((kP pm rfl).trans hp1) ?_⟩;rw[jg,jJ];refine pw.imp_of_mem λ{i j} hi hj sd=>?_;have li:=lt i hi;have lj:=lt j hj;have ei:(L1.map E2).getD i (0, "")=E2 (L1.getD i ([],0)):=by simp[zp,li]
   have ej:(L1.map E2).getD j (0, "")=E2 (L1.getD j ([],0)):=by simp[zp,lj]
   rw[ei,ej]at sd;exact sd
end
def qD(q:Int×Str):D:=.tup [.int q.1,.str q.2]
def ddQ(us:List (Int×Str))(q:Int×Str):List (Int×Str):=if q∈us then us else us++[q]
theorem TH:∀(l us:List (Int×Str)),us.Nodup->(l.foldl ddQ us).Nodup
 |[],us,h=>h
 | q :: l, us, h => TH l (ddQ us q) (by
   unfold ddQ;split
   ·exact h
   ·rename_i k;exact XI.mpr ⟨h,Zb.mpr ⟨λz=>(nomatch z),ZJ⟩,λa ha b hb e=>k (by rw[zm.mp hb]at e;rw[<-e];exact ha)⟩)
theorem HQ:∀(l us:List (Int×Str)) q,q∈l.foldl ddQ us↔q∈us\/q∈l
 |[],us,q=>by simp
 |x::l,us,q=>by
   rw[xB,HQ l (ddQ us x) q,zr];have:q∈ddQ us x↔q∈us\/q=x:=by
    unfold ddQ;split
    ·rename_i k;exact⟨.inl,λz=>z.elim id λz=>by rw[z];exact k⟩
    ·rw[zR,zm]
   rw[this,or_assoc]
theorem cN:∀(xs L:List PK),(∀q∈xs,isP q)->(∀q∈L,isP q)->(L.map (·.1)).Nodup->((xs.foldl ddP L).map E2)= (xs.map E2).foldl ddQ (L.map E2)/\((xs.foldl ddP L).map (·.1)).Nodup
 |[],L,_,_,nd=>⟨rfl,nd⟩
 |q::xs,L,hx,hL,nd=>by
   have hq:=hx q (zv ..);have mem:q.1∈L.map (·.1)↔E2 q∈L.map E2:=by
    constructor
    ·intro h;obtain⟨r,hr,e⟩:=zM.mp h;refine zM.mpr ⟨r,hr,?_⟩;obtain⟨ks,b⟩:=q;obtain⟨ls,c⟩:=r;have e:ls=ks:=e;rw[e];obtain⟨n,z,e2⟩:=hq;have e2:ks=_:=e2;rw[e2];rfl
    ·intro h;obtain⟨r,hr,e⟩:=zM.mp h;exact zM.mpr ⟨r,hr,kO (hL r hr) hq e⟩
   have e1:(ddP L q).map E2=ddQ (L.map E2) (E2 q):=by
    unfold ddP ddQ;by_cases c:q.1∈L.map (·.1)
    ·rw[if_pos c,if_pos (mem.mp c)]
    ·rw[if_neg c,if_neg λz=>c (mem.mpr z),zY];rfl
   have nd2:((ddP L q).map (·.1)).Nodup:=by
    unfold ddP;split
    ·exact nd
    · rename_i k;rw[zY];exact XI.mpr ⟨nd,Zb.mpr ⟨λz=>(nomatch z),ZJ⟩,λa ha b hb e=>k (by have hb:b=q.1:=zm.mp hb;rw[<-hb,<-e];exact ha)⟩
   have hL2:∀r∈ddP L q,isP r:=λr hr=>by
    unfold ddP at hr;split at hr
    ·exact hL r hr
    · rcases zR.mp hr with h|h
      ·exact hL r h
      ·rw[zm.mp h];exact hq
   have:=cN xs (ddP L q) (λr hr=>hx r (zl _ hr)) hL2 nd2;rw[xB,zH,xB,<-e1];exact this
theorem OL{us zs:List (Int×Str)}(nd:us.Nodup)(hp:zs.Perm us)(pw:zs.Pairwise λx y=>W2 x y=true):zs.map qD=A5 us (us.map qD):=by
 have ez:∀l:List (Int×Str),l.zip (l.map qD)=l.map λq=>(q,qD q):=λl=>by have:=List.zip_map' (f:=id) (g:=qD) (l:=l);rw[Jm]at this;exact this
 have:=WH nd (z:=zs.map λq=>(q,qD q)) (by rw[ez];exact hp.map _) (by rw[jJ];refine pw.imp λ{x y} h=>?_;show (!W2 y x)=true;rw[yK];refine xJ.mpr λh2=>?_;have:=oA h h2;rw[oE]at this;cases this)
 rw[jg]at this;exact this
def PJ:D->M D:=λd=>match d with
 | .ref r=>do
   match <-K5 r with
   | .lst l=>do
     let qs <-U1 (S4 pA l)
     if qs.length<62 then J5 (.lst (A5 (qs.foldl ddQ []) ((qs.foldl ddQ []).map qD)))else M.stuck
   |_=>M.stuck
 |_=>M.stuck
def VE(fa:Fe):Fe:=λσ=>fa σ >>= PJ
theorem dM:∀L:List PK,(∀q∈L,∃v,d7 c μ H (qD (E2 q)) v/\t6 v (.ref q.2))->∃ws,m7 ws (L.map λq=>Value.ref q.2)/\j6 c μ H ((L.map E2).map qD) ws/\ws.length=L.length
 |[],_=>⟨[],.nil,rfl,rfl⟩
 |q::r,h=>by obtain⟨v,h1,h2⟩:=h q (zv ..);obtain⟨ws,a1,a2,a3⟩:=dM r λx hx=>h x (zl _ hx);exact⟨v::ws,.cons h2 a1,⟨v,ws,rfl,h1,a2⟩,by simp[a3]⟩
theorem ie(hu:X.A.units+64<xh)(hc:X.calm=true)(uk:BLs X.mg)(hg1:Gl X "sorted")(hg2:Gl X "set")(ha:DE X Z ea fa)(sa:O1 ea=true):DE X Z (.Call (.Name "sorted" p) [.Call (.Name "set" p1) [ea] [] q1] [] pos) (VE fa):=⟨by
 intro pins s σ H Q I h;refine xc (D6 I hg1 (uk.h _ (by decide +kernel)) vE ?_ (by decide) (by decide));refine h.elim λX9 μ G sr hr pp=>?_;refine callWith_builtin1 (Za ?_) rfl rfl;refine xc (D6 I hg2 (uk.h _ (by decide +kernel)) Gg ?_ (by decide) (by decide));refine callWith_type1 ?_ (T8 sa) rfl;rw[T8 sa];have pa:=c7.bind pp;refine Za (thn (ha.h pins s σ H (λv H1=>∃x X0 G1,m8 (wc X) X0 G1 H1/\d7 (wc X) X0 H1 x v/\c7 (wc X) Z X0 H1 (PJ x G1) λd X2 _ H'=>∀v,d7 (wc X) X2 H' d v->Q v H') I ⟨X9,μ,G,sr,hr,pa.mono λd X0 G1 H1 x1 h1 p1 v rv=>⟨d,X0,G1,h1,rv,p1⟩⟩) λu s1 hE=>hE.elim λv H1 I1 r1 q=>?_);obtain⟨x,X0,G1,hr1,rv1,pp1⟩:=q;obtain⟨i,rfl⟩:∃i,x= .ref i:=match x,pp1 with
  | .ref i,_=>⟨i,rfl⟩
 obtain⟨o,g,p2⟩:=G9 (show c7 (wc X) Z X0 H1 ((K5 i >>= λo=>match o with
  | .lst l => (do
    let qs <-U1 (S4 pA l)
    if qs.length<62 then J5 (.lst (A5 (qs.foldl ddQ []) ((qs.foldl ddQ []).map qD)))else M.stuck:M D)
  |_=>M.stuck) G1) _ from pp1)
 unfold d7 at rv1;obtain⟨a,m,rfl⟩:=rv1;have ro:=hr1.obj i o a g m;rcases o with l|l|l|l<;>try exact p2.elim
 obtain⟨vs,q,rl⟩:=ro;obtain⟨qs,es,p3⟩:=O5 p2;split at p3
 case isFalse=>exact p3.elim
 rename_i td
 cases r1
 refine Zf ?_;obtain⟨qu,rv,pl,hz⟩:=I1.list (SqL.of q);obtain⟨re,hall⟩:=mG (P:=λu q=>E5 s1.heap u q/\∃v,d7 (wc X) X0 H1 (qD q) v/\t6 v u) (λd q v u h1 rd ru=>by
  unfold pA at h1;split at h1
  · cases h1
    refine⟨?_,v,rd,ru⟩;unfold d7 at rd;obtain⟨ad,vs,rfl,q,rl⟩:=rd;obtain⟨v1,t1,rfl,e1,v2,t2,rfl,e2,e3⟩:=rl
    cases e3
    rw[T7 e1,Q1 e2]at q
    cases ru
    obtain⟨qu,rvs,tp,_⟩:=I1.tuple q
    cases rvs with
    |cons r1 rr1=>
      cases rr1 with
      |cons r2 rr2=>
        cases rr2
        obtain⟨t,rfl⟩:=r1;obtain⟨t',rfl⟩:=r2;exact⟨ad,t,t',rfl,tp⟩
  ·cases h1) es rl rv
 obtain⟨xs,exs,exk,hisP,htk,hrep⟩:∃xs:List PK,qu=xs.map (λq=>Value.ref q.2)/\xs.map E2=qs/\(∀q∈xs,isP q)/\(∀q∈xs,yh (u5 X.prog X.w) s1.heap q.1 q.2)/\∀q∈xs,∃v,d7 (wc X) X0 H1 (qD (E2 q)) v/\t6 v (.ref q.2):=by
  clear es p3 td rl rv pl hz
  induction qs generalizing qu with
  |nil=>
    obtain rfl:qu= []:=List.length_eq_zero_iff.mp re.symm;exact⟨[],rfl,rfl,λ_ h=>(nomatch h),λ_ h=>(nomatch h),λ_ h=>nomatch h⟩
  |cons q qs ih=>
    rcases qu with _|⟨u,qu⟩
    ·cases re
    · obtain⟨u',eu,⟨b,t,t',rfl,o,ho,hcl,n,hdt⟩,v,h1,h2⟩:=hall 0 q rfl
      cases eu
      obtain⟨xs,e1,e2,e3,e4,e5⟩:=ih qu (by simpa using re) (λi q hq=>by simpa using hall (i+1) q (by simpa using hq));refine⟨([.inl q.1,.inr q.2],b)::xs,by rw[zH,e1],by rw[zH,e2];rfl,λx hx=>?_,λx hx=>?_,λx hx=>?_⟩
      · rcases zr.mp hx with rfl|hx
        ·exact⟨q.1,q.2,rfl⟩
        ·exact e3 x hx
      · rcases zr.mp hx with rfl|hx
        ·exact⟨o,_,n,ho,hcl,hdt,.cons (qS ..) (.cons (nM ..) .nil)⟩
        ·exact e4 x hx
      · rcases zr.mp hx with rfl|hx
        ·exact⟨v,h1,h2⟩
        ·exact e5 x hx
 have hlx:xs.length=qs.length:=by rw[<-exk,zf]
 have hc1:X.A.handled=none:=I1.ok.hd hc;refine ky hc1 pl.isList (by simpa using exs) htk (λq hq=>UU (hisP q hq)) hu (by rw[zk,<-re];omega) λh1 tk1 hT k1=>?_;have I2:Inv X pins σ H1 {s1 with heap:=h1,toks:=tk1}:=I1.kept k1;refine Zf ?_;obtain⟨ek,ndk⟩:=cN xs [] hisP (λ_ h=>nomatch h) ZJ;have hdl:=EH xs [];have hsub:∀q∈xs.foldl ddP [],q∈xs:=λq hq=>(tJ xs [] q hq).resolve_left λh=>nomatch h;refine nv (I2.ok.hd hc) hT (by simp at hdl;omega) (λq hq=>hisP q (hsub q hq)) ndk λh2 h' d' tk e L' k2 k3 he hp pw=>?_;have eq1:(L'.map E2).map qD=A5 (qs.foldl ddQ []) ((qs.foldl ddQ []).map qD):=by refine OL (TH _ _ ZJ) ?_ pw;have:=hp.map E2;rw[ek,exk]at this;exact this
 have I3:Inv X pins σ H1 {s1 with heap:=h2,drawn:=d',toks:=tk}:=Th (I2.kept k2);obtain⟨ws,rv',rl2,lw⟩:=dM (μ:=X0) L' λq hq=>hrep q (hsub q (hp.mem_iff.mp hq));rw[eq1]at rl2;have hf:=I3.hok.fresh (zh _);have hlw:ws.length<=zi:=by
  have:(64:Nat)<=zi:=by decide
  rw[lw,hp.length_eq];simp at hdl;omega
 exact⟨.ref h2.objs.size,upd H1 h2.objs.size (.lst ws),I3.laid k3 (zh _) ⟨hlw,_,e,rv',he⟩,rfl,O6 hr1 rl2 p3 _ hf⟩⟩
end DL
namespace W
open PySem PySem.Spec L2 DL
open PyProof.Rows hiding St
theorem Fp(ea:fa σ G=some (.ok (.ref r),G1))(e:G1[r]? =some (.lst l))(hs:S4 pA l=some qs)(h62:qs.length<62)(q:Q (.ref G1.length) (G1++[.lst (A5 (qs.foldl ddQ []) ((qs.foldl ddQ []).map qD))])):Wp (VE fa σ) G Q:=by refine d9.mpr (b8 ea ?_);unfold PJ;simp only[d9,M5,e,Q0,n9,hs,if_pos h62,M4];exact q
end W
namespace DL
open PySem PySem.Spec L2
open PyProof.Rows hiding St
section
theorem HW{n:Nat}(ho:s.heap.get? a=some o)(hc:o.cls= .type "list")(hd:o.data= .seq vs.toArray n)(td:vs.length<64)(hI:IntsAre vs ns)
 (h:∀(h1 h':Heap) (tk e:Nat) out ns',(∀b o,s.heap.get? b=some o->h1.get? b=some o)->(∀b o,h1.get? b=some o->h'.get? b=some o)->h'.get? h1.objs.size=some (zO "list" out.toArray e)->IntsAre out ns'->ns'.Perm ns->ns'.Pairwise (· <= ·)->Q (.ref h1.objs.size) {s with heap:=h',toks:=tk}):
 zo (zA prog w) A (call (.builtin "sorted") [.ref a]) Q E s:=by
 have hz:vs.length<=zi:=zS (yT td) (by decide);refine ZQ XD Xd Xe (args_sorted1 _) ?_;unfold jQ.«sorted»;refine za (ze ?_);refine za (Yt a (.inl rfl) ho hc hd (λh1 hk=>?_) (by rw[zk];exact hz));refine za (xr ?_ hz);have hoL:(h1.push (zO "list" vs.toArray 0)).get? h1.objs.size=some (zO "list" vs.toArray 0):=zn _ rfl;refine za (jt (jk Yh ⟨_,hoL,rfl⟩ ZR (list_sort_tree hoL hI td λout ns' a1 a2 a3=>⟨_,rfl,?_⟩) (args_list_sort _)));obtain⟨e,he⟩:=sortedHeap_at hoL;refine ze ⟨_,rfl,h h1 _ s.toks e out.toList ns' hk (λb o hb=>?_) (by rw[Array.toArray_toList];exact he) a1 a2 a3⟩;have sd:b<h1.objs.size:=zt hb;rw[sortedHeap_old (zC sd) (by rw[Jl];exact jT sd),xi _ _ _ (zC sd)];exact hb
end
def WB:List D->M D:=λds=>match ds with
 |[.ref r]=>do
   match <-K5 r with
   | .lst l=>do
     let ns <-U1 (UA l)
     if ns.length<64 then J5 (.lst ((rC ns).map .int))else M.stuck
   |_=>M.stuck
 |_=>M.stuck
section
variable{X:Cx}{Z:XC}{c:Wc}{μ:List Addr}{H:Hp}
theorem IW:O7 X Z (.builtin "sorted") WB:=⟨by
 intro pins s σ H xs us Q I r rc;obtain⟨ds,μ,G,rl,hr,p⟩:=rc;rcases ds with _|⟨_|_|_|_|l|i|_|_,_|⟨_,_⟩⟩<;>try exact p.elim
 delta WB at p;dsimp only at p;obtain⟨v,rfl,rv⟩:=Q2 rl;obtain⟨u,rfl,ru⟩:=Z9 r;have rv':=rv;unfold d7 at rv';obtain⟨a,m,rfl⟩:=rv'
 cases ru
 obtain⟨o,g,p1⟩:=G9 p;have ro:=hr.obj i o a g m;rcases o with l|l|l|l<;>try exact p1.elim
 obtain⟨vs,q,si⟩:=ro;obtain⟨qu,rv,pl,hz⟩:=I.list (SqL.of q);obtain⟨o,h1,h2,n,h3⟩:=pl.isList;dsimp only at p1;obtain⟨ns,es,p2⟩:=O5 p1;split at p2
 case isFalse=>exact p2.elim
 rename_i td;obtain⟨hl,hv⟩:=mP es si rv;have hI:IntsAre qu ns:=aS hl hv;refine HW h1 h2 h3 (by lia) hI λh1 h' tk e out ns' k1 k2 he hS hp hs=>?_;have e2:=Wh hp hs;subst e2;obtain⟨ws,ew,rv',rl2⟩:=eS (μ:=μ) hS;have I1:Inv X pins σ H {s with heap:=h1,toks:=tk}:=I.kept k1;have hf:=I1.hok.fresh (zh _);have re:ws.length<=zi:=by rw[ew,zf,(tG ns).length_eq];exact zS (yT td) (by decide)
 exact⟨.ref h1.objs.size,upd H h1.objs.size (.lst ws),I1.laid k2 (zh _) ⟨re,out,e,rv',he⟩,rfl,O6 hr rl2 p2 _ hf⟩⟩
theorem ql(h:X.calm=true):BD WB "sorted" X Z:=⟨.inl ⟨_,IW,vE⟩⟩
end
end DL
namespace W
open PySem PySem.Spec L2 DL
open PyProof.Rows hiding St
theorem gp(e:G[r]? =some (.lst (ns.map D.int)))(td:ns.length<64):Wp (WB [.ref r]) G Q↔Q (.ref G.length) (G++[.lst ((rC ns).map .int)]):=by unfold WB;simp only[d9,M5,e,Q0,n9,vQ,if_pos td,M4]
end W
namespace DL
open PySem PySem.Spec L2
open PyProof.Rows hiding St
theorem OI:Manifest.owners.lookup (String.ofList ['d','e','s','r','e','v','e','r'].reverse)=some Manifest.sig_reversed:=by kernel_rfl
theorem Z6:Slot "reversed" "__next__" "reversed.__next__":=
 .of (owner:= "reversed") (n:= "__next__") (by rw[yR,yb];kernel_rfl) (by decide +kernel) (by decide +kernel) (by decide +kernel)
  (by first|exact .inl (by decide +kernel)|exact .inr (by decide +kernel)) (by rw[xg];kernel_rfl)
theorem DR:Slot "reversed" "__iter__" "reversed.__iter__":=
 .of (owner:= "reversed") (n:= "__iter__") (by rw[yR,yb];kernel_rfl) (by decide +kernel) (by decide +kernel) (by decide +kernel)
  (by first|exact .inl (by decide +kernel)|exact .inr (by decide +kernel)) (by rw[xg];kernel_rfl)
theorem RK:Slot "reversed" "__length_hint__" "reversed.__length_hint__":=
 .of (owner:= "reversed") (n:= "__length_hint__") (by rw[yR,yb];kernel_rfl) (by decide +kernel) (by decide +kernel) (by decide +kernel)
  (by first|exact .inl (by decide +kernel)|exact .inr (by decide +kernel)) (by rw[xg];kernel_rfl)
theorem NU:Slot "reversed" "__init__" "object.__init__":=
 .of (owner:= "object") (n:= "__init__") (by rw[yR,yb];kernel_rfl) (by decide +kernel) (by decide +kernel) (by decide +kernel)
  (by first|exact .inl (by decide +kernel)|exact .inr (by decide +kernel)) (by rw[xg];kernel_rfl)
theorem bO:Xy table "reversed.__next__" =some jQ.«reversed.__next__»:=YR (by kernel_rfl)
theorem BU:Xy table "reversed.__length_hint__" =some jQ.«reversed.__length_hint__»:=YR (by kernel_rfl)
theorem Vv:Xy table "reversed.__iter__" =some jQ.«dict_keyiterator.__iter__»:=
 entryFor_alias (id':= "dict_keyiterator.__iter__") (by kernel_rfl) (by first|rfl|decide +kernel|(unfold String.splitOn;simp +decide [String.splitOnAux])) (by decide +kernel) (by kernel_rfl)
theorem aP(a:zg):Xz "reversed.__next__" ⟨[a], []⟩:=by unfold Xz;rw[signature?_of (id:= "reversed.__next__") (n:= ['_','_','t','x','e','n','_','_']) (o:= ['d','e','s','r','e','v','e','r']) (by kernel_rfl) OI];kernel_rfl
theorem Kg(a:zg):Xz "reversed.__iter__" ⟨[a], []⟩:=by unfold Xz;rw[signature?_of (id:= "reversed.__iter__") (n:= ['_','_','r','e','t','i','_','_']) (o:= ['d','e','s','r','e','v','e','r']) (by kernel_rfl) OI];kernel_rfl
theorem EW(a:zg):Xz "reversed.__length_hint__" ⟨[a], []⟩:=by unfold Xz;rw[signature?_of (id:= "reversed.__length_hint__") (n:= ['_','_','t','n','i','h','_','h','t','g','n','e','l','_','_']) (o:= ['d','e','s','r','e','v','e','r']) (by kernel_rfl) OI];kernel_rfl
theorem cK:TypeCalled "reversed" "reversed.__new__" "object.__init__":=
 ⟨by decide +kernel,by decide +kernel,⟨_,_,F.mro_reversed⟩,F.made_reversed,by decide +kernel,F.sub_reversed_self,NU⟩
theorem VU:Ji (.type "reversed") "__len__" =pure none:=by rw[yR,yb];kernel_rfl
theorem Bb:Ji (.type "tuple") "__reversed__" =pure none:=by rw[yR,yb];kernel_rfl
def rvO(l:Addr)(i:Int):Obj:={cls:=.type "reversed",data:=.fields #[.ref l,yC i]}
def B3(h:Heap)(a l:Addr)(i:Int):Prop:=∃o,h.get? a=some o/\o.cls= .type "reversed"/\o.data= .fields #[.ref l,yC i]
section
variable{s:zw}
theorem B3.typeIs(x:B3 s.heap a l i):s.TypeIs (.ref a) "reversed":=let ⟨o,ho,hc,_⟩:=x;⟨o,ho,hc⟩
theorem B3.at(x:B3 h a l i)(e:∀o,h.get? a=some o->h'.get? a=some o):B3 h' a l i:=let ⟨o,ho,r⟩:=x;⟨o,e _ ho,r⟩
variable{prog:zV}{w:je}{A:jm}{E:VSP}
theorem Sw(ht:xY s.heap l items)(tq:(items.size:Int)<2 ^ 63)
 (h:∀tk,Q₁ (.ref s.heap.objs.size) {s with heap:=s.heap.push (rvO l ((items.size:Int)-1)),toks:=tk}):
 xZ (zA prog w) A (.call (.builtin "reversed.__new__") ⟨[.type "reversed",.ref l], []⟩) (wants Q₁ E) s:=by
 refine codeAny_of_tree ?_;show zo _ A.in1 (do checkBuiltinCall "reversed.__new__" ⟨[.type "reversed",.ref l], []⟩;again (.builtin "reversed.__new__" ⟨[.type "reversed",.ref l], []⟩)) _ _ s;refine za (yG (F.newCall_reversed_1 _) (ze ⟨yJ F.plain_reversed_new _,yt F.entry_reversed_new ?_⟩));rw[jS F.plain_reversed_new _];unfold jQ.«reversed.__new__»;refine za (yG (newClass_reversed _) ?_)
 try dsimp only
 refine za (yG (a:=()) (by first|rfl|kernel_rfl) ?_);refine za (yG (a:=()) (by first|rfl|kernel_rfl) ?_)
 try dsimp only
 refine za (xL ht.typeIs Bb ?_)
 try dsimp only
 refine za ?_
 wp_delta
 refine za (xx (U:= "dict") (b:=false) ht.typeIs (by rw[xg];kernel_rfl) ?_);rw[if_neg zz];refine za (xL ht.typeIs jB.lookup ?_);dsimp only;rw[if_pos (by decide)];refine ze ?_;rw[if_neg (by decide)];refine za (len_tuple ht tq ?_);refine za (yG rfl ?_);dsimp only;refine za ?_;unfold Builtin.SmallTypes.newRecord;dsimp only;refine yd ?_ (by size_fits);exact ze (h _)
theorem Vh(ht:xY s.heap l items)(tq:(items.size:Int)<2 ^ 63)
 (h:∀tk,Q (.ref s.heap.objs.size) {s with heap:=s.heap.push (rvO l ((items.size:Int)-1)),toks:=tk}):zo (zA prog w) A (call (.type "reversed") [.ref l]) Q E s:=by
 refine callType_codes (Q₁:=λobj W1=>W1.TypeIs obj "reversed"/\Q obj W1) cK (F.typeCall_reversed_1 _) F.entry_object_init (Sw ht tq λtk=>⟨⟨_,zn _ rfl,rfl⟩,h tk⟩) λobj W1 h₁=>?_;exact⟨h₁.1,F.args_object_init_2 obj _,object_init_meets cK.init.lookup cK.made (by decide) prog w A.in1 _ W1 ⟨h₁.1,rfl,h₁.2⟩⟩
theorem AY{i:Nat}(hit:B3 s.heap it l (i:Int))(hl:xY s.heap l items)(hx:items[i]? =some x)(tq:(items.size:Int)<2 ^ 63)
 (hQ:∀h' tk,B3 h' it l ((i:Int)-1)->yA it s.heap h'->Q (some x) {s with heap:=h',toks:=tk}):zo (zA prog w) A (xf (.ref it)) Q E s:=by
 obtain⟨o,ho,hc,hd⟩:=id hit;have sd:i<items.size:=by
  rcases Zj i items.size with z|z
  ·exact z
  ·rw[Array.getElem?_eq_none z]at hx;cases hx
 unfold xf;refine za (yD (ju (name:=jh "__next__") hit.typeIs Z6
  (jk Z6 hit.typeIs bO ?_ (aP _))))
 unfold jQ.«reversed.__next__»;refine za (yG (a:=(Value.ref it, [])) rfl ?_)
 try dsimp only
 refine za (jG ho hd (x:=.ref l) rfl ?_);refine za (jG ho hd (x:=yC (i:Int)) rfl ?_);show zo _ _ (if (i:Int)<0 then _ else _) _ _ s;rw[if_neg (by omega)];show zo _ _ (specialOf (.ref l) (jh "__getitem__") >>= _) _ _ s;refine za (xL hl.typeIs jB.lookup ?_);rw[if_neg (by simp)];refine za (wpAny_mkInt ?_);refine za (yD (getItem_tuple (j:=i) hl (by omega) (by omega) (by simp[JQ];omega) hx ?_));dsimp only;refine za (jG ho hd (x:=yC (i:Int)) rfl ?_);show zo _ _ (setField (.ref it) 1 (yC ((i:Int)-1)) >>= _) _ _ _;refine za (Yf ho hd (by simp) ?_);refine ze ⟨x,rfl,ze (hQ _ _ ?_ (yq ..))⟩;exact⟨_,jM _ ho (YS (xz hd _)),(Obj.cls_mapFields ..).trans hc,by
  rw[xz hd];simp⟩
end
section
variable{prog:zV}{w:je}{A:jm}{E:VSP}{s:zw}
theorem Mf(hh:A.handled=none)(hit:B3 s.heap it l (-1))
 (hQ:∀h',YV it s.heap h'->Q none {s with heap:=h'}):zo (zA prog w) A (xf (.ref it)) Q E s:=by
 obtain⟨o,ho,hc,hd⟩:=id hit;unfold xf;refine za (yD (ju (name:=jh "__next__") hit.typeIs Z6
  (jk Z6 hit.typeIs bO ?_ (aP _))))
 unfold jQ.«reversed.__next__»;refine za (yG (a:=(Value.ref it, [])) rfl ?_)
 try dsimp only
 refine za (jG ho hd (x:=.ref l) rfl ?_);refine za (jG ho hd (x:=yC (-1)) rfl ?_);show zo _ _ (if (-1:Int)<0 then _ else _) _ _ s;rw[if_pos (by decide)];refine za (xE ?_);refine za ?_
 wp_delta
 refine za (Yf ho hd (by simp) ?_);have hd2:(Obj.mapFields (λvs=>vs.set! 1 (yC (-1))) o).data= .fields #[.ref l,yC (-1)]:=by rw[xz hd];simp
 have sj:=jM (Obj.mapFields λvs=>vs.set! 1 (yC (-1))) ho (YS (xz hd _));refine Yf sj hd2 (by simp) ?_
 first
 |show zo _ _ (newExc (.type "StopIteration") [] >>= _) _ _ _
 |(refine za ?_;show zo _ _ (newExc (.type "StopIteration") [] >>= _) _ _ _)
 refine za ?_;simp only[newExc,newTuple];refine za (yd ?_ (by size_fits));refine za (m:=firstArgMember _ _) (yG (a:=Value.none) (by first|rfl|(simp only[firstArgMember];rfl)) ?_);refine yd ?_ (by size_fits);simp only[raiseNew];refine za (XW ?_)
 first|rw[show A.in1.handled=none from hh]|rw[hh]
 refine za (ze (wpAny_throw ?_));refine za (xx (T:= "StopIteration") (b:=true) ⟨_,zn _ rfl,rfl⟩ Xx ?_);exact ze (hQ _ λb o hb e=>zc _ (zc _ (by rw[jq _ _ _ _ hb,jq _ _ _ _ hb];exact e)))
theorem CP(hit:B3 s.heap it l i)(h:Q (.ref it) s):zo (zA prog w) A (Xw (.ref it)) Q E s:=by refine Jx hit.typeIs DR (jk DR hit.typeIs Vv ?_ (Kg _));show zo _ _ (ret (.ref it)) _ _ s;exact ze ⟨_,rfl, "reversed",_,hit.typeIs,Z6.lookup,h⟩
theorem pj(hit:B3 s.heap it l ((items.size:Int)-1))(hl:xY s.heap l items)(hz:items.size<=zi)(tq:(items.size:Int)<2 ^ 63)(h:∀b tk,Q b {s with toks:=tk}):zo (zA prog w) A (xt (.ref it)) Q E s:=by
 obtain⟨o,ho,hc,hd⟩:=id hit;unfold xt;refine za (xL hit.typeIs VU ?_);show zo _ A (specialOf (Value.ref it) (jh "__length_hint__") >>= _) _ _ _;refine za (xL hit.typeIs RK.lookup ?_);generalize hid:("reversed.__length_hint__" :String)=id0
 wp_delta
 rw[show splitId id0=some ("reversed", "__length_hint__")from by subst hid;decide +kernel];subst hid;refine za (xx (b:=true) hit.typeIs (by rw[xg];kernel_rfl) ?_);rw[if_neg (by decide)];dsimp only;rw[if_neg (by decide +kernel)];refine za (xE ?_);refine za (yG (RK.bind _) ?_);dsimp only;refine za (yD (jk RK hit.typeIs BU ?_ (EW _)));unfold jQ.«reversed.__length_hint__»;refine za (yG (a:=Value.ref it) rfl ?_);refine za (jG ho hd (x:=.ref l) rfl ?_);rw[if_neg (by simp)];refine za (len_tuple hl tq ?_);refine za (yG rfl ?_);dsimp only;refine za (jG ho hd (x:=yC ((items.size:Int)-1)) rfl ?_);show zo _ _ (if ((items.size:Nat):Int)<((items.size:Int)-1)+1 then _ else _) _ _ _;rw[if_neg (by omega)];refine za (wpAny_mkInt (ze ⟨_,rfl,?_⟩));dsimp only;refine za (yG rfl ?_);dsimp only;have e:(items.size:Int)-1+1=items.size:=by omega
 rw[e];rw[if_neg (by unfold Builtin.List.listFitsIndex;simp;omega),if_neg (by omega),if_neg (by unfold Builtin.List.listTooLong;simpa using hz)];exact ze (h _ _)
end
section
variable{prog:zV}{w:je}{A:jm}{E:VSP}{s:zw}
theorem vd(hh:A.handled=none)(I l:Addr)(sf:l≠I)(items:Array zg)(tq:(items.size:Int)<2 ^ 63):
 Walks prog w A I [I,l] [I] items.size (λi v=>items[items.size-1-i]? =some v) (λi h=>i<=items.size/\B3 h I l ((items.size:Int)-1-(i:Int))/\xY h l items) where
 sub:=λb hb=>by simp at hb;simp[hb]
 frame:=λ_ _ _ x hk=>⟨x.1,x.2.1.at λo e=>hk I (by simp) o e,by
  obtain⟨o,ho,r⟩:=x.2.2;exact⟨o,hk l (by simp) o ho,r⟩⟩
 item:=λi s Q E hi x hQ=>by
  have e:(items.size:Int)-1-(i:Int)= ((items.size-1-i:Nat):Int):=by omega
  have hit:=x.2.1;rw[e]at hit;have hx:items[items.size-1-i]? =some (items[items.size-1-i]'(by omega)):=zU (by omega);refine AY hit x.2.2 hx tq λh' tk hit' hs'=>?_;have e2:((items.size-1-i:Nat):Int)-1= (items.size:Int)-1-((i+1:Nat):Int):=by omega
  rw[e2]at hit';exact hQ _ h' tk hx ⟨hi,hit',by
   obtain⟨o,ho,r⟩:=x.2.2;exact⟨o,(hs'.2 l sf).trans ho,r⟩⟩ λb o hb eo=>hs'.extBut b o (λh=>hb (by simp[h])) eo
 done:=λs Q E x hQ=>by
  have e:(items.size:Int)-1-(items.size:Int)= -1:=by omega
  have hit:=x.2.1;rw[e]at hit;exact Mf hh hit λh' he'=>hQ h' s.toks λb o hb eo=>he' b o (λh=>hb (by simp[h])) eo
 self:=λ_ _ _ _ x hQ=>CP x.2.1 hQ
variable{I l:Addr}{items:Array zg}{R:Except zg Flow->zw->Prop}
theorem EV(hh:A.handled=none)(hI:B3 s.heap I l ((items.size:Int)-1))(hl:xY s.heap l items)(sf:l≠I)(S:Addr)(hSI:S≠I)(hSl:S≠l)(res:zg)(c₀:Nat)(hS:s.heap.get? S=some {cls:=.type "list",data:=.seq #[] c₀})
 (hR:∀h' tk rf c',(∀b o,b≠S->b≠I->s.heap.get? b=some o->h'.get? b=some o)->h'.get? S=some {cls:=.type "list",dict:=none,data:=.seq rf c',slots:= #[]}->ItemsOf (λi v=>items[items.size-1-i]? =some v) rf items.size->R (.ok (.ret res)) {s with heap:=h',toks:=tk}) (hn:items.size<=zi):
 zo (zA prog w) A.in1 (jV (.ref S) (.ref I) res)
  (λfin s'=>match fin with| .done f=>R (.ok f) s'| .again c'=>c'.quiet=true/\xZ (zA prog w) A c' R s') (λe s'=>R (.error e) s') s:=by
 have tq:(items.size:Int)<2 ^ 63:=by rw[jl]at hn;omega
 have hSf:S∉ [I,l]:=by simp only[zr,zT,or_false,not_or];exact⟨hSI,hSl⟩
 have W:=vd (prog:=prog) (w:=w) (A:=A.in1) hh I l sf items tq;have st:∀h:Heap,(∀b o,b≠S->s.heap.get? b=some o->h.get? b=some o)->(0<=items.size/\B3 h I l ((items.size:Int)-1-((0:Nat):Int))/\xY h l items):=λh k=>⟨zL _,(by simpa using hI.at λo e=>k I o (Ne.symm hSI) e),by
  obtain⟨o,ho,r⟩:=hl;exact⟨o,k l o (Ne.symm hSl) ho,r⟩⟩
 have loop:∀(h:Heap) (tk c₁:Nat),(∀b o,b≠S->s.heap.get? b=some o->h.get? b=some o)->h.get? S=some {cls:=.type "list",data:=.seq #[] c₁}->
  zo (zA prog w) A.in1 (again (.builtin "list.extend.loop" ⟨[.ref S,.ref I,res], []⟩)) (λfin s'=>match fin with| .done f=>R (.ok f) s'| .again c'=>c'.quiet=true/\xZ (zA prog w) A c' R s') (λe s'=>R (.error e) s') {s with heap:=h,toks:=tk}:=λh tk c₁ k hS1=>by
  refine ze ⟨yJ ZC _,codeAny_extend_loopS W.toS hn S hSf res items.size 0 _ #[] c₁ rfl (zL _) (st h k) hS1 (ItemsOf.nil _) λs' rf c' hm tu sv=>?_⟩;rw[Moved.eq_with hm];refine hR s'.heap s'.toks rf c' (λb o hb hbI e=>hm.heap b o (λhmem=>?_) (k b o hb e)) tu sv;rcases zr.mp hmem with e'|hmem
  ·exact hb e'
  ·exact hbI (zm.mp hmem)
 unfold jV;refine za (xD hI.typeIs ?_);have h1:xK (.ref S) (.ref I)=false:=by simp[xK,hSI]
 rw[if_neg (by rw[h1];decide)];refine za (CP hI ?_);refine za (jt (pj hI hl hn tq λb tk=>?_))
 cases b
 ·refine jR (λhab=>absurd hab (by decide)) (λ_=>?_);exact loop s.heap tk c₀ (λ_ _ _ e=>e) hS
 ·refine jR (λ_=>?_) (λhab=>absurd rfl hab);refine za (xE ?_);refine za ?_;unfold Builtin.List.listTouch;refine za (yi hS rfl ?_ (zL _) (by rw[jl];decide));have hS1:=jM (zP λxs=>xs.push Value.none) hS rfl;refine yi hS1 rfl ?_ (by rw[jl];decide) (by rw[jl];decide);have hS2:=jM (zP λxs:Array zg=>xs.pop) hS1 rfl;exact loop _ tk _ (λb o hb e=>by rw[jq _ _ _ _ hb,jq _ _ _ _ hb];exact e) hS2
theorem qz(hh:A.handled=none)(hI:B3 s.heap I l ((items.size:Int)-1))(hl:xY s.heap l items)(sf:l≠I)(S:Addr)(hSI:S≠I)(hSl:S≠l)(hS:s.heap.get? S=some {cls:=.type "list",data:=.seq #[]})
 (hR:∀h' tk rf c',(∀b o,b≠S->b≠I->s.heap.get? b=some o->h'.get? b=some o)->h'.get? S=some {cls:=.type "list",dict:=none,data:=.seq rf c',slots:= #[]}->ItemsOf (λi v=>items[items.size-1-i]? =some v) rf items.size->R (.ok (.ret .none)) {s with heap:=h',toks:=tk}) (hn:items.size<=zi):
 zo (zA prog w) A.in1 (jQ.«list.__init__» ⟨[.ref S,.ref I], []⟩)
  (λfin s'=>match fin with| .done f=>R (.ok f) s'| .again c'=>c'.quiet=true/\xZ (zA prog w) A c' R s') (λe s'=>R (.error e) s') s:=by
 show zo _ _ (do let old <-Jb (.ref S);Builtin.List.listUpdate (.ref S) (λ_=> #[]);letGo old.toList.reverse;jV (.ref S) (.ref I) .none) _ _ s;refine za ?_;unfold Jb;refine za (yp hS rfl (ze ?_));show zo _ _ (updateSeq S (λ_=> #[]) >>= λ_=>letGo (#[]:Array zg).toList.reverse >>= λ_=>jV (.ref S) (.ref I) .none) _ _ s;refine za (wpAny_updateSeq hS rfl ?_);have hS₂:=jM (zP (λ_=>(#[]:Array zg))) hS rfl;have oth:∀b o,b≠S->s.heap.get? b=some o->(s.heap.update S (zP (λ_=>(#[]:Array zg)))).get? b=some o:=
  λb o hb e=>(yz _ _ (Ne.symm hb)).trans e
 refine za (Xv ?_);refine EV hh (hI.at λo e=>oth I o (Ne.symm hSI) e) (by obtain⟨o,ho,r⟩:=hl;exact⟨o,oth l o (Ne.symm hSl) ho,r⟩) sf S hSI hSl .none _ hS₂ (λh' tk rf c' hk tu sv=>?_) hn;exact hR h' tk rf c' (λb o hb hbI e=>hk b o hb hbI (oth b o hb e)) tu sv
theorem bZ(hh:A.handled=none)(hI:B3 s.heap I l ((items.size:Int)-1))(hl:xY s.heap l items)(sf:l≠I)(hn:items.size<=zi)
 (hQ:∀h' tk rf c',(∀b o,b≠I->s.heap.get? b=some o->h'.get? b=some o)->h'.get? s.heap.objs.size=some {cls:=.type "list",dict:=none,data:=.seq rf c',slots:= #[]}->ItemsOf (λi v=>items[items.size-1-i]? =some v) rf items.size->Q (.ref s.heap.objs.size) {s with heap:=h',toks:=tk}):
 zo (zA prog w) A (call (.type "list") [.ref I]) Q E s:=by
 refine callType_codes (Q₁:=λobj W1=>obj= .ref s.heap.objs.size/\W1= {s with heap:=s.heap.push {cls:=.type "list",data:=.seq #[]}}) PySem.F.called_list (PySem.F.typeCall_list_1 _) PySem.F.entry_list_init
  (code_list_new _ ⟨rfl,rfl⟩) λobj W1 h₁=>?_
 obtain⟨rfl,rfl⟩:=h₁;have hS:(s.heap.push {cls:=.type "list",data:=.seq #[]}).get? s.heap.objs.size=some {cls:=.type "list",data:=.seq #[]}:=zn _ rfl;have hltI:I<s.heap.objs.size:=by obtain⟨_,e,_⟩:=hI;exact zt e
 have hltl:l<s.heap.objs.size:=by obtain⟨_,e,_⟩:=hl;exact zt e
 refine⟨⟨_,hS,rfl⟩,PySem.F.args_list_init_2 _ _,qz (A:=A.in1) hh (hI.at λo e=>zc _ e) (by obtain⟨o,ho,r⟩:=hl;exact⟨o,zc _ ho,r⟩) sf _ (xj hltI) (xj hltl) hS (λh' tk rf c' hk tu sv=>?_) hn⟩;exact⟨rfl,hQ h' tk rf c' (λb o hbI e=>hk b o (zC (zt e)) hbI (zc _ e)) tu sv⟩
end
def QE:D->M D:=λx=>match x with
 | .tup l=>J5 (.lst l.reverse)
 |_=>M.stuck
section
theorem NW(he:DE X Z e fa)(hc:X.calm=true)(hb:BLs X.mg)(hg1:Gl X "list")(hg2:Gl X "reversed")(hs:O1 e=true):
 DE X Z (.Call (.Name "list" p1) [.Call (.Name "reversed" p2) [e] [] pos2] [] pos1) (unE QE fa):=by
 have hm1:=hb.h "list" (by decide +kernel);have hm2:=hb.h "reversed" (by decide +kernel);have hb1:jb "list" =some (.type "list"):=by first|rfl|decide +kernel
 have hb2:jb "reversed" =some (.type "reversed"):=by first|rfl|decide +kernel
 refine⟨?_⟩;intro pins s σ H Q I rc;refine rc.elim λX9 μ G sr h p=>?_;refine Call_ (D6 I hg1 hm1 hb1 (yI ?_ (T8 rfl) rfl));rw[T8 (rfl:O1 (Expr.Call (.Name "reversed" p2) [e] [] pos2)=true)];refine Za (Call_ (D6 I hg2 hm2 hb2 (yI ?_ (T8 hs) rfl)));rw[T8 hs];refine Za (thn (he.h pins s σ H _ I ⟨X9,μ,G,sr,h,(c7.bind p).mono λd X0 G1 H1 x1 h1 p1 v rv=>(⟨d,X0,G1,rv,h1,p1⟩:cH (wc X) Z QE v H1 Q)⟩) λv s1 ⟨x,H1,I1,r1,d,X0,G1,rd,h1,p1⟩=>?_);refine Zf ?_;rcases d with _|_|_|_|l|r|_|_<;>try (exact p1.elim;done)
 have rv:=rd;unfold d7 at rv;obtain⟨a,vs,rfl,hq,rl⟩:=rv
 cases r1
 obtain⟨qu,rr,ht,hz⟩:=I1.tuple hq;have sd:a<s1.heap.objs.size:=by obtain⟨_,e,_⟩:=ht;exact zt e
 have htp:xY s1.heap a qu.toArray:=ht;refine Vh htp (by rw[zk];have:=rr.length;rw[jl]at hz;omega) λtk=>?_;refine Zf ?_;have hI:B3 (s1.heap.push (rvO a ((qu.toArray.size:Int)-1))) s1.heap.objs.size a ((qu.toArray.size:Int)-1):=⟨_,zn _ rfl,rfl,rfl⟩;refine bZ (I.ok.hd hc) hI (by obtain⟨o,ho,r⟩:=htp;exact⟨o,zc _ ho,r⟩) (zC sd) (by rw[zk,<-rr.length];exact hz) λh' tk rf c' hk tu sv=>?_;have e2:=Sd sv;have hD:s1.heap.objs.size<=(s1.heap.push (rvO a ((qu.toArray.size:Int)-1))).objs.size:=by rw[jO];exact Ju _
 have hf:=I1.hok.fresh hD;have hS2:h'.get? (s1.heap.push (rvO a ((qu.toArray.size:Int)-1))).objs.size=some {cls:=.type "list",data:=.seq qu.reverse.toArray c'}:=by rw[tu,<-e2,Array.toArray_toList]
 exact⟨.ref _,upd H1 _ (.lst vs.reverse),I1.laid (λb u q=>hk b u (zC (zt q)) (zc _ q)) hD ⟨by rw[Zx];exact hz,qu.reverse,c',rr.reverse,hS2⟩,rfl,O6 h1 rl.reverse p1 _ hf⟩
end
end DL
namespace W
open PySem PySem.Spec L2 DL
open PyProof.Rows hiding St
theorem rT(q:Q (.ref G.length) (G++[.lst l.reverse])):Wp (QE (.tup l)) G Q:=M4.mpr q
def qR:List (Str×D):= [("number",.tup [.tup [.tup [.non,.non]],.tup [.str ("of" :Str),.tup []],.tup [],.non,.non]),("text",.tup [.tup [],.tup [.str ("but" :Str),.tup []],.tup [],.non,.non]),("truth",.tup [.tup [],.tup [.str ("of" :Str),.tup []],.tup [.bl false,.bl true],.non,.non]),("list",.tup [.tup [],.tup [.str ("of" :Str),.tup []],.tup [],.tup [.tup [],.str ("any" :Str)],.non]),("record",.tup [.tup [],.tup [.str ("of" :Str),.tup []],.tup [],.non,.tup [.tup [],.str ("any" :Str)]])]
def D1:Fs:=(j5 (v7 (binE D3 (binE F2 (binE D3 (binE addD (binE addD (varE 3) (binE F2 (cE (.int 7919)) (varE 2))) (cE (.int 3))) (cE (.int 2147483647))) (cE (.int 48271))) (cE (.int 2147483647))) (S0 4)) (j5 (v7 (binE D3 (binE F2 (varE 4) (varE 4)) (cE (.int 2147483629))) (S0 4)) (j5 (S5 (mtE v5 v8 (varE 1) (x0 (binE D3 (binE x9 (varE 4) (cE (.int 16))) (cE (.int 1000))) (o0)))) (j5 (S5 (mtE v5 v8 (varE 1) (x0 (binE D3 (binE x9 (varE 4) (cE (.int 16000))) (cE (.int 1000))) (o0)))) (j5 (v7 (binE D3 (binE addD (varE 4) (binE F2 (cE (.int 40692)) (binE addD (varE 2) (cE (.int 7))))) (cE (.int 2147483587))) (S0 4)) (S5 (mtE v5 v8 (varE 1) (x0 (binE D3 (binE x9 (binE D3 (binE F2 (varE 4) (varE 4)) (cE (.int 2147483647))) (cE (.int 16))) (cE (.int 1000))) (o0)))))))))
def WT1:DSt->M Bool:=(j3 (B6 (binE geD (varE 3) (cE (.int 1000)))) (B6 (binE ltD (varE 5) (cE (.int 60)))))
def WB1:Fs:=(j5 (S5 (mtE v5 v8 (varE 1) (x0 (binE D3 (varE 3) (cE (.int 1000))) (o0)))) (j5 (v7 (binE x9 (varE 3) (cE (.int 1000))) (S0 3)) (v7 (binE addD (varE 5) (cE (.int 1))) (S0 5))))
def D2:Fs:=(j5 (v7 (cE (.int 0)) (S0 5)) (W0 WT1 WB1))
def DB:Fs:=(j5 (v7 (C2 FB (x0 (binE ixD (varE 0) (varE 2)) (o0))) (S0 3)) (ifS (B6 (binE ltD (varE 3) (binE F3 (cE (.int 10)) (cE (.int 18))))) D1 D2))
abbrev L0(a:Fe):=x0 a (o0)
abbrev M0(a b:Fe):=x0 a (x0 b (o0))
abbrev qh(a b c:Fe):=x0 a (x0 b (x0 c (o0)))
abbrev fK(a b c d:Fe):=x0 a (x0 b (x0 c (x0 d (o0))))
abbrev E6(a b c d e:Fe):=x0 a (x0 b (x0 c (x0 d (x0 e (o0)))))
abbrev asQ(e:Fe)(g:D->DSt->M DSt)(r:Fs):Fs:=j5 (v7 e g) r
abbrev cBf:Fe:=cE (.bl false)
abbrev cBt:Fe:=cE (.bl true)
abbrev A0:Fe:=cE (.int 0)
abbrev i0:Fe:=cE (.int 1)
abbrev C7:Fe:=cE (.int 10)
abbrev E1:Fe:=cE (.int 2)
abbrev bB:Fe:=cE (.int 3)
abbrev r9:Fe:=cE (.int 4)
abbrev fJ:Fe:=cE (.int 5)
abbrev ED:Fe:=cE (.int 6)
abbrev mD:Fe:=cE (.int 8)
abbrev cIn(i:Int):Fe:=cE (.int i)
abbrev F0:Fe:=cE .non
abbrev cSt(s:Str):Fe:=cE (.str s)
abbrev H0(F:List D->M D)(a:Fe):Fe:=C2 (fnX 1 F) (x0 a (o0))
abbrev z0(F:List D->M D)(a b:Fe):Fe:=C2 (fnX 2 F) (x0 a (x0 b (o0)))
abbrev EA(F:List D->M D)(a b c:Fe):Fe:=C2 (fnX 3 F) (x0 a (x0 b (x0 c (o0))))
abbrev fI(F:List D->M D)(a b c d:Fe):Fe:=C2 (fnX 4 F) (x0 a (x0 b (x0 c (x0 d (o0)))))
abbrev C0(F:List D->M D)(a:Fe):Fe:=C2 F (x0 a (o0))
abbrev K2(F:List D->M D)(a b:Fe):Fe:=C2 F (x0 a (x0 b (o0)))
abbrev gdQ(t:DSt->M Bool)(x:Fe)(r:Fs):Fs:=j5 (ifS t (o9 x) t8) r
abbrev ixE(a b:Fe):Fe:=binE ixD a b
abbrev P2:=S0 0
abbrev N0:=S0 1
abbrev T0:=S0 2
abbrev S1:=S0 3
abbrev t3:=S0 4
abbrev SA:=S0 5
abbrev vj:=S0 6
abbrev Kk:=S0 7
abbrev Dw:=S0 8
abbrev UR:=S0 9
abbrev sIi(i:Int):Option D:=some (D.int i)
abbrev sRf(r:Nat):Option D:=some (D.ref r)
abbrev tBn(o:D->D->M D)(a b:Fe):=B6 (binE o a b)
abbrev GA(a:Fe):=A2 (x0 a (o0))
abbrev B0(a b:Fe):=A2 (x0 a (x0 b (o0)))
abbrev aX(a b c:Fe):=A2 (x0 a (x0 b (x0 c (o0))))
abbrev c0:Fe:=varE 0
abbrev g0:Fe:=varE 1
abbrev y0:Fe:=varE 2
abbrev D0:Fe:=varE 3
abbrev K0:Fe:=varE 4
abbrev P8:Fe:=varE 5
abbrev FA:Fe:=varE 6
abbrev qI:Fe:=varE 7
abbrev KM:Fe:=varE 8
abbrev BM:Fe:=varE 9
def GK:Fs:=j5 (v7 (Q5 o0) N0) (j5 (y3 (c5 (L0 (K2 rB (C0 lenF c0) (cIn 80)))) T0 DB) (o9 (d6 g0 (c8) (T6 (cIn 240)))))
def U7:List D->M D:=m9 6 GK
def CK:Fs:=j5 (ifS (tBn eqD c0 (Q5 o0)) (o9 A0) t8) (o9 (binE D3 (mtE v5 FG c0 (L0 A0)) g0))
def m5:List D->M D:=m9 2 CK
def dO:Fs:=j5 (ifS (j3 (tBn S2 c0 F0) (tBn S2 g0 F0)) (o9 (cSt "number")) t8) (gdQ (tBn S2 c0 F0) (binE addD (cSt "..") (C0 L7 g0)) (gdQ (tBn S2 g0 F0) (binE addD (C0 L7 c0) (cSt "..")) (gdQ (tBn eqD c0 g0) (C0 L7 c0) (o9 (binE addD (binE addD (C0 L7 c0) (cSt "..")) (C0 L7 g0))))))
def K3:List D->M D:=m9 2 dO
def fwX:Fe:=(M6 (itW (ixE g0 i0)) [none] P2 (V4) (binE addD (binE addD (cE (.str ("\"" :Str))) c0) (cE (.str ("\"" :Str)))))
def fwA:Fs:=(ifS (tBn eqD (ixE g0 A0) (cSt "of")) (v7 (binE addD D0 K0) S1) (ifS (tBn eqD K0 (Q5 o0)) (S5 (mtE v5 v8 D0 (L0 (cSt "text")))) (S5 (mtE v5 v8 D0 (L0 (binE addD (cSt "text but ") (mtE isStrM w9 (cSt " ") (L0 K0))))))))
def fwB:Fs:=(ifS (tBn eqD y0 (B0 cBf cBt)) (S5 (mtE v5 v8 D0 (L0 (cSt "truth")))) (ifS (tBn neD y0 (A2 o0)) (S5 (mtE v5 v8 D0 (L0 (ixE (Q5 (M0 (cSt "false") (cSt "true"))) (C0 iA (binE eqD y0 (GA cBt))))))) t8))
def S6:Fs:=j5 (v7 (M6 (itW c0) [none,none] (F5 2 (U9 P2 (U9 N0 (y6)))) (V4) (z0 K3 c0 g0)) S1) (asQ fwX t3 (j5 fwA (j5 fwB (o9 D0))))
def S7:List D->M D:=m9 5 S6
def tS:Fs:=j5 (ifS (tBn S2 c0 F0) (o9 (Q5 o0)) t8) (j5 (w5) (w5))
def oH:List D->M D:=m9 2 tS
def uR:Fs:=j5 (ifS (tBn S2 c0 F0) (o9 (Q5 o0)) t8) (w5)
def NJ:List D->M D:=m9 1 uR
def lL:Fs:=j5 (ifS (truthE (K2 K6 c0 (cE (.ty "bool")))) (o9 (ifE (truthE c0) (cSt "true") (cSt "false"))) t8) (gdQ (truthE (K2 K6 c0 (cE (.ty "int")))) (C0 L7 c0) (gdQ (truthE (K2 K6 c0 (cE (.ty "str")))) (binE addD (binE addD (cE (.str ("\"" :Str))) c0) (cE (.str ("\"" :Str)))) (j5 (ifS (tBn eqD (ixE c0 A0) (cSt "list")) (w5) t8) (w5))))
def Q6:List D->M D:=m9 1 lL
def fP:Fs:=o9 (ifE (tBn eqD (C0 lenF c0) E1) (Q5 (L0 (cSt "truth"))) (M6 (itW c0) [none] P2 (V4) (H0 Q6 c0)))
def IG:List D->M D:=m9 1 fP
def UM:Fs:=o9 (ifE (tBn S2 c0 F0) (cSt "") (H0 Q6 c0))
def T5:List D->M D:=m9 1 UM
def DQ:Fs:=o9 (ifE (tBn eqD c0 g0) (H0 T5 c0) (binE addD (binE addD (H0 T5 c0) (cSt "..")) (H0 T5 g0)))
def X5:List D->M D:=m9 2 DQ
def fL:Fs:=o9 (ifE (tBn eqD c0 (GA (B0 F0 F0))) (Q5 (L0 (cSt "number"))) (M6 (itW c0) [none,none] (F5 2 (U9 P2 (U9 N0 (y6)))) (V4) (z0 X5 c0 g0)))
def Z2:List D->M D:=m9 1 fL
def nS:Fs:=j5 (v7 (M6 (itW (ixE c0 i0)) [none] P2 (V4) (H0 Q6 c0)) N0) (gdQ (tBn eqD (ixE c0 A0) (cSt "of")) g0 (o9 (ifE (truthE g0) (Q5 (L0 (mtE isStrM w9 (cSt " ") (L0 (binE addD (Q5 (L0 (cSt "text but"))) g0))))) (Q5 (L0 (cSt "text"))))))
def kG:List D->M D:=m9 2 nS
def OP:Fs:=j5 (ifS (tBn eqD c0 (cSt "any")) (o9 (Q5 (L0 (cSt "any")))) t8) (gdQ (tBn eqD c0 (cE (.tup [.tup [],.tup [.str ("of" :Str),.tup []],.tup [],.non,.non]))) (Q5 (L0 (cSt "nothing"))) (o9 (binE addD (binE addD (binE addD (binE addD (H0 Z2 (ixE c0 A0)) (H0 kG (ixE c0 i0))) (H0 IG (ixE c0 E1))) (H0 NJ (ixE c0 bB))) (H0 oH (ixE c0 r9)))))
def EJ:List D->M D:=m9 1 OP
def dR:Fs:=o9 (mtE isStrM w9 (cSt " or ") (L0 (H0 EJ c0)))
def ND:List D->M D:=m9 1 dR
def SF(R:List D->M D):Fs:=(ifS (F4 (truthE (z0 R y0 D0))) (o9 cBf) t8)
def kE(R:List D->M D):Fs:=j5 (ifS (tBn S2 g0 F0) (o9 (binE S2 c0 F0)) t8) (gdQ (truthE (K2 K6 g0 (cE (.ty "bool")))) (C4 (K2 K6 c0 (cE (.ty "bool"))) (binE eqD c0 g0)) (gdQ (truthE (K2 K6 g0 (cE (.ty "int")))) (C4 (K2 K6 c0 (cE (.ty "int"))) (C4 (wH (K2 K6 c0 (cE (.ty "bool")))) (binE eqD c0 g0))) (gdQ (truthE (K2 K6 g0 (cE (.ty "str")))) (C4 (K2 K6 c0 (cE (.ty "str"))) (binE eqD c0 g0)) (gdQ (orT (F4 (truthE (K2 K6 c0 (cE (.ty "tuple"))))) (tBn neD (C0 lenF c0) (C0 lenF g0))) cBf (j5 (y3 (D8 (M0 c0 g0)) (F5 2 (U9 T0 (U9 S1 (y6)))) (SF R)) (o9 cBt))))))
def W5:Nat->List D->M D
 |0=>λ_=>M.stuck
 |n+1=>m9 4 (kE (W5 n))
def dE:List D->M D:=W5 6
def gM:Fs:=j5 (ifS (tBn eqD (C0 FB c0) (binE F3 C7 (cIn 30))) (o9 F0) t8) (o9 c0)
def qE:List D->M D:=m9 1 gM
def LB:Fs:=(ifS (j3 (tBn neD g0 (Q5 o0)) (tBn leD y0 (binE addD (ixE (ixE g0 (unE E3 i0)) i0) i0))) (v7 (B0 (ixE (ixE g0 (unE E3 i0)) A0) (K2 uE (ixE (ixE g0 (unE E3 i0)) i0) D0)) (pB g0 (unE E3 i0))) (S5 (mtE v5 v8 g0 (L0 (B0 y0 D0)))))
def LE:Fe:=(B0 (H0 qE c0) (H0 qE g0))
def AG:Fs:=j5 (v7 (Q5 o0) N0) (j5 (y3 (itW (C0 OC c0)) (F5 2 (U9 T0 (U9 S1 (y6)))) LB) (o9 (C0 V8 (M6 (itW g0) [none,none] (F5 2 (U9 P2 (U9 N0 (y6)))) (V4) LE))))
def V5:List D->M D:=m9 4 AG
def NB:Fs:=(v7 (binE addD (binE F2 D0 (cIn 1000)) (z0 m5 c0 (cIn 1000))) S1)
def N1:Fs:=(ifS (tBn ltD g0 fJ) (asQ (z0 m5 c0 (cIn 40)) T0 (o9 (binE F2 (binE x9 y0 E1) (binE i9 i0 (binE F2 E1 (binE D3 y0 E1)))))) t8)
def N2:Fs:=(ifS (tBn eqD g0 fJ) (o9 (ixE (Q5 (fK (binE F3 C7 (cIn 20)) (unE E3 (binE F3 C7 (cIn 20))) (binE i9 (binE F3 C7 (cIn 20)) i0) (binE F3 C7 (cIn 18)))) (z0 m5 c0 r9))) t8)
def N3:Fs:=(o9 (binE F2 (binE addD (binE F2 D0 (cIn 100)) (z0 m5 c0 (cIn 100))) (binE i9 (cIn 13) (binE F2 E1 g0))))
def eF:Fs:=j5 (v7 (z0 m5 c0 mD) N0) (j5 N1 (j5 N2 (asQ A0 S1 (j5 (y3 (c5 (L0 ED)) t3 NB) N3))))
def R5:List D->M D:=m9 5 eF
def nuE:Fe:=(H0 R5 g0)
def nuB:Fs:=(S5 (mtE v5 v8 D0 (L0 (B0 (ixE y0 (binE F2 E1 K0)) (ixE y0 (binE addD (binE F2 E1 K0) (z0 m5 c0 E1)))))))
def nuL:Fs:=(ifS (tBn inD P8 (B0 i0 bB)) (S5 (mtE v5 v8 D0 (L0 (B0 (unE E3 (binE F3 C7 (cIn 30))) (H0 R5 c0))))) t8)
def nuH:Fs:=(ifS (tBn inD P8 (B0 E1 bB)) (S5 (mtE v5 v8 D0 (L0 (B0 (H0 R5 c0) (binE F3 C7 (cIn 30)))))) t8)
def nuA:Fs:=(ifS (tBn eqD P8 r9) (S5 (mtE v5 v8 D0 (L0 (B0 (unE E3 (binE F3 C7 (cIn 30))) (binE F3 C7 (cIn 30)))))) t8)
def nuM:Fs:=(v7 (ixE (Q5 (x0 i0 (x0 i0 (x0 E1 (E6 bB A0 i0 ED E1))))) (z0 m5 c0 mD)) N0)
def nuS:Fs:=(v7 (C0 WB (M6 (c5 (L0 (binE F2 E1 g0))) [none,some 0] P2 (V4) nuE)) T0)
def X6:Fs:=j5 nuM (j5 nuS (asQ (Q5 o0) S1 (j5 (y3 (c5 (L0 g0)) t3 nuB) (asQ (z0 m5 c0 mD) SA (j5 nuL (j5 nuH (j5 nuA (o9 (H0 V5 D0)))))))))
def X8:List D->M D:=m9 6 X6
def rkC:Fe:=(M6 (itW c0) [none] P2 (V4) (B0 (C0 lenF c0) c0))
def NE:Fs:=o9 (C0 V8 (M6 (itW (VE rkC)) [none,none] (F5 2 (U9 P2 (U9 N0 (y6)))) (V4) g0))
def qG:List D->M D:=m9 1 NE
def uF:Fs:=j5 (ifS (truthE (mtE isStrM startsD c0 (M0 (cSt "any") g0))) (o9 (B0 (cSt "any") (binE addD g0 (C0 lenF (cSt "any"))))) t8) (gdQ (truthE (mtE isStrM startsD c0 (M0 (cSt "nothing") g0))) (B0 (cE (.tup [.tup [],.tup [.str ("of" :Str),.tup []],.tup [],.non,.non])) (binE addD g0 (C0 lenF (cSt "nothing")))) (o9 F0))
def IF:List D->M D:=m9 2 uF
def RT:DSt->M Bool:=(j3 (tBn ltD K0 (C0 lenF c0)) (B6 (wE leD leD y0 (ixE c0 K0) D0)))
def RB:Fs:=(v7 (binE addD K0 i0) t3)
def iH:Fs:=j5 (v7 g0 t3) (j5 (W0 RT RB) (o9 K0))
def AC:List D->M D:=m9 5 iH
def VH:Fs:=j5 (v7 (ifE (truthE (mtE isStrM startsD c0 (M0 (cSt "-") g0))) (binE addD g0 i0) g0) T0) (asQ (fI AC c0 y0 (cSt "0") (cSt "9")) S1 (j5 (ifS (orT (tBn eqD D0 y0) (tBn gtD (binE i9 D0 y0) (cIn 40))) (w5) t8) (j5 (ifS (j3 (truthE (mtE isStrM startsD c0 (M0 (cSt "0") y0))) (tBn gtD (binE i9 D0 g0) i0)) (w5) t8) (o9 (B0 (C0 iA (d6 c0 (T6 g0) (T6 D0))) D0)))))
def W9:List D->M D:=m9 4 VH
def UP:Fs:=j5 (ifS (F4 (truthE (mtE isStrM startsD c0 (M0 y0 g0)))) (w5) t8) (o9 (binE addD g0 (C0 lenF y0)))
def gF:List D->M D:=m9 3 UP
def wM:Fs:=j5 (v7 (fI AC c0 (binE addD g0 i0) (cSt "a") (cSt "z")) T0) (o9 (B0 (d6 c0 (T6 (binE addD g0 i0)) (T6 y0)) (EA gF c0 y0 (cE (.str ("\"" :Str))))))
def F_text_at:List D->M D:=m9 3 wM
def bE:Fs:=j5 (ifS (tBn gtD y0 (cIn 20)) (w5) t8) (j5 (ifS (truthE (mtE isStrM startsD c0 (M0 (cSt "[") g0))) (w5) t8) (j5 (ifS (truthE (mtE isStrM startsD c0 (M0 (cSt "{") g0))) (w5) t8) (gdQ (truthE (mtE isStrM startsD c0 (M0 (cE (.str ("\"" :Str))) g0))) (z0 F_text_at c0 g0) (gdQ (truthE (mtE isStrM startsD c0 (M0 (cSt "true") g0))) (B0 cBt (binE addD g0 (C0 lenF (cSt "true")))) (gdQ (truthE (mtE isStrM startsD c0 (M0 (cSt "false") g0))) (B0 cBf (binE addD g0 (C0 lenF (cSt "false")))) (o9 (z0 W9 c0 g0)))))))
def TC:List D->M D:=m9 3 bE
def sM:Fs:=o9 (ifE (orT (tBn S2 c0 F0) (tBn inX (cE (.tup [.tup [],.tup [.str ("of" :Str),.tup []],.tup [],.non,.non])) (ixE c0 A0))) F0 c0)
def mK:List D->M D:=m9 1 sM
def CM:Fs:=j5 (ifS (orT (tBn S2 c0 F0) (truthE (C0 eJ (M6 (itW (ixE c0 A0)) [none,none,none] (F5 3 (U9 P2 (U9 N0 (U9 T0 (y6))))) (V4) (aO))))) (o9 F0) t8) (w5)
def Z3:List D->M D:=m9 1 CM
def AQ:Fs:=j5 (v7 (A2 (E6 c0 g0 y0 (H0 mK D0) (H0 Z3 K0))) SA) (o9 (ifE (tBn eqD P8 (cE (.tup [.tup [.tup [.non,.non]],.tup [.str ("but" :Str),.tup []],.tup [.bl false,.bl true],.tup [.tup [],.str ("any" :Str)],.tup [.tup [],.str ("any" :Str)]]))) (cSt "any") P8))
def B9:List D->M D:=m9 6 AQ
def AJ:Fs:=o9 (C0 mB (M6 (itW c0) [none] P2 (V4) (B0 c0 cBt)))
def nB:List D->M D:=m9 1 AJ
def pJ:Fs:=o9 (B0 (C0 lenF c0) c0)
def J9:List D->M D:=m9 1 pJ
def lJ:Fs:=o9 (C0 V8 (RD J9 (H0 nB c0)))
def M3:List D->M D:=m9 1 lJ
def UT:DSt->M Bool:=(truthE (mtE isStrM startsD c0 (M0 (cE (.str (" \"" :Str))) g0)))
def UB:Fs:=(asQ (z0 F_text_at c0 (binE addD g0 i0)) S1 (j5 (S5 (mtE v5 v8 y0 (L0 (ixE D0 A0)))) (v7 (ixE D0 i0) N0)))
def UZ:Fs:=(j5 (ifS (F4 (truthE y0)) (w5) t8) (o9 (B0 (C2 (fnX 5 B9) (E6 (A2 o0) (B0 (cSt "but") (H0 M3 y0)) (A2 o0) F0 F0)) g0)))
def OF:Fs:=j5 (v7 (Q5 o0) T0) (j5 (W0 UT UB) UZ)
def aD:List D->M D:=m9 4 OF
def CO:Fs:=o9 (C4 (binE F8 c0 F0) (C4 (binE F8 g0 F0) (binE gtD c0 g0)))
def BF:List D->M D:=m9 2 CO
def uL:Fs:=o9 (ifE (truthE (z0 BF c0 g0)) (cE (.tup [.tup [],.tup [.str ("of" :Str),.tup []],.tup [],.non,.non])) (C2 (fnX 5 B9) (E6 (GA (B0 c0 g0)) (B0 (cSt "of") (A2 o0)) (A2 o0) F0 F0)))
def W7:List D->M D:=m9 2 uL
def gL:Fs:=o9 (WF (mtE isStrM startsD c0 (M0 (cSt "-") g0)) (binE gtD (fI AC c0 g0 (cSt "0") (cSt "9")) g0))
def R4:List D->M D:=m9 2 gL
def vF:Fs:=j5 (v7 (binE addD g0 (C0 lenF (cSt ".."))) S1) (gdQ (j3 (tBn F8 y0 F0) (F4 (truthE (z0 R4 c0 D0)))) (B0 (z0 W7 y0 F0) D0) (asQ (z0 W9 c0 D0) t3 (j5 (ifS (j3 (tBn F8 y0 F0) (tBn gtD y0 (ixE K0 A0))) (w5) t8) (o9 (B0 (z0 W7 y0 (ixE K0 A0)) (ixE K0 i0))))))
def Q4:List D->M D:=m9 5 vF
def AL:Fs:=o9 (C4 (K2 K6 c0 (cE (.ty "int"))) (wH (K2 K6 c0 (cE (.ty "bool")))))
def iD:List D->M D:=m9 1 AL
def DP:Fs:=j5 (ifS (truthE (K2 K6 c0 (cE (.ty "bool")))) (o9 (C2 (fnX 5 B9) (E6 (A2 o0) (B0 (cSt "of") (A2 o0)) (GA c0) F0 F0))) t8) (gdQ (truthE (K2 K6 c0 (cE (.ty "int")))) (z0 W7 c0 c0) (gdQ (truthE (K2 K6 c0 (cE (.ty "str")))) (C2 (fnX 5 B9) (E6 (A2 o0) (B0 (cSt "of") (GA c0)) (A2 o0) F0 F0)) (j5 (ifS (tBn eqD (ixE c0 A0) (cSt "list")) (w5) t8) (w5))))
def OA:List D->M D:=m9 1 DP
def oO:Fs:=o9 (binE (ixC "KIND_SETS" qR) (cE (.fn "KIND_SETS")) c0)
def MK:List D->M D:=m9 1 oO
def WK:Fs:=(ifS (truthE (mtE isStrM startsD c0 (M0 D0 g0))) (o9 (B0 (H0 MK D0) (binE addD g0 (C0 lenF D0)))) t8)
def WZ:Fs:=(gdQ (truthE (mtE isStrM startsD c0 (M0 (cSt "..") g0))) (EA Q4 c0 g0 F0) (asQ (EA TC c0 g0 i0) t3 (gdQ (j3 (truthE (H0 iD (ixE K0 A0))) (truthE (mtE isStrM startsD c0 (M0 (cSt "..") (ixE K0 i0))))) (EA Q4 c0 (ixE K0 i0) (ixE K0 A0)) (o9 (B0 (H0 OA (ixE K0 A0)) (ixE K0 i0))))))
def WL:Fs:=(y3 (itW (aX (cSt "number") (cSt "text") (cSt "truth"))) S1 WK)
def W8:Fs:=j5 (ifS (truthE (mtE isStrM startsD c0 (M0 (cSt "[") g0))) (w5) t8) (j5 (ifS (truthE (mtE isStrM startsD c0 (M0 (cSt "{") g0))) (w5) t8) (gdQ (truthE (mtE isStrM startsD c0 (M0 (cSt "text but") g0))) (z0 aD c0 (binE addD g0 (C0 lenF (cSt "text but")))) (j5 WL WZ)))
def U3:List D->M D:=m9 5 W8
def VZ:Fs:=(gdQ (F4 (truthE (mtE isStrM startsD c0 (M0 (cSt " or ") (ixE K0 i0))))) (B0 D0 (ixE K0 i0)) (v7 (binE addD (ixE K0 i0) (C0 lenF (cSt " or "))) N0))
def VBd:Fs:=(asQ (EA U3 c0 g0 y0) t3 (j5 (S5 (mtE v5 v8 D0 (L0 (ixE K0 A0)))) VZ))
def gH:Fs:=j5 (v7 (Q5 o0) S1) (W0 (truthE cBt) VBd)
def vG:List D->M D:=m9 5 gH
def kM:Fs:=o9 (ifE (tBn S2 (ixE c0 A0) F0) (B0 A0 A0) (B0 i0 (ixE c0 A0)))
def J0:List D->M D:=m9 1 kM
def NR:Fs:=o9 (C4 (binE F8 (ixE c0 i0) F0) (C4 (binE F8 (ixE g0 A0) F0) (binE ltD (binE addD (ixE c0 i0) i0) (ixE g0 A0))))
def rG:List D->M D:=m9 2 NR
def VQ:Fs:=o9 (ifE (orT (tBn S2 c0 F0) (tBn S2 g0 F0)) F0 (K2 uE c0 g0))
def Z5:List D->M D:=m9 2 VQ
def JB:Fs:=(ifS (j3 (truthE g0) (F4 (truthE (z0 rG (ixE g0 (unE E3 i0)) y0)))) (v7 (B0 (ixE (ixE g0 (unE E3 i0)) A0) (z0 Z5 (ixE (ixE g0 (unE E3 i0)) i0) (ixE y0 i0))) (pB g0 (unE E3 i0))) (S5 (mtE v5 v8 g0 (L0 (B0 (ixE y0 A0) (ixE y0 i0))))))
def cG:Fs:=j5 (v7 (Q5 o0) N0) (j5 (y3 (itW (CD J0 c0)) T0 JB) (o9 (C0 V8 g0)))
def VF:List D->M D:=m9 3 cG
def VO:Fs:=o9 (B0 (ifE (tBn eqD (ixE c0 A0) (cSt "of")) (cSt "but") (cSt "of")) (ixE c0 i0))
def dC:List D->M D:=m9 1 VO
def wI:Fs:=o9 (H0 M3 (binE addD c0 g0))
def QD:List D->M D:=m9 2 wI
def kK:Fs:=j5 (v7 (H0 nB g0) T0) (o9 (C0 V8 (M6 (itW c0) [none,some 2] P2 (tBn inD c0 g0) c0)))
def LD:List D->M D:=m9 3 kK
def SJ:Fs:=j5 (v7 (H0 nB g0) T0) (o9 (C0 V8 (M6 (itW c0) [none,some 2] P2 (tBn qC c0 g0) c0)))
def GC:List D->M D:=m9 3 SJ
def EI:Fs:=j5 (ifS (j3 (tBn eqD (ixE c0 A0) (cSt "of")) (tBn eqD (ixE g0 A0) (cSt "of"))) (o9 (B0 (cSt "of") (z0 LD (ixE c0 i0) (ixE g0 i0)))) t8) (gdQ (tBn eqD (ixE c0 A0) (cSt "of")) (B0 (cSt "of") (z0 GC (ixE c0 i0) (ixE g0 i0))) (gdQ (tBn eqD (ixE g0 A0) (cSt "of")) (B0 (cSt "of") (z0 GC (ixE g0 i0) (ixE c0 i0))) (o9 (B0 (cSt "but") (z0 QD (ixE c0 i0) (ixE g0 i0))))))
def Z1:List D->M D:=m9 2 EI
def rF:Fs:=o9 (H0 dC (z0 Z1 (H0 dC c0) (H0 dC g0)))
def fF:List D->M D:=m9 2 rF
def uO:Fs:=j5 (ifS (orT (tBn S2 c0 F0) (tBn S2 g0 F0)) (o9 (ifE (tBn S2 c0 F0) g0 c0)) t8) (j5 (w5) (j5 (w5) (j5 (w5) (w5))))
def TK:List D->M D:=m9 5 uO
def bP:Fs:=j5 (ifS (orT (tBn S2 c0 F0) (tBn S2 g0 F0)) (o9 (ifE (tBn S2 c0 F0) g0 c0)) t8) (j5 (w5) (w5))
def pI:List D->M D:=m9 3 bP
def qJ:Fs:=j5 (ifS (orT (tBn eqD c0 (cSt "any")) (tBn eqD g0 (cSt "any"))) (o9 (cSt "any")) t8) (o9 (C2 (fnX 5 B9) (E6 (H0 VF (C0 nA (binE addD (ixE c0 A0) (ixE g0 A0)))) (z0 fF (ixE c0 i0) (ixE g0 i0)) (C0 V8 (M6 (itW (B0 cBf cBt)) [none,some 0,some 1] P2 (orT (tBn inD c0 (ixE g0 E1)) (tBn inD c0 (ixE y0 E1))) c0)) (z0 TK (ixE c0 bB) (ixE g0 bB)) (z0 pI (ixE c0 r9) (ixE g0 r9)))))
def dH:List D->M D:=m9 2 qJ
def JAT:DSt->M Bool:=(tBn gtD (C0 lenF g0) i0)
def JAE:Fe:=(z0 dH c0 g0)
def lF:Fs:=j5 (v7 (C0 nA c0) N0) (j5 (W0 JAT (asQ (M6 (D8 (M0 (LA g0 (T6 A0) (c8) (T6 E1)) (LA g0 (T6 i0) (c8) (T6 E1)))) [none,none] (F5 2 (U9 P2 (U9 N0 (y6)))) (V4) JAE) T0 (v7 (binE addD y0 (d6 g0 (T6 (binE F2 E1 (C0 lenF y0))) (c8))) N0))) (o9 (ixE g0 A0)))
def mF:List D->M D:=m9 3 lF
def nG:Fs:=j5 (v7 (z0 IF c0 g0) T0) (gdQ (tBn F8 y0 F0) y0 (asQ (EA vG c0 g0 i0) S1 (o9 (B0 (H0 mF (ixE D0 A0)) (ixE D0 i0)))))
def IJ:List D->M D:=m9 4 nG
def MF:Fs:=j5 (v7 (z0 IJ c0 A0) N0) (j5 (ifS (tBn neD (ixE g0 i0) (C0 lenF c0)) (w5) t8) (o9 (ixE g0 A0)))
def T3:List D->M D:=m9 3 MF
def woL:Fs:=(v7 (binE addD K0 (ixE (cSt "abcdefghijklmnopqrstuvwxyz") (z0 m5 c0 (cIn 26)))) t3)
def woR:Fs:=(asQ (cSt "") t3 (j5 (y3 (c5 (L0 D0)) SA woL) (o9 K0)))
def woA:Fs:=(ifS (tBn eqD g0 r9) (asQ (Q5 (x0 (cSt "any") (x0 (cSt "nothing") (x0 (cSt "number") (x0 (cSt "text") (x0 (cSt "truth") (x0 (cSt "true") (x0 (cSt "false") (E6 (cSt "or") (cSt "but") (cSt "in") (cSt "only") (cSt "wish")))))))))) T0 (asQ (binE addD y0 (Q5 (fK (cSt "numbers") (cSt "texts") (cSt "anyone") (cSt "orb")))) T0 (o9 (ixE y0 (z0 m5 c0 (cIn 16)))))) t8)
def woB:Fs:=(ifS (tBn eqD g0 fJ) (v7 (z0 m5 c0 (cIn 31)) S1) t8)
def nF:Fs:=j5 (v7 (z0 m5 c0 ED) N0) (j5 woA (asQ (z0 m5 c0 r9) S1 (j5 woB woR)))
def bG:List D->M D:=m9 6 nF
def wwT:DSt->M Bool:=(j3 (tBn neD g0 (Q5 o0)) (tBn ltD (C0 lenF P8) (cIn 50)))
def wwB:Fs:=(S5 (mtE v5 v8 P8 (L0 (H0 bG g0))))
def lwA:Fs:=(ifS (tBn eqD (binE D3 y0 E1) A0) (v7 (H0 X8 g0) S1) t8)
def lwT:Fs:=(v7 (ixE (Q5 (fK (A2 o0) (GA cBf) (GA cBt) (B0 cBf cBt))) (z0 m5 g0 r9)) t3)
def lwR:Fs:=(v7 (B0 (ixE (Q5 (qh (cSt "of") (cSt "of") (cSt "but"))) (binE D3 (binE x9 y0 E1) bB)) (H0 qG P8)) vj)
def lwD:Fs:=(ifS (tBn neD KM (Q5 o0)) (v7 (mtE isStrM w9 (cSt " or ") (L0 KM)) UR) t8)
def lwC:Fs:=(ifS (orT (F4 (truthE (K2 K6 (varE 10) (cE (.ty "str"))))) (orT (tBn neD (varE 10) BM) (F4 (truthE (z0 dE (H0 T3 BM) qI))))) (o9 cBf) t8)
def lwO:Fs:=(ifS (orT (tBn eqD (ixE FA A0) (cSt "of")) (tBn eqD (ixE FA i0) (A2 o0))) (o9 cBt) t8)
def lwF:Fs:=(v7 (binE addD (binE addD (binE addD (varE 11) (cE (.str (" \"" :Str)))) (varE 12)) (cE (.str ("\"" :Str)))) (S0 11))
def lwZ:Fs:=(asQ (cSt "text but") (S0 11) (j5 (y3 (itW (binE addD (unE QE (ixE FA i0)) (Q5 (L0 (ixE (ixE FA i0) A0))))) (S0 12) lwF) (o9 (z0 dE (H0 T3 (varE 11)) (A2 (E6 (A2 o0) FA (A2 o0) F0 F0))))))
def lwK:Fs:=(asQ (A2 (E6 D0 FA K0 F0 F0)) Kk (asQ (EA S7 D0 FA K0) Dw (asQ (cSt "nothing") UR (j5 lwD (asQ (H0 ND qI) (S0 10) (j5 lwC (j5 lwO lwZ)))))))
def aG:Fs:=j5 (v7 (H0 U7 c0) N0) (asQ (z0 m5 g0 (cIn 12)) T0 (asQ (A2 o0) S1 (j5 lwA (j5 lwT (asQ (Q5 o0) SA (j5 (W0 wwT wwB) (j5 lwR lwK)))))))
def LH:List D->M D:=m9 13 aG
local macro_rules | `(tactic| walk_at "cl") => `(tactic| (refine ⟨?k, ?kk, ?a, ?b, ?c⟩; (case a => first | (dsimp only [Cx.nox, P7]; with_reducible assumption) | assumption); (case b => assumption); (case c => first | decide | omega)))
local macro_rules | `(tactic| walk_at "ck") => `(tactic| (refine ⟨?k, ?kk, ?kkk, ?a, ?b, ?c, ?d⟩; (case a => assumption); (case b => rfl); (case c => rfl); (case d => decide +kernel)))
local macro_rules | `(tactic| walk_at "od") => `(tactic| first
 |with_reducible exact EY
 |with_reducible exact RY
 |with_reducible exact wg
 |with_reducible exact sX
 |with_reducible exact wm
 |with_reducible exact mn
 |with_reducible exact KW
 |with_reducible exact iY
 |with_reducible exact aY
 |with_reducible exact Nq
 |with_reducible exact kg
 |((with_reducible refine vV ?_);exact P0.units (by assumption))
 |((with_reducible refine il ?_);exact P0.units (by assumption))
 |((with_reducible refine SS ?_);exact P0.units (by assumption))
 |((with_reducible refine pY ?_);exact P0.units (by assumption))
 |((with_reducible refine PX ?_);exact P0.units (by assumption))
 |((with_reducible refine AZ ?_);exact P0.units (by assumption)))
local macro_rules | `(tactic| walk_at "bd") => `(tactic| first
 |with_reducible exact Qk
 |with_reducible exact vX
 |with_reducible exact aU
 |with_reducible exact wV
 |with_reducible exact Tc
 |with_reducible exact QX
 |with_reducible exact FZ
 |with_reducible exact dX
 |with_reducible exact Nv
 |with_reducible exact Rq
 |with_reducible exact RZ
 |with_reducible exact ql
 |with_reducible exact Kz)
local macro_rules | `(tactic| walk_at "da") => `(tactic| first
 |with_reducible exact KJ
 |((with_reducible refine Sb ?_ ?_ ?_);walk_at "de";walk_at "da";rfl))
local macro_rules | `(tactic| walk_at "do") => `(tactic| first
 |with_reducible exact Nh
 |((with_reducible refine wj ?_);walk_at "de"))
local macro_rules | `(tactic| walk_at "pk") => `(tactic| first | exact bf | ((apply Bh); walk_at "pk"; walk_at "pk"; (unfold i7; decide); rfl) | ((apply ic); walk_at "pk"; walk_at "pk"; rfl))
local macro_rules | `(tactic| walk_at "de") => `(tactic| first
 |with_reducible exact Bz
 |with_reducible exact HY
 |with_reducible exact cZ
 |with_reducible exact aw
 |((with_reducible refine Gw _ ?_ ?_ ?_ ?_);rfl;(first|exact Or.inl rfl|exact Or.inr (Or.inl rfl)|exact Or.inr (Or.inr rfl));decide;decide)
 |((with_reducible refine ar ?_ ?_ ?_ ?_ ?_ ?_);assumption;decide;decide +kernel;rfl;decide;decide)
 |((with_reducible refine Dj ?_ ?_ ?_);assumption;rfl;decide)
 |((with_reducible refine uT ?_ ?_ ?_);walk_at "od";walk_at "de";walk_at "de")
 |((with_reducible refine QV bY ?_);walk_at "de")
 |((with_reducible refine Lh ?_);walk_at "de")
 |((with_reducible refine Tk ?_ ?_ ?_ ?_);walk_at "od";walk_at "de";walk_at "de";with_unfolding_all rfl)
 |((with_reducible refine VS ?_);walk_at "de")
 |((with_reducible refine gb ?_ ?_);walk_at "de";walk_at "de")
 |((with_reducible refine eV ?_ ?_);walk_at "de";walk_at "de")
 |((with_reducible refine FX ?_ ?_ ?_);walk_at "dt";walk_at "de";walk_at "de")
 |((with_reducible refine Hq ?_);walk_at "da")
 |((with_reducible refine kj ?_);walk_at "da")
 |((with_reducible refine IZ ?_ ?_ ?_);walk_at "de";walk_at "do";walk_at "do")
 |((with_reducible refine eZ ?_ ?_ ?_ ?_);walk_at "de";walk_at "do";walk_at "do";walk_at "do")
 |with_reducible exact LZ
 |((with_reducible refine ak ?_ ?_ ?_ ?_ ?_);assumption;rfl;decide;walk_at "de";exact λ_ _=>rfl)
 |((with_reducible refine gv ?_ ?_ ?_);walk_at "de";walk_at "de";exact λ_ _=>rfl)
 |((with_reducible refine NW ?_ ?_ ?_ ?_ ?_ ?_);walk_at "de";rfl;assumption;rfl;rfl;rfl)
 |((with_reducible refine HZ ?_ ?_ ?_ ?_ ?_);walk_at "cl";rfl;walk_at "da";decide;rfl)
 |((with_reducible refine ie ?_ ?_ ?_ ?_ ?_ ?_ ?_);exact P0.units (by assumption);rfl;assumption;rfl;rfl;walk_at "de";rfl)
 |((with_reducible refine Dh ?_ ?_ ?_ ?_ ?_ ?_ ?_ ?_);rfl;walk_at "cl";assumption;rfl;rfl;walk_at "de";rfl;decide)
 |((with_reducible refine kf ?_ ?_ ?_ ?_ ?_ ?_ ?_ ?_);rfl;walk_at "cl";assumption;rfl;rfl;walk_at "de";rfl;decide)
 |((with_reducible refine hW ?_ ?_ ?_ ?_ ?_ ?_ ?_ ?_ ?_);rfl;walk_at "bd";assumption;decide +kernel;rfl;walk_at "da";decide;decide;rfl)
 |((with_reducible refine RL PySem.F.slot_list_append PySem.F.type_list_append qc ?_ ?_ ?_ ?_ ?_ ?_ ?_);walk_at "de";walk_at "da";rfl;rfl;rfl;exact f6 rfl;rfl)
 |((with_reducible refine RL PySem.F.slot_list_pop PySem.F.type_list_pop oT ?_ ?_ ?_ ?_ ?_ ?_ ?_);walk_at "de";walk_at "da";rfl;rfl;rfl;exact f6 rfl;rfl)
 |((with_reducible refine AO PySem.F.slot_str_join PySem.F.type_str_join kZ ?_ ?_ ?_ ?_ ?_ ?_ ?_);walk_at "de";walk_at "da";rfl;rfl;rfl;exact f6 rfl;rfl)
 |((with_reducible refine AO PySem.F.slot_str_startswith PySem.F.type_str_startswith Np ?_ ?_ ?_ ?_ ?_ ?_ ?_);walk_at "de";walk_at "da";rfl;rfl;rfl;exact f6 rfl;rfl)
 |((with_reducible refine dq ?_ ?_ ?_ ?_ ?_ ?_ ?_ ?_);rfl;walk_at "di";walk_at "ck";decide +kernel;(intro _ _ _ _ _;walk_at "dg");(intro _ _ _ _;walk_at "dts");(intro _ _ _ _;walk_at "de");exact λ_=>rfl))
local macro_rules | `(tactic| walk_at "dt") => `(tactic| first
 |((with_reducible refine DW.dt ?_);walk_at "dw")
 |((with_reducible refine OW ?_);walk_at "dt")
 |((with_reducible refine kU ?_ ?_ ?_ ?_);walk_at "od";walk_at "de";walk_at "de";with_unfolding_all rfl)
 |((with_reducible refine bU ?_ ?_ ?_ ?_ ?_ ?_);walk_at "od";walk_at "od";walk_at "de";walk_at "de";walk_at "de";with_unfolding_all rfl)
 |((with_reducible refine pV ?_ ?_);walk_at "de";exact λ_=>rfl))
local macro_rules | `(tactic| walk_at "dw") => `(tactic| first
 |((with_reducible refine RW ?_);walk_at "dt")
 |((with_reducible refine bo ?_);walk_at "dt")
 |((with_reducible refine rZ ?_ ?_);walk_at "dt";walk_at "dw")
 |((with_reducible refine Fx ?_ ?_);walk_at "dt";walk_at "dw"))
local macro_rules | `(tactic| walk_at "dts") => `(tactic| first
 |with_reducible exact OU
 |((with_reducible refine ni ?_);walk_at "dt"))
local macro_rules | `(tactic| walk_at "di") => `(tactic| first
 |((with_reducible refine Bp ?_ ?_ ?_ ?_);assumption;rfl;walk_at "da";rfl)
 |((with_reducible refine vg ?_ ?_ ?_ ?_ ?_);assumption;rfl;walk_at "da";rfl;rfl)
 |((with_reducible refine pc ?_);walk_at "de"))
local macro_rules | `(tactic| walk_at "dg") => `(tactic| first
 |((with_reducible refine iX ?_ ?_ ?_ ?_);exact⟨_,_,_, ‹V6 _ _ _›,rfl⟩;rfl;(first|exact Or.inl rfl|exact Or.inr rfl);(first|exact .inl rfl|exact .inr rfl))
 |((with_reducible refine RP ?_ ?_ ?_ ?_);assumption;rfl;(first|exact Or.inl rfl|exact Or.inr rfl);(first|exact .inl rfl|exact .inr rfl))
 |((with_reducible refine Gk ?_ ?_ ?_ ?_);rfl;walk_at "dgs";rfl;rfl)
 |((with_reducible refine ab ?_ ?_ ?_ ?_);exact P0.units (by assumption);walk_at "de";walk_at "de";exact λ_=>rfl))
local macro_rules | `(tactic| walk_at "dgs") => `(tactic| first
 |with_reducible exact Vz
 |((with_reducible refine ik ?_ ?_ ?_);walk_at "dg";walk_at "dgs";rfl))
local macro_rules | `(tactic| walk_at "ds") => `(tactic| first
 |((with_reducible refine Kc ?_);walk_at "db")
 |((with_reducible refine HX ?_);walk_at "de")
 |((with_reducible refine Lm ?_ ?_ ?_);walk_at "dt";walk_at "db";walk_at "db")
 |((with_reducible refine Kx ?_ ?_ ?_ ?_ ?_ ?_ ?_ ?_ ?_ ?_);rfl;walk_at "di";walk_at "ck";decide +kernel;(intro _ _ _ _ _;walk_at "dg");(intro _ _ _ _;walk_at "dts");(intro _ _ _ _;walk_at "de");(exact λ_=>rfl);walk_at "dg";rfl)
 |((with_reducible refine rW ?_ ?_ ?_ ?_ ?_);walk_at "de";walk_at "dg";rfl;rfl;rfl)
 |((with_reducible refine qf ?_ ?_);walk_at "de";rfl)
 |((with_reducible refine DZ ?_ ?_ ?_ ?_ ?_ ?_);exact PassesOwn.never;rfl;walk_at "di";walk_at "dg";walk_at "db";exact λ_=>rfl)
 |((with_reducible refine Rh ?_ ?_ ?_);exact PassesOwn.never;walk_at "dt";walk_at "db")
 |with_reducible exact ka)
local macro_rules | `(tactic| walk_at "db") => `(tactic| first
 |with_reducible exact vf
 |((with_reducible refine iS ?_);walk_at "ds")
 |((with_reducible refine QO ?_ ?_);walk_at "ds";walk_at "db"))
local macro_rules | `(tactic| walk_at "db0") => `(tactic| first
 |(refine iS ?_;walk_at "ds")
 |(refine QO ?_ ?_;walk_at "ds";walk_at "db"))
set_option maxHeartbeats 2000000
local macro_rules | `(tactic| walk_at "sc") => `(tactic| exact ⟨rfl, rfl, rfl, by decide +kernel, rfl, by decide +kernel, by decide +kernel⟩)
local macro_rules | `(tactic| walk_at "ba") => `(tactic| (intro _ _ _ _ _ _ us h; (repeat (have q := pX h; clear h; obtain ⟨_, _, e, h⟩ := q; subst e)); cases List.eq_nil_of_length_eq_zero h; rfl))
abbrev cP:D:=.str ("any" :Str)
abbrev wO:D:=.tup [.tup [],.tup [.str ("of" :Str),.tup []],.tup [],.non,.non]
abbrev FL:D:=.int 40
abbrev UQ:D:=.int 20
abbrev BP:D:=.tup [.tup [.tup [.non,.non]],.tup [.str ("but" :Str),.tup []],.tup [.bl false,.bl true],.tup [.tup [],.str ("any" :Str)],.tup [.tup [],.str ("any" :Str)]]
structure BC(w:je)(K:zj)(mg:Str->Option zg):Prop where
 b:BLs mg
 c_ANY:kB K mg "ANY" cP
 c_NOTHING:kB K mg "NOTHING" wO
 c_MOST_FIGURES:kB K mg "MOST_FIGURES" FL
 c_MOST_DEEP:kB K mg "MOST_DEEP" UQ
 c_ALL_PARTS:kB K mg "ALL_PARTS" BP
 d_KIND_SETS:gJ w K mg "KIND_SETS" qR
local macro_rules | `(tactic| walk_at "s1") => `(tactic| (walk_at "sc"; walk_at "ba"; (intro _ _ _ _ _ _ _ _ _; obtain ⟨_, _, _, _, _, _, _⟩ := (‹_› : BC _ _ _); skip)))
def top(i:Nat):Stmt:=PySem.Challenge.pw_allmeet_k41_texts_and_truths_in_words.main.body.getD i (.Pass ⟨0,0,0,0⟩)
section
variable{E:Ev}(zx:EvX E)(zb:BC E.w E.K E.mg)
include zx zb
theorem CU(Y:FH E.K "_law_draws" (top 86)):Ck E U7 1 "_law_draws" 1:=by refine J4 ["script", "draws", "k", "rest", "stir", "many"] ["script"] zx Y ?_ ?_ rfl rfl ?_;walk_at "s1";unfold GK;unfold DB D1 D2 WT1 WB1;walk_at "db0"
variable(k0:Ck E U7 1 "_law_draws" 1)
theorem ou(Y:FH E.K "_law_take" (top 87)):Ck E m5 2 "_law_take" 1:=by refine J4 ["draws", "many"] ["draws", "many"] zx Y ?_ ?_ rfl rfl ?_;walk_at "s1";unfold CK;walk_at "db0"
variable(k1:Ck E m5 2 "_law_take" 1)
theorem PU(Y:FH E.K "_law_stretch_shown" (top 94)):Ck E K3 2 "_law_stretch_shown" 1:=by refine J4 ["low", "high"] ["low", "high"] zx Y ?_ ?_ rfl rfl ?_;walk_at "s1";unfold dO;walk_at "db0"
variable(k2:Ck E K3 2 "_law_stretch_shown" 1)
include k2 in
theorem lh(Y:FH E.K "_law_flat_words" (top 95)):Ck E S7 3 "_law_flat_words" 2:=by refine J4 ["numbers", "texts", "truths", "words", "some"] ["numbers", "texts", "truths"] zx Y ?_ ?_ rfl rfl ?_;walk_at "s1";unfold S6;unfold fwB fwA fwX;walk_at "db0"
variable(k3:Ck E S7 3 "_law_flat_words" 2)
theorem CY(Y:FH E.K "record_words" (top 67)):Ck E oH 1 "record_words" 1:=by refine J4 ["records", "fields"] ["records"] zx Y ?_ ?_ rfl rfl ?_;walk_at "s1";unfold tS;walk_at "db0"
variable(k4:Ck E oH 1 "record_words" 1)
theorem Tj(Y:FH E.K "list_words" (top 66)):Ck E NJ 1 "list_words" 1:=by refine J4 ["lists"] ["lists"] zx Y ?_ ?_ rfl rfl ?_;walk_at "s1";unfold uR;walk_at "db0"
variable(k5:Ck E NJ 1 "list_words" 1)
theorem Rp(Y:FH E.K "show_value" (top 47)):Ck E Q6 1 "show_value" 1:=by refine J4 ["value"] ["value"] zx Y ?_ ?_ rfl rfl ?_;walk_at "s1";unfold lL;walk_at "db0"
variable(k6:Ck E Q6 1 "show_value" 1)
include k6 in
theorem Lf(Y:FH E.K "truth_words" (top 65)):Ck E IG 1 "truth_words" 2:=by refine J4 ["truths"] ["truths"] zx Y ?_ ?_ rfl rfl ?_;walk_at "s1";unfold fP;walk_at "db0"
variable(k7:Ck E IG 1 "truth_words" 2)
include k6 in
theorem Pw(Y:FH E.K "show_end" (top 63)):Ck E T5 1 "show_end" 2:=by refine J4 ["number"] ["number"] zx Y ?_ ?_ rfl rfl ?_;walk_at "s1";unfold UM;walk_at "db0"
variable(k8:Ck E T5 1 "show_end" 2)
include k8 in
theorem gZ(Y:FH E.K "show_stretch" (top 62)):Ck E X5 2 "show_stretch" 3:=by refine J4 ["low", "high"] ["low", "high"] zx Y ?_ ?_ rfl rfl ?_;walk_at "s1";unfold DQ;walk_at "db0"
variable(k9:Ck E X5 2 "show_stretch" 3)
include k9 in
theorem Kq(Y:FH E.K "number_words" (top 61)):Ck E Z2 1 "number_words" 4:=by refine J4 ["numbers"] ["numbers"] zx Y ?_ ?_ rfl rfl ?_;walk_at "s1";unfold fL;walk_at "db0"
variable(k10:Ck E Z2 1 "number_words" 4)
include k6 in
theorem OY(Y:FH E.K "text_words" (top 64)):Ck E kG 1 "text_words" 2:=by refine J4 ["texts", "words"] ["texts"] zx Y ?_ ?_ rfl rfl ?_;walk_at "s1";unfold nS;walk_at "db0"
variable(k11:Ck E kG 1 "text_words" 2)
include k4 k5 k7 k10 k11 in
theorem nX(Y:FH E.K "words_of" (top 60)):Ck E EJ 1 "words_of" 5:=by refine J4 ["some"] ["some"] zx Y ?_ ?_ rfl rfl ?_;walk_at "s1";unfold OP;walk_at "db0"
variable(k12:Ck E EJ 1 "words_of" 5)
include k12 in
theorem px(Y:FH E.K "show_set" (top 59)):Ck E ND 1 "show_set" 6:=by refine J4 ["some"] ["some"] zx Y ?_ ?_ rfl rfl ?_;walk_at "s1";unfold dR;walk_at "db0"
variable(k13:Ck E ND 1 "show_set" 6)
theorem Pv{R:List D->M D}{lv kk:Nat}(kR:Ck E R 2 "_law_same" lv)(h1:lv<=kk)(h2:0<=kk)(Y:FH E.K "_law_same" (top 96)):Ck E (m9 4 (kE R)) 2 "_law_same" (kk+1):=by refine J4 ["found", "due", "one", "other"] ["found", "due"] zx Y ?_ ?_ rfl rfl ?_;walk_at "s1";unfold kE;unfold SF;walk_at "db0"
section
variable(Y:FH E.K "_law_same" (top 96))
include Y
theorem KR:∀n,Ck E (W5 n) 2 "_law_same" (0+n)
 |0=>kw ["found", "due"] zx Y (by walk_at "ba") rfl
 |n+1=>Pv zx zb (KR n) (zh _) (xS _ _) Y
end
theorem wq(Y:FH E.K "_law_same" (top 96)):Ck E dE 2 "_law_same" 6:=KR zx zb Y 6
variable(k14:Ck E dE 2 "_law_same" 6)
theorem dU(Y:FH E.K "_law_end" (top 90)):Ck E qE 1 "_law_end" 1:=by refine J4 ["number"] ["number"] zx Y ?_ ?_ rfl rfl ?_;walk_at "s1";unfold gM;walk_at "db0"
variable(k15:Ck E qE 1 "_law_end" 1)
include k15 in
theorem Mx(Y:FH E.K "_law_joined" (top 91)):Ck E V5 1 "_law_joined" 2:=by refine J4 ["pairs", "found", "low", "high"] ["pairs"] zx Y ?_ ?_ rfl rfl ?_;walk_at "s1";unfold AG;unfold LB LE;walk_at "db0"
variable(k16:Ck E V5 1 "_law_joined" 2)
include k1 in
theorem Vm(Y:FH E.K "_law_number" (top 88)):Ck E R5 1 "_law_number" 2:=by refine J4 ["draws", "way", "small", "large", "k"] ["draws"] zx Y ?_ ?_ rfl rfl ?_;walk_at "s1";unfold eF;unfold N2 N1 N3 NB;walk_at "db0"
variable(k17:Ck E R5 1 "_law_number" 2)
include k1 k16 k17 in
theorem TY(Y:FH E.K "_law_numbers" (top 92)):Ck E X8 1 "_law_numbers" 3:=by refine J4 ["draws", "many", "ends", "pairs", "k", "way"] ["draws"] zx Y ?_ ?_ rfl rfl ?_;walk_at "s1";unfold X6;unfold nuM nuL nuH nuB nuA nuS nuE;walk_at "db0"
variable(k18:Ck E X8 1 "_law_numbers" 3)
theorem Mh(Y:FH E.K "_law_ranked" (top 93)):Ck E qG 1 "_law_ranked" 1:=by refine J4 ["words"] ["words"] zx Y ?_ ?_ rfl rfl ?_;walk_at "s1";unfold NE;unfold rkC;walk_at "db0"
variable(k19:Ck E qG 1 "_law_ranked" 1)
theorem tW(Y:FH E.K "alone_at" (top 72)):Ck E IF 2 "alone_at" 1:=by refine J4 ["text", "at"] ["text", "at"] zx Y ?_ ?_ rfl rfl ?_;walk_at "s1";unfold uF;walk_at "db0"
variable(k20:Ck E IF 2 "alone_at" 1)
theorem Nw(Y:FH E.K "run_end" (top 56)):Ck E AC 4 "run_end" 1:=by refine J4 ["text", "at", "first", "last", "end"] ["text", "at", "first", "last"] zx Y ?_ ?_ rfl rfl ?_;walk_at "s1";unfold iH;unfold RT RB;walk_at "db0"
variable(k21:Ck E AC 4 "run_end" 1)
include k21 in
theorem TZ(Y:FH E.K "number_at" (top 55)):Ck E W9 2 "number_at" 2:=by refine J4 ["text", "at", "start", "end"] ["text", "at"] zx Y ?_ ?_ rfl rfl ?_;walk_at "s1";unfold VH;walk_at "db0"
variable(k22:Ck E W9 2 "number_at" 2)
theorem VY(Y:FH E.K "behind" (top 57)):Ck E gF 3 "behind" 1:=by refine J4 ["text", "at", "sign"] ["text", "at", "sign"] zx Y ?_ ?_ rfl rfl ?_;walk_at "s1";unfold UP;walk_at "db0"
variable(k23:Ck E gF 3 "behind" 1)
include k21 k23 in
theorem Lq(Y:FH E.K "text_at" (top 54)):Ck E F_text_at 2 "text_at" 2:=by refine J4 ["text", "at", "end"] ["text", "at"] zx Y ?_ ?_ rfl rfl ?_;walk_at "s1";unfold wM;walk_at "db0"
variable(k24:Ck E F_text_at 2 "text_at" 2)
include k22 k24 in
theorem pZ(Y:FH E.K "value_at" (top 49)):Ck E TC 3 "value_at" 3:=by refine J4 ["text", "at", "depth"] ["text", "at", "depth"] zx Y ?_ ?_ rfl rfl ?_;walk_at "s1";unfold bE;walk_at "db0"
variable(k25:Ck E TC 3 "value_at" 3)
theorem bV(Y:FH E.K "lists_in_form" (top 36)):Ck E mK 1 "lists_in_form" 1:=by refine J4 ["lists"] ["lists"] zx Y ?_ ?_ rfl rfl ?_;walk_at "s1";unfold sM;walk_at "db0"
variable(k26:Ck E mK 1 "lists_in_form" 1)
theorem NZ(Y:FH E.K "records_in_form" (top 37)):Ck E Z3 1 "records_in_form" 1:=by refine J4 ["records"] ["records"] zx Y ?_ ?_ rfl rfl ?_;walk_at "s1";unfold CM;walk_at "db0"
variable(k27:Ck E Z3 1 "records_in_form" 1)
include k26 k27 in
theorem pW(Y:FH E.K "made" (top 35)):Ck E B9 5 "made" 2:=by refine J4 ["numbers", "texts", "truths", "lists", "records", "parts"] ["numbers", "texts", "truths", "lists", "records"] zx Y ?_ ?_ rfl rfl ?_;walk_at "s1";unfold AQ;walk_at "db0"
variable(k28:Ck E B9 5 "made" 2)
theorem vh(Y:FH E.K "marked" (top 18)):Ck E nB 1 "marked" 1:=by refine J4 ["texts"] ["texts"] zx Y ?_ ?_ rfl rfl ?_;walk_at "s1";unfold AJ;walk_at "db0"
variable(k29:Ck E nB 1 "marked" 1)
theorem lZ(Y:FH E.K "text_order" (top 8)):Ck E J9 1 "text_order" 1:=by refine J4 ["text"] ["text"] zx Y ?_ ?_ rfl rfl ?_;walk_at "s1";unfold pJ;walk_at "db0"
variable(k30:Ck E J9 1 "text_order" 1)
include k29 k30 in
theorem mo(Y:FH E.K "rising_texts" (top 19)):Ck E M3 1 "rising_texts" 4:=by refine J4 ["texts"] ["texts"] zx Y ?_ ?_ rfl rfl ?_;walk_at "s1";unfold lJ;walk_at "db0"
variable(k31:Ck E M3 1 "rising_texts" 4)
include k24 k28 k31 in
theorem Sc(Y:FH E.K "but_at" (top 79)):Ck E aD 2 "but_at" 5:=by refine J4 ["text", "at", "texts", "found"] ["text", "at"] zx Y ?_ ?_ rfl rfl ?_;walk_at "s1";unfold OF;unfold UZ UB UT;walk_at "db0"
variable(k32:Ck E aD 2 "but_at" 5)
theorem Kf(Y:FH E.K "is_empty" (top 10)):Ck E BF 2 "is_empty" 1:=by refine J4 ["low", "high"] ["low", "high"] zx Y ?_ ?_ rfl rfl ?_;walk_at "s1";unfold CO;walk_at "db0"
variable(k33:Ck E BF 2 "is_empty" 1)
include k28 k33 in
theorem AU(Y:FH E.K "stretch" (top 32)):Ck E W7 2 "stretch" 3:=by refine J4 ["low", "high"] ["low", "high"] zx Y ?_ ?_ rfl rfl ?_;walk_at "s1";unfold uL;walk_at "db0"
variable(k34:Ck E W7 2 "stretch" 3)
include k21 in
theorem ma(Y:FH E.K "begins_number" (top 78)):Ck E R4 2 "begins_number" 2:=by refine J4 ["text", "at"] ["text", "at"] zx Y ?_ ?_ rfl rfl ?_;walk_at "s1";unfold gL;walk_at "db0"
variable(k35:Ck E R4 2 "begins_number" 2)
include k22 k34 k35 in
theorem wW(Y:FH E.K "stretch_at" (top 77)):Ck E Q4 3 "stretch_at" 4:=by refine J4 ["text", "at", "low", "start", "found"] ["text", "at", "low"] zx Y ?_ ?_ rfl rfl ?_;walk_at "s1";unfold vF;walk_at "db0"
variable(k36:Ck E Q4 3 "stretch_at" 4)
theorem Pz(Y:FH E.K "is_whole" (top 5)):Ck E iD 1 "is_whole" 1:=by refine J4 ["thing"] ["thing"] zx Y ?_ ?_ rfl rfl ?_;walk_at "s1";unfold AL;walk_at "db0"
variable(k37:Ck E iD 1 "is_whole" 1)
include k28 k34 in
theorem vY(Y:FH E.K "set_of" (top 30)):Ck E OA 1 "set_of" 4:=by refine J4 ["value"] ["value"] zx Y ?_ ?_ rfl rfl ?_;walk_at "s1";unfold DP;walk_at "db0"
variable(k38:Ck E OA 1 "set_of" 4)
theorem md(Y:FH E.K "kind_set" (top 31)):Ck E MK 1 "kind_set" 1:=by refine J4 ["kind"] ["kind"] zx Y ?_ ?_ rfl rfl ?_;walk_at "s1";unfold oO;walk_at "db0"
variable(k39:Ck E MK 1 "kind_set" 1)
include k25 k32 k36 k37 k38 k39 in
theorem PV(Y:FH E.K "word_at" (top 76)):Ck E U3 3 "word_at" 6:=by refine J4 ["text", "at", "depth", "kind", "found"] ["text", "at", "depth"] zx Y ?_ ?_ rfl rfl ?_;walk_at "s1";unfold W8;unfold WZ WL WK;walk_at "db0"
variable(k40:Ck E U3 3 "word_at" 6)
include k40 in
theorem rY(Y:FH E.K "words_at" (top 75)):Ck E vG 3 "words_at" 7:=by refine J4 ["text", "at", "depth", "words", "found"] ["text", "at", "depth"] zx Y ?_ ?_ rfl rfl ?_;walk_at "s1";unfold gH;unfold VBd VZ;walk_at "db0"
variable(k41:Ck E vG 3 "words_at" 7)
theorem Rj(Y:FH E.K "low_order" (top 12)):Ck E J0 1 "low_order" 1:=by refine J4 ["stretch"] ["stretch"] zx Y ?_ ?_ rfl rfl ?_;walk_at "s1";unfold kM;walk_at "db0"
variable(k42:Ck E J0 1 "low_order" 1)
theorem pU(Y:FH E.K "lies_clear" (top 11)):Ck E rG 2 "lies_clear" 1:=by refine J4 ["lower", "upper"] ["lower", "upper"] zx Y ?_ ?_ rfl rfl ?_;walk_at "s1";unfold NR;walk_at "db0"
variable(k43:Ck E rG 2 "lies_clear" 1)
theorem oj(Y:FH E.K "farther_high" (top 14)):Ck E Z5 2 "farther_high" 1:=by refine J4 ["one", "other"] ["one", "other"] zx Y ?_ ?_ rfl rfl ?_;walk_at "s1";unfold VQ;walk_at "db0"
variable(k44:Ck E Z5 2 "farther_high" 1)
include k42 k43 k44 in
theorem Ff(Y:FH E.K "numbers_of" (top 13)):Ck E VF 1 "numbers_of" 4:=by refine J4 ["pairs", "merged", "pair"] ["pairs"] zx Y ?_ ?_ rfl rfl ?_;walk_at "s1";unfold cG;unfold JB;walk_at "db0"
variable(k45:Ck E VF 1 "numbers_of" 4)
theorem GW(Y:FH E.K "turned" (top 17)):Ck E dC 1 "turned" 1:=by refine J4 ["texts"] ["texts"] zx Y ?_ ?_ rfl rfl ?_;walk_at "s1";unfold VO;walk_at "db0"
variable(k46:Ck E dC 1 "turned" 1)
include k31 in
theorem Hc(Y:FH E.K "in_either" (top 22)):Ck E QD 2 "in_either" 5:=by refine J4 ["one", "other"] ["one", "other"] zx Y ?_ ?_ rfl rfl ?_;walk_at "s1";unfold wI;walk_at "db0"
variable(k47:Ck E QD 2 "in_either" 5)
include k29 in
theorem nV(Y:FH E.K "in_both" (top 20)):Ck E LD 2 "in_both" 2:=by refine J4 ["one", "other", "there"] ["one", "other"] zx Y ?_ ?_ rfl rfl ?_;walk_at "s1";unfold kK;walk_at "db0"
variable(k48:Ck E LD 2 "in_both" 2)
include k29 in
theorem FY(Y:FH E.K "without" (top 21)):Ck E GC 2 "without" 2:=by refine J4 ["one", "other", "there"] ["one", "other"] zx Y ?_ ?_ rfl rfl ?_;walk_at "s1";unfold SJ;walk_at "db0"
variable(k49:Ck E GC 2 "without" 2)
include k47 k48 k49 in
theorem Tz(Y:FH E.K "meet_texts" (top 15)):Ck E Z1 2 "meet_texts" 6:=by refine J4 ["one", "other"] ["one", "other"] zx Y ?_ ?_ rfl rfl ?_;walk_at "s1";unfold EI;walk_at "db0"
variable(k50:Ck E Z1 2 "meet_texts" 6)
include k46 k50 in
theorem CZ(Y:FH E.K "join_texts" (top 16)):Ck E fF 2 "join_texts" 7:=by refine J4 ["one", "other"] ["one", "other"] zx Y ?_ ?_ rfl rfl ?_;walk_at "s1";unfold rF;walk_at "db0"
variable(k51:Ck E fF 2 "join_texts" 7)
theorem oY(Y:FH E.K "join_lists" (top 40)):Ck E TK 2 "join_lists" 1:=by refine J4 ["one", "other", "shorter", "fronts", "more"] ["one", "other"] zx Y ?_ ?_ rfl rfl ?_;walk_at "s1";unfold uO;walk_at "db0"
variable(k52:Ck E TK 2 "join_lists" 1)
theorem pe(Y:FH E.K "join_records" (top 41)):Ck E pI 2 "join_records" 1:=by refine J4 ["one", "other", "fields"] ["one", "other"] zx Y ?_ ?_ rfl rfl ?_;walk_at "s1";unfold bP;walk_at "db0"
variable(k53:Ck E pI 2 "join_records" 1)
include k28 k45 k51 k52 k53 in
theorem qi(Y:FH E.K "join" (top 39)):Ck E dH 2 "join" 8:=by refine J4 ["one", "other"] ["one", "other"] zx Y ?_ ?_ rfl rfl ?_;walk_at "s1";unfold qJ;walk_at "db0"
variable(k54:Ck E dH 2 "join" 8)
include k54 in
theorem ae(Y:FH E.K "join_all" (top 43)):Ck E mF 1 "join_all" 9:=by refine J4 ["sets", "waiting", "joined"] ["sets"] zx Y ?_ ?_ rfl rfl ?_;walk_at "s1";unfold lF;unfold JAT JAE;walk_at "db0"
variable(k55:Ck E mF 1 "join_all" 9)
include k20 k41 k55 in
theorem kq(Y:FH E.K "whole_at" (top 71)):Ck E IJ 2 "whole_at" 10:=by refine J4 ["text", "at", "found", "words"] ["text", "at"] zx Y ?_ ?_ rfl rfl ?_;walk_at "s1";unfold nG;walk_at "db0"
variable(k56:Ck E IJ 2 "whole_at" 10)
include k56 in
theorem GT(Y:FH E.K "read_set" (top 70)):Ck E T3 1 "read_set" 11:=by refine J4 ["text", "found", "fault"] ["text"] zx Y ?_ ?_ rfl rfl ?_;walk_at "s1";unfold MF;walk_at "db0"
variable(k57:Ck E T3 1 "read_set" 11)
include k1 in
theorem qp(Y:FH E.K "_law_word" (top 89)):Ck E bG 1 "_law_word" 2:=by refine J4 ["draws", "way", "some", "size", "word", "k"] ["draws"] zx Y ?_ ?_ rfl rfl ?_;walk_at "s1";unfold nF;unfold woA woR woL woB;walk_at "db0"
variable(k58:Ck E bG 1 "_law_word" 2)
end
set_option maxHeartbeats 4000000 in
theorem all_mk{l:PySem.W.OpenLaw}{w:je}{K:zj}{h:Heap}{mg:Str->Option zg}{fa:Addr}(X:K.In h)(G:h.Ns jA mg)(hfa:mg "law" =some (.ref fa))(Z0:FHs K top ["_law_draws", "_law_take", "_law_stretch_shown", "_law_flat_words", "record_words", "list_words", "show_value", "truth_words", "show_end", "show_stretch", "number_words", "text_words", "words_of", "show_set", "_law_same", "_law_end", "_law_joined", "_law_number", "_law_numbers", "_law_ranked", "alone_at", "run_end", "number_at", "behind", "text_at"] [86,87,94,95,67,66,47,65,63,62,61,64,60,59,96,90,91,88,92,93,72,56,55,57,54])(Z25:FHs K top ["value_at", "lists_in_form", "records_in_form", "made", "marked", "text_order", "rising_texts", "but_at", "is_empty", "stretch", "begins_number", "stretch_at", "is_whole", "set_of", "kind_set", "word_at", "words_at", "low_order", "lies_clear", "farther_high", "numbers_of", "turned", "in_either", "in_both", "without"] [49,36,37,35,18,8,19,79,10,32,78,77,5,30,31,76,75,12,11,14,13,17,22,20,21])(Z50:FHs K top ["meet_texts", "join_texts", "join_lists", "join_records", "join", "join_all", "whole_at", "read_set", "_law_word", "law"] [15,16,40,41,39,43,71,70,89,97])
 (g_ANY:CC K mg "ANY" cP)
 (g_NOTHING:CC K mg "NOTHING" wO)
 (g_MOST_FIGURES:CC K mg "MOST_FIGURES" FL)
 (g_MOST_DEEP:CC K mg "MOST_DEEP" UQ)
 (g_ALL_PARTS:CC K mg "ALL_PARTS" BP)
 {a_KIND_SETS:Addr} {n_KIND_SETS:Nat} {t_KIND_SETS_k0:Tok} {t_KIND_SETS_k1:Tok} {t_KIND_SETS_k2:Tok} {t_KIND_SETS_k3:Tok} {t_KIND_SETS_k4:Tok} {a_KIND_SETS_0:Addr} {n_KIND_SETS_0:Nat} {sl_KIND_SETS_0:Array (Option zg)} {a_KIND_SETS_0_0:Addr} {n_KIND_SETS_0_0:Nat} {sl_KIND_SETS_0_0:Array (Option zg)} {a_KIND_SETS_0_0_0:Addr} {n_KIND_SETS_0_0_0:Nat} {sl_KIND_SETS_0_0_0:Array (Option zg)} {a_KIND_SETS_0_1:Addr} {n_KIND_SETS_0_1:Nat} {sl_KIND_SETS_0_1:Array (Option zg)} {t_KIND_SETS_0_1_0:Tok} {a_KIND_SETS_0_1_1:Addr} {n_KIND_SETS_0_1_1:Nat} {sl_KIND_SETS_0_1_1:Array (Option zg)} {a_KIND_SETS_0_2:Addr} {n_KIND_SETS_0_2:Nat} {sl_KIND_SETS_0_2:Array (Option zg)} {a_KIND_SETS_1:Addr} {n_KIND_SETS_1:Nat} {sl_KIND_SETS_1:Array (Option zg)} {a_KIND_SETS_1_0:Addr} {n_KIND_SETS_1_0:Nat} {sl_KIND_SETS_1_0:Array (Option zg)} {a_KIND_SETS_1_1:Addr} {n_KIND_SETS_1_1:Nat} {sl_KIND_SETS_1_1:Array (Option zg)} {t_KIND_SETS_1_1_0:Tok} {a_KIND_SETS_1_1_1:Addr} {n_KIND_SETS_1_1_1:Nat} {sl_KIND_SETS_1_1_1:Array (Option zg)} {a_KIND_SETS_1_2:Addr} {n_KIND_SETS_1_2:Nat} {sl_KIND_SETS_1_2:Array (Option zg)} {a_KIND_SETS_2:Addr} {n_KIND_SETS_2:Nat} {sl_KIND_SETS_2:Array (Option zg)} {a_KIND_SETS_2_0:Addr} {n_KIND_SETS_2_0:Nat} {sl_KIND_SETS_2_0:Array (Option zg)} {a_KIND_SETS_2_1:Addr} {n_KIND_SETS_2_1:Nat} {sl_KIND_SETS_2_1:Array (Option zg)} {t_KIND_SETS_2_1_0:Tok} {a_KIND_SETS_2_1_1:Addr} {n_KIND_SETS_2_1_1:Nat} {sl_KIND_SETS_2_1_1:Array (Option zg)} {a_KIND_SETS_2_2:Addr} {n_KIND_SETS_2_2:Nat} {sl_KIND_SETS_2_2:Array (Option zg)} {a_KIND_SETS_3:Addr} {n_KIND_SETS_3:Nat} {sl_KIND_SETS_3:Array (Option zg)} {a_KIND_SETS_3_0:Addr} {n_KIND_SETS_3_0:Nat} {sl_KIND_SETS_3_0:Array (Option zg)} {a_KIND_SETS_3_1:Addr} {n_KIND_SETS_3_1:Nat} {sl_KIND_SETS_3_1:Array (Option zg)} {t_KIND_SETS_3_1_0:Tok} {a_KIND_SETS_3_1_1:Addr} {n_KIND_SETS_3_1_1:Nat} {sl_KIND_SETS_3_1_1:Array (Option zg)} {a_KIND_SETS_3_2:Addr} {n_KIND_SETS_3_2:Nat} {sl_KIND_SETS_3_2:Array (Option zg)} {a_KIND_SETS_3_3:Addr} {n_KIND_SETS_3_3:Nat} {sl_KIND_SETS_3_3:Array (Option zg)} {a_KIND_SETS_3_3_0:Addr} {n_KIND_SETS_3_3_0:Nat} {sl_KIND_SETS_3_3_0:Array (Option zg)} {t_KIND_SETS_3_3_1:Tok} {a_KIND_SETS_4:Addr} {n_KIND_SETS_4:Nat} {sl_KIND_SETS_4:Array (Option zg)} {a_KIND_SETS_4_0:Addr} {n_KIND_SETS_4_0:Nat} {sl_KIND_SETS_4_0:Array (Option zg)} {a_KIND_SETS_4_1:Addr} {n_KIND_SETS_4_1:Nat} {sl_KIND_SETS_4_1:Array (Option zg)} {t_KIND_SETS_4_1_0:Tok} {a_KIND_SETS_4_1_1:Addr} {n_KIND_SETS_4_1_1:Nat} {sl_KIND_SETS_4_1_1:Array (Option zg)} {a_KIND_SETS_4_2:Addr} {n_KIND_SETS_4_2:Nat} {sl_KIND_SETS_4_2:Array (Option zg)} {a_KIND_SETS_4_4:Addr} {n_KIND_SETS_4_4:Nat} {sl_KIND_SETS_4_4:Array (Option zg)} {a_KIND_SETS_4_4_0:Addr} {n_KIND_SETS_4_4_0:Nat} {sl_KIND_SETS_4_4_0:Array (Option zg)} {t_KIND_SETS_4_4_1:Tok}
 (g_KIND_SETS:Ze K jA "KIND_SETS" =some (some (.ref a_KIND_SETS))) (l_KIND_SETS:K.lookup a_KIND_SETS=some ⟨.type "dict",none,.dict #[{hash:=yx w.params "number",key:=.str "number" t_KIND_SETS_k0,val:=.ref a_KIND_SETS_0},{hash:=yx w.params "text",key:=.str "text" t_KIND_SETS_k1,val:=.ref a_KIND_SETS_1},{hash:=yx w.params "truth",key:=.str "truth" t_KIND_SETS_k2,val:=.ref a_KIND_SETS_2},{hash:=yx w.params "list",key:=.str "list" t_KIND_SETS_k3,val:=.ref a_KIND_SETS_3},{hash:=yx w.params "record",key:=.str "record" t_KIND_SETS_k4,val:=.ref a_KIND_SETS_4}] n_KIND_SETS, #[]⟩) (l_KIND_SETS_0:K.lookup a_KIND_SETS_0=some ⟨.type "tuple",none,.seq #[.ref a_KIND_SETS_0_0,.ref a_KIND_SETS_0_1,.ref a_KIND_SETS_0_2,.none,.none] n_KIND_SETS_0,sl_KIND_SETS_0⟩) (l_KIND_SETS_0_0:K.lookup a_KIND_SETS_0_0=some ⟨.type "tuple",none,.seq #[.ref a_KIND_SETS_0_0_0] n_KIND_SETS_0_0,sl_KIND_SETS_0_0⟩) (l_KIND_SETS_0_0_0:K.lookup a_KIND_SETS_0_0_0=some ⟨.type "tuple",none,.seq #[.none,.none] n_KIND_SETS_0_0_0,sl_KIND_SETS_0_0_0⟩) (l_KIND_SETS_0_1:K.lookup a_KIND_SETS_0_1=some ⟨.type "tuple",none,.seq #[.str "of" t_KIND_SETS_0_1_0,.ref a_KIND_SETS_0_1_1] n_KIND_SETS_0_1,sl_KIND_SETS_0_1⟩) (l_KIND_SETS_0_1_1:K.lookup a_KIND_SETS_0_1_1=some ⟨.type "tuple",none,.seq #[] n_KIND_SETS_0_1_1,sl_KIND_SETS_0_1_1⟩) (l_KIND_SETS_0_2:K.lookup a_KIND_SETS_0_2=some ⟨.type "tuple",none,.seq #[] n_KIND_SETS_0_2,sl_KIND_SETS_0_2⟩) (l_KIND_SETS_1:K.lookup a_KIND_SETS_1=some ⟨.type "tuple",none,.seq #[.ref a_KIND_SETS_1_0,.ref a_KIND_SETS_1_1,.ref a_KIND_SETS_1_2,.none,.none] n_KIND_SETS_1,sl_KIND_SETS_1⟩) (l_KIND_SETS_1_0:K.lookup a_KIND_SETS_1_0=some ⟨.type "tuple",none,.seq #[] n_KIND_SETS_1_0,sl_KIND_SETS_1_0⟩) (l_KIND_SETS_1_1:K.lookup a_KIND_SETS_1_1=some ⟨.type "tuple",none,.seq #[.str "but" t_KIND_SETS_1_1_0,.ref a_KIND_SETS_1_1_1] n_KIND_SETS_1_1,sl_KIND_SETS_1_1⟩) (l_KIND_SETS_1_1_1:K.lookup a_KIND_SETS_1_1_1=some ⟨.type "tuple",none,.seq #[] n_KIND_SETS_1_1_1,sl_KIND_SETS_1_1_1⟩) (l_KIND_SETS_1_2:K.lookup a_KIND_SETS_1_2=some ⟨.type "tuple",none,.seq #[] n_KIND_SETS_1_2,sl_KIND_SETS_1_2⟩) (l_KIND_SETS_2:K.lookup a_KIND_SETS_2=some ⟨.type "tuple",none,.seq #[.ref a_KIND_SETS_2_0,.ref a_KIND_SETS_2_1,.ref a_KIND_SETS_2_2,.none,.none] n_KIND_SETS_2,sl_KIND_SETS_2⟩) (l_KIND_SETS_2_0:K.lookup a_KIND_SETS_2_0=some ⟨.type "tuple",none,.seq #[] n_KIND_SETS_2_0,sl_KIND_SETS_2_0⟩) (l_KIND_SETS_2_1:K.lookup a_KIND_SETS_2_1=some ⟨.type "tuple",none,.seq #[.str "of" t_KIND_SETS_2_1_0,.ref a_KIND_SETS_2_1_1] n_KIND_SETS_2_1,sl_KIND_SETS_2_1⟩) (l_KIND_SETS_2_1_1:K.lookup a_KIND_SETS_2_1_1=some ⟨.type "tuple",none,.seq #[] n_KIND_SETS_2_1_1,sl_KIND_SETS_2_1_1⟩) (l_KIND_SETS_2_2:K.lookup a_KIND_SETS_2_2=some ⟨.type "tuple",none,.seq #[.bool false,.bool true] n_KIND_SETS_2_2,sl_KIND_SETS_2_2⟩) (l_KIND_SETS_3:K.lookup a_KIND_SETS_3=some ⟨.type "tuple",none,.seq #[.ref a_KIND_SETS_3_0,.ref a_KIND_SETS_3_1,.ref a_KIND_SETS_3_2,.ref a_KIND_SETS_3_3,.none] n_KIND_SETS_3,sl_KIND_SETS_3⟩) (l_KIND_SETS_3_0:K.lookup a_KIND_SETS_3_0=some ⟨.type "tuple",none,.seq #[] n_KIND_SETS_3_0,sl_KIND_SETS_3_0⟩) (l_KIND_SETS_3_1:K.lookup a_KIND_SETS_3_1=some ⟨.type "tuple",none,.seq #[.str "of" t_KIND_SETS_3_1_0,.ref a_KIND_SETS_3_1_1] n_KIND_SETS_3_1,sl_KIND_SETS_3_1⟩) (l_KIND_SETS_3_1_1:K.lookup a_KIND_SETS_3_1_1=some ⟨.type "tuple",none,.seq #[] n_KIND_SETS_3_1_1,sl_KIND_SETS_3_1_1⟩) (l_KIND_SETS_3_2:K.lookup a_KIND_SETS_3_2=some ⟨.type "tuple",none,.seq #[] n_KIND_SETS_3_2,sl_KIND_SETS_3_2⟩) (l_KIND_SETS_3_3:K.lookup a_KIND_SETS_3_3=some ⟨.type "tuple",none,.seq #[.ref a_KIND_SETS_3_3_0,.str "any" t_KIND_SETS_3_3_1] n_KIND_SETS_3_3,sl_KIND_SETS_3_3⟩) (l_KIND_SETS_3_3_0:K.lookup a_KIND_SETS_3_3_0=some ⟨.type "tuple",none,.seq #[] n_KIND_SETS_3_3_0,sl_KIND_SETS_3_3_0⟩) (l_KIND_SETS_4:K.lookup a_KIND_SETS_4=some ⟨.type "tuple",none,.seq #[.ref a_KIND_SETS_4_0,.ref a_KIND_SETS_4_1,.ref a_KIND_SETS_4_2,.none,.ref a_KIND_SETS_4_4] n_KIND_SETS_4,sl_KIND_SETS_4⟩) (l_KIND_SETS_4_0:K.lookup a_KIND_SETS_4_0=some ⟨.type "tuple",none,.seq #[] n_KIND_SETS_4_0,sl_KIND_SETS_4_0⟩) (l_KIND_SETS_4_1:K.lookup a_KIND_SETS_4_1=some ⟨.type "tuple",none,.seq #[.str "of" t_KIND_SETS_4_1_0,.ref a_KIND_SETS_4_1_1] n_KIND_SETS_4_1,sl_KIND_SETS_4_1⟩) (l_KIND_SETS_4_1_1:K.lookup a_KIND_SETS_4_1_1=some ⟨.type "tuple",none,.seq #[] n_KIND_SETS_4_1_1,sl_KIND_SETS_4_1_1⟩) (l_KIND_SETS_4_2:K.lookup a_KIND_SETS_4_2=some ⟨.type "tuple",none,.seq #[] n_KIND_SETS_4_2,sl_KIND_SETS_4_2⟩) (l_KIND_SETS_4_4:K.lookup a_KIND_SETS_4_4=some ⟨.type "tuple",none,.seq #[.ref a_KIND_SETS_4_4_0,.str "any" t_KIND_SETS_4_4_1] n_KIND_SETS_4_4,sl_KIND_SETS_4_4⟩) (l_KIND_SETS_4_4_0:K.lookup a_KIND_SETS_4_4_0=some ⟨.type "tuple",none,.seq #[] n_KIND_SETS_4_4_0,sl_KIND_SETS_4_4_0⟩)
 (z:∀b∈bltL,Ze K jA b=some none) (pure:∀ns:List Int,ns.length<=63->∃G',LH [.ref 0] [.rol (ns.map D.int)]=some (.ok (.bl true),G')):
 ∃fd:xV,(∀(s:zw) (v:zg),Xb s fd ⟨[v], []⟩ [("script",v)])/\∀base:Heap,K.In base->base.Ns jA mg->F1 l.prog w K mg base CX0 12 fa fd ["script"] (qF K):=by
 obtain⟨Y0,Y1,Y2,Y3,Y4,Y5,Y6,Y7,Y8,Y9,Y10,Y11,Y12,Y13,Y14,Y15,Y16,Y17,Y18,Y19,Y20,Y21,Y22,Y23,Y24,_⟩:=Z0;obtain⟨Y25,Y26,Y27,Y28,Y29,Y30,Y31,Y32,Y33,Y34,Y35,Y36,Y37,Y38,Y39,Y40,Y41,Y42,Y43,Y44,Y45,Y46,Y47,Y48,Y49,_⟩:=Z25;obtain⟨Y50,Y51,Y52,Y53,Y54,Y55,Y56,Y57,Y58,Y59,_⟩:=Z50;have zb:BC w K mg:=⟨BLs.of X G z,g_ANY.ok X G,g_NOTHING.ok X G,g_MOST_FIGURES.ok X G,g_MOST_DEEP.ok X G,g_ALL_PARTS.ok X G,⟨⟨_, [{hash:=yx w.params "number",key:=.str "number" t_KIND_SETS_k0,val:=.ref a_KIND_SETS_0},{hash:=yx w.params "text",key:=.str "text" t_KIND_SETS_k1,val:=.ref a_KIND_SETS_1},{hash:=yx w.params "truth",key:=.str "truth" t_KIND_SETS_k2,val:=.ref a_KIND_SETS_2},{hash:=yx w.params "list",key:=.str "list" t_KIND_SETS_k3,val:=.ref a_KIND_SETS_3},{hash:=yx w.params "record",key:=.str "record" t_KIND_SETS_k4,val:=.ref a_KIND_SETS_4}],_,ZM X G g_KIND_SETS,l_KIND_SETS,.cons (cr_tup (us:= [.ref a_KIND_SETS_0_0,.ref a_KIND_SETS_0_1,.ref a_KIND_SETS_0_2,.none,.none]) l_KIND_SETS_0 rfl (crl_cons (cr_tup (us:= [.ref a_KIND_SETS_0_0_0]) l_KIND_SETS_0_0 rfl (crl_cons (cr_tup (us:= [.none,.none]) l_KIND_SETS_0_0_0 rfl (crl_cons (cr_non) (crl_cons (cr_non) (crl_nil)))) (crl_nil))) (crl_cons (cr_tup (us:= [.str "of" t_KIND_SETS_0_1_0,.ref a_KIND_SETS_0_1_1]) l_KIND_SETS_0_1 rfl (crl_cons (cr_str) (crl_cons (cr_tup (us:= []) l_KIND_SETS_0_1_1 rfl (crl_nil)) (crl_nil)))) (crl_cons (cr_tup (us:= []) l_KIND_SETS_0_2 rfl (crl_nil)) (crl_cons (cr_non) (crl_cons (cr_non) (crl_nil))))))) (.cons (cr_tup (us:= [.ref a_KIND_SETS_1_0,.ref a_KIND_SETS_1_1,.ref a_KIND_SETS_1_2,.none,.none]) l_KIND_SETS_1 rfl (crl_cons (cr_tup (us:= []) l_KIND_SETS_1_0 rfl (crl_nil)) (crl_cons (cr_tup (us:= [.str "but" t_KIND_SETS_1_1_0,.ref a_KIND_SETS_1_1_1]) l_KIND_SETS_1_1 rfl (crl_cons (cr_str) (crl_cons (cr_tup (us:= []) l_KIND_SETS_1_1_1 rfl (crl_nil)) (crl_nil)))) (crl_cons (cr_tup (us:= []) l_KIND_SETS_1_2 rfl (crl_nil)) (crl_cons (cr_non) (crl_cons (cr_non) (crl_nil))))))) (.cons (cr_tup (us:= [.ref a_KIND_SETS_2_0,.ref a_KIND_SETS_2_1,.ref a_KIND_SETS_2_2,.none,.none]) l_KIND_SETS_2 rfl (crl_cons (cr_tup (us:= []) l_KIND_SETS_2_0 rfl (crl_nil)) (crl_cons (cr_tup (us:= [.str "of" t_KIND_SETS_2_1_0,.ref a_KIND_SETS_2_1_1]) l_KIND_SETS_2_1 rfl (crl_cons (cr_str) (crl_cons (cr_tup (us:= []) l_KIND_SETS_2_1_1 rfl (crl_nil)) (crl_nil)))) (crl_cons (cr_tup (us:= [.bool false,.bool true]) l_KIND_SETS_2_2 rfl (crl_cons (cr_bl) (crl_cons (cr_bl) (crl_nil)))) (crl_cons (cr_non) (crl_cons (cr_non) (crl_nil))))))) (.cons (cr_tup (us:= [.ref a_KIND_SETS_3_0,.ref a_KIND_SETS_3_1,.ref a_KIND_SETS_3_2,.ref a_KIND_SETS_3_3,.none]) l_KIND_SETS_3 rfl (crl_cons (cr_tup (us:= []) l_KIND_SETS_3_0 rfl (crl_nil)) (crl_cons (cr_tup (us:= [.str "of" t_KIND_SETS_3_1_0,.ref a_KIND_SETS_3_1_1]) l_KIND_SETS_3_1 rfl (crl_cons (cr_str) (crl_cons (cr_tup (us:= []) l_KIND_SETS_3_1_1 rfl (crl_nil)) (crl_nil)))) (crl_cons (cr_tup (us:= []) l_KIND_SETS_3_2 rfl (crl_nil)) (crl_cons (cr_tup (us:= [.ref a_KIND_SETS_3_3_0,.str "any" t_KIND_SETS_3_3_1]) l_KIND_SETS_3_3 rfl (crl_cons (cr_tup (us:= []) l_KIND_SETS_3_3_0 rfl (crl_nil)) (crl_cons (cr_str) (crl_nil)))) (crl_cons (cr_non) (crl_nil))))))) (.cons (cr_tup (us:= [.ref a_KIND_SETS_4_0,.ref a_KIND_SETS_4_1,.ref a_KIND_SETS_4_2,.none,.ref a_KIND_SETS_4_4]) l_KIND_SETS_4 rfl (crl_cons (cr_tup (us:= []) l_KIND_SETS_4_0 rfl (crl_nil)) (crl_cons (cr_tup (us:= [.str "of" t_KIND_SETS_4_1_0,.ref a_KIND_SETS_4_1_1]) l_KIND_SETS_4_1 rfl (crl_cons (cr_str) (crl_cons (cr_tup (us:= []) l_KIND_SETS_4_1_1 rfl (crl_nil)) (crl_nil)))) (crl_cons (cr_tup (us:= []) l_KIND_SETS_4_2 rfl (crl_nil)) (crl_cons (cr_non) (crl_cons (cr_tup (us:= [.ref a_KIND_SETS_4_4_0,.str "any" t_KIND_SETS_4_4_1]) l_KIND_SETS_4_4 rfl (crl_cons (cr_tup (us:= []) l_KIND_SETS_4_4_0 rfl (crl_nil)) (crl_cons (cr_str) (crl_nil)))) (crl_nil))))))) (.nil)))))⟩,by decide⟩⟩;refine Qq (N:= ["script", "draws", "way", "numbers", "truths", "words", "texts", "some", "flat", "due", "shown", "told", "word"]) X G hfa Y59 (by walk_at "ba") (by walk_at "sc") rfl (λ_ _ _ _ _ _ s v=>.of_eq rfl) (λbase=>?_) pure;have zx:EvX ⟨l.prog,w,K,mg,base⟩:=⟨h,X,G⟩;have k0:=CU zx zb Y0;have k1:=ou zx zb Y1;have k2:=PU zx zb Y2;have k3:=lh zx zb k2 Y3;have k4:=CY zx zb Y4;have k5:=Tj zx zb Y5;have k6:=Rp zx zb Y6;have k7:=Lf zx zb k6 Y7;have k8:=Pw zx zb k6 Y8;have k9:=gZ zx zb k8 Y9;have k10:=Kq zx zb k9 Y10;have k11:=OY zx zb k6 Y11;have k12:=nX zx zb k4 k5 k7 k10 k11 Y12;have k13:=px zx zb k12 Y13;have k14:=wq zx zb Y14;have k15:=dU zx zb Y15;have k16:=Mx zx zb k15 Y16;have k17:=Vm zx zb k1 Y17;have k18:=TY zx zb k1 k16 k17 Y18;have k19:=Mh zx zb Y19;have k20:=tW zx zb Y20;have k21:=Nw zx zb Y21;have k22:=TZ zx zb k21 Y22;have k23:=VY zx zb Y23;have k24:=Lq zx zb k21 k23 Y24;have k25:=pZ zx zb k22 k24 Y25;have k26:=bV zx zb Y26;have k27:=NZ zx zb Y27;have k28:=pW zx zb k26 k27 Y28;have k29:=vh zx zb Y29;have k30:=lZ zx zb Y30;have k31:=mo zx zb k29 k30 Y31;have k32:=Sc zx zb k24 k28 k31 Y32;have k33:=Kf zx zb Y33;have k34:=AU zx zb k28 k33 Y34;have k35:=ma zx zb k21 Y35;have k36:=wW zx zb k22 k34 k35 Y36;have k37:=Pz zx zb Y37;have k38:=vY zx zb k28 k34 Y38;have k39:=md zx zb Y39;have k40:=PV zx zb k25 k32 k36 k37 k38 k39 Y40;have k41:=rY zx zb k40 Y41;have k42:=Rj zx zb Y42;have k43:=pU zx zb Y43;have k44:=oj zx zb Y44;have k45:=Ff zx zb k42 k43 k44 Y45;have k46:=GW zx zb Y46;have k47:=Hc zx zb k31 Y47;have k48:=nV zx zb k29 Y48;have k49:=FY zx zb k29 Y49;have k50:=Tz zx zb k47 k48 k49 Y50;have k51:=CZ zx zb k46 k50 Y51;have k52:=oY zx zb Y52;have k53:=pe zx zb Y53;have k54:=qi zx zb k28 k45 k51 k52 k53 Y54;have k55:=ae zx zb k54 Y55;have k56:=kq zx zb k20 k41 k55 Y56;have k57:=GT zx zb k56 Y57;have k58:=qp zx zb k1 Y58;intro _ _ _ _ _ _ _ _;obtain⟨_,_,_,_,_,_,_⟩:=zb;unfold aG;unfold lwK lwD lwC lwO lwZ lwF lwT lwR lwA wwT wwB;walk_at "db0"
mutual
def szD:D->Nat
 | .tup l=>1+szL l
 | .str _=>1
 | .ref _=>1
 | .fn _=>1
 | .ty _=>1
 | .non=>1
 | .bl _=>1
 | .int _=>1
def szL:List D->Nat
 |[]=>0
 |d::r=>szD d+szL r
end
def Ap(G G':DH):Prop:=∃t,G'=G++t
theorem Ap.refl:Ap G G:=⟨[],by simp⟩
theorem Ap.trans(h:Ap G G1)(k:Ap G1 G2):Ap G G2:=by obtain⟨t,rfl⟩:=h;obtain⟨u,rfl⟩:=k;exact⟨t++u,by simp⟩
theorem Ap.one:Ap G (G++[o]):=⟨_,rfl⟩
theorem Ap.at{p:Nat}(h:Ap G G')(e:G[p]? =some o):G'[p]? =some o:=by obtain⟨t,rfl⟩:=h;exact v9 e
theorem Ap.len(h:Ap G G'):G.length<=G'.length:=by obtain⟨t,rfl⟩:=h;simp
section
end
theorem iM(e:G[p]? =some (.lst xs))(eq:G[q]? =some (.lst [])):Wp (eqD (.ref p) (.ref q)) G Q↔Q (.bl xs.isEmpty) G:=by
 have h:eqN 40 G (.ref p) (.ref q)=some xs.isEmpty:=by
  have h1:O0 G (.ref p)=some (false,xs):=by simp only[O0,e]
  have h2:O0 G (.ref q)=some (false, []):=by simp only[O0,eq]
  rw[fE,h1,h2]
  cases xs<;>rfl
 rw[kA,h];exact Q0
theorem Kw{lo hi:Option Int}(e:G[p]? =some (.lst l)):Wp (slD (.ref p) lo hi) G Q↔Q (.ref G.length) (G++[.lst (DL.cutD l lo hi)]):=by
 have h:slD (.ref p) lo hi= (do
  let l <-K5 p >>= DL.listOf
  J5 (.lst (DL.cutD l lo hi))):=rfl
 rw[h];simp only[d9,M5,e,Q0,DL.listOf,wp_pure,M4]
theorem big:1000000<zi:=by decide
section
theorem R6:Wp (K8 (n+1) t b σ) G P↔Wp (t σ) G λk G1=>if k=true then Wp (b σ) G1 λfl G2=>match fl with
 | .nx X1=>Wp (K8 n t b X1) G2 P
 | .ct X1=>Wp (K8 n t b X1) G2 P
 | .bk X1=>P (.nx X1) G2
 | .rt d=>P (.rt d) G2
 else P (.nx σ) G1:=by
 rw[K8];simp only[d9,b9,wp_pure];constructor
 · rintro⟨k,G1,e,q⟩;refine⟨k,G1,e,?_⟩;rcases k with _|_
   ·exact q
   ·
     simp only[if_true]at q ⊢;obtain⟨fl,G2,e2,q⟩:=q;refine⟨fl,G2,e2,?_⟩
     cases fl<;>first
      |exact q
      |exact wp_pure.mp q
 · rintro⟨k,G1,e,q⟩;refine⟨k,G1,e,?_⟩;rcases k with _|_
   ·exact q
   ·
     simp only[if_true]at q ⊢;obtain⟨fl,G2,e2,q⟩:=q;refine⟨fl,G2,e2,?_⟩
     cases fl<;>first
      |exact q
      |exact wp_pure.mpr q
theorem wC(h:Wp (K8 n t b σ) G P):Wp (W0 t b σ) G P:=by obtain⟨a,G',e,q⟩:=h;refine⟨a,G',?_,q⟩;have hx:∃n,(K8 n t b σ G).isSome=true:=⟨n,by rw[e];rfl⟩;unfold W0;rw[dif_pos hx];have hs:=Classical.choose_spec hx;obtain⟨r,hr⟩:=JL.mp hs;rw[hr];have e1:=rP (Nat.le_max_left n (Xn hx)) e;have e2:=rP (Nat.le_max_right n (Xn hx)) hr;rw[e1]at e2;exact e2.symm
end
theorem BK(e:G[p]? =some (.lst xs)):Wp (X3 (.ref p)) G B↔B (!xs.isEmpty) G:=by unfold X3;simp only[d9,M5,e,Q0,wp_pure]
theorem lt_of_get{G:DH}(e:G[p]? =some o):p<G.length:=by
 by_cases hi:p<G.length
 ·exact hi
 ·rw[zZ (by lia)]at e;exact u6 e
section
variable{bd n:Nat}
end
theorem vw(l:List D)(n:Nat):DL.cutD l none (some (n:Int))=l.take n:=by
 unfold DL.cutD;rw[HT.sIx_none,HT.sIx_nat,List.drop_zero,Nat.sub_zero];by_cases h:n<=l.length
 ·rw[Nat.min_eq_left h]
 ·rw[Nat.min_eq_right (by lia),yP (zh _),yP (by lia)]
theorem Rx(l:List D)(n:Nat):DL.cutD l (some (n:Int)) none=l.drop n:=by
 unfold DL.cutD;rw[HT.sIx_none,HT.sIx_nat];by_cases h:n<=l.length
 ·rw[Nat.min_eq_left h,yP (by rw[xp];lia)]
 ·rw[Nat.min_eq_right (by lia),YA (zh _),YA (by lia)];simp
section
variable{G:DH}{Q:DPP}
theorem OQ{i:Int}:Wp (FB [.int i]) G Q↔Q (.int (if i<0 then -i else i)) G:=wp_pure
end
section
variable{α β:Type}{R S:α->β->Prop}
end
abbrev tl(z:Str):List Nat:=z.cps.toList
abbrev ofL(l:List Nat):Str:=⟨l.toArray⟩
theorem aA(z:Str):(tl z).length=z.length:=rfl
theorem qm(l:List Nat):tl (ofL l)=l:=rfl
theorem bH{a b:Str}(h:tl a=tl b):a=b:=by obtain⟨⟨a⟩⟩:=a;obtain⟨⟨b⟩⟩:=b;have h:a=b:=h;rw[h]
theorem LQ(a b:List Nat):ofL a++ofL b=ofL (a++b):=bH (show tl (ofL a++ofL b)=a++b from Zt)
theorem pG{z p:Str}{pre rest:List Nat}(h:tl z=pre++rest):Z7 z p (pre.length:Int)=decide (tl p <+:rest):=by
 have hl:z.length=pre.length+rest.length:=by rw[<-aA,h,zd]
 have fi:fromIndex z.length (pre.length:Int)=pre.length:=by unfold fromIndex;rw[if_neg (by lia)];lia
 have e:YT z p pre.length=decide (tl p=rest.take p.length):=by rw[Bool.eq_iff_iff,decide_eq_true_iff];unfold YT;rw[beq_iff_eq,<-xo,Array.toList_extract,List.extract_eq_drop_take];show List.take (pre.length+p.length-pre.length) (List.drop pre.length (tl z))=tl p↔_;rw[h,List.drop_left,Nat.add_sub_cancel_left];exact eq_comm
 unfold Z7;rw[fi,e,Bool.eq_iff_iff,Bool.and_eq_true_iff,decide_eq_true_iff,decide_eq_true_iff,decide_eq_true_iff,List.prefix_iff_eq_take];refine⟨λk=>k.2,λk=>⟨?_,k⟩⟩;have:=congrArg xv k;rw[jW]at this;have q:(tl p).length=p.length:=rfl;lia
theorem J6{z p:Str}{pre rest r:List Nat}(h:tl z=pre++rest)(k:rest=tl p++r):Z7 z p (pre.length:Int)=true:=by rw[pG h,decide_eq_true_iff,k];exact List.prefix_append ..
def hdN(c:Nat)(rest:List Nat):Prop:=∀d r,rest=d::r->d≠c
theorem dA{z p:Str}{pre rest:List Nat}{c:Nat}{ps:List Nat}(h:tl z=pre++rest)(hp:tl p=c::ps)(k:hdN c rest):Z7 z p (pre.length:Int)=false:=by rw[pG h,decide_eq_false_iff_not,hp];rintro⟨t,e⟩;exact k c (ps++t) e.symm rfl
theorem FJ{f g:Nat->Option Nat}:∀ {l:List Nat},(∀k∈l,f k=g k)->l.filterMap f=l.filterMap g
 |[],_=>rfl
 |a::r,h=>by rw[jF,jF,h a (zv ..),FJ λk hk=>h k (zl _ hk)]
theorem vm(l:List Nat):(zE l.length).filterMap (λk=>l[k]?)=l:=by
 have e:(zE l.length).filterMap (λk=>l[k]?)= (zE l.length).map λk=>l.getD k 0:=by rw[<-List.filterMap_eq_map];refine FJ λk hk=>?_;have:=jn.mp hk;simp[this]
 rw[e];apply yr
 ·simp
 ·intro i hi hj;simp[hj]
theorem Cj(a b n:Nat)(h:a+b<=n):Xr (some (a:Int)) (some ((a:Int)+b)) 1 n= (zE b).map λk=>a+k:=by
 unfold Xr sliceRange;have e1:max 0 (min (a:Int) n)=a:=by lia
 have e2:max 0 (min ((a:Int)+b) n)= (a:Int)+b:=by lia
 simp only[show (1:Int)>0 by decide,if_true,show ¬(a:Int)<0 by lia,show ¬(a:Int)+b<0 by lia,if_false,e1,e2];have e3:(if (a:Int)<(a:Int)+b then ((a:Int)+b-a+1-1) / 1 else 0).toNat=b:=by split<;>lia
 rw[e3];refine ym λk _=>?_;lia
theorem cQ{z:Str}{a b c:List Nat}(h:tl z=a++b++c):ZH z (some (a.length:Int)) (some ((a.length:Int)+b.length))=ofL b:=by
 have hl:z.length=a.length+b.length+c.length:=by rw[<-aA,h,zd,zd]
 unfold ZH;rw[Cj _ _ _ (by lia)];split
 ·rename_i k;rw[Bool.and_eq_true_iff,beq_iff_eq,beq_iff_eq,zf,jZ]at k;have ha:a= []:=Jn (by lia);have hc:c= []:=Jn (by lia);subst ha hc;exact bH (by rw[h];simp)
 ·refine bH ?_;show YY (λi=>z.cps[i]?) (ZK (λk=>a.length+k) (zE b.length))=b;rw[yo];refine Eq.trans (FJ λk hk=>?_) (vm b);have hk:=jn.mp hk;show z.cps[a.length+k]? =b[k]?;rw[<-zK];show (tl z)[a.length+k]? =b[k]?;rw[h,zJ,yB (by lia),Nat.add_sub_cancel_left,zB hk]
theorem oF{a c:Nat}{G:DH}{Q:DPP}:Wp (leD (.str ⟨#[a]⟩) (.str ⟨#[c]⟩)) G Q↔Q (.bl (decide (a<=c))) G:=by
 rw[Mc];have:(!decide ((⟨#[c]⟩:Str).cps.toList<(⟨#[a]⟩:Str).cps.toList))=decide (a<=c):=by
  show (!decide ([c] < [a]))=_;by_cases h:a<=c
  · have:¬c<a:=by lia
    simp[h,List.cons_lt_cons_iff,this]
  · have:c<a:=by lia
    simp[h,List.cons_lt_cons_iff,this]
 rw[this]
def dg(m:Nat):List Nat:=(XS 10 m).map Char.toNat
theorem wA(m:Nat):NumText.AllDigits (dg m):=by intro c hc;obtain⟨ch,hch,e⟩:=zM.mp hc;rw[<-e];exact digit_range (Nat.isDigit_of_mem_toDigits (by decide) (by decide) hch)
theorem PM{m:Nat}(h:¬m<10):dg m=dg (m / 10)++dg (m % 10):=by have hm:m % 10<10:=yX m (by decide);have t:XS 10 (m / 10)++XS 10 (m % 10)=XS 10 (10*(m / 10)+m % 10):=Nat.toDigits_append_toDigits (by decide) (by lia) hm;rw[Nat.div_add_mod]at t;unfold dg;rw[<-t,zY]
theorem MC{m:Nat}(h:m<10):dg m= [48+m]:=by
 unfold dg;rw[Nat.toDigits_of_lt_base h];have:∀d,d<10->(Nat.digitChar d).toNat=48+d:=by decide
 show [(Nat.digitChar m).toNat]=_;rw[this m h]
theorem HD:∀(k m:Nat),m<10 ^ (k+1)->(dg m).length<=k+1
 |0,m,h=>by rw[MC (by lia)];simp
 |k+1,m,h=>by
   by_cases h':m<10
   ·rw[MC h'];simp
   ·rw[PM h',zd,MC (yX m (by decide))];have:=HD k (m / 10) (by rw[Nat.pow_succ]at h;lia);simp;lia
theorem oJ(m:Nat)(h:0<m):∃c r,dg m=c::r/\49<=c:=by
 induction m using Nat.strongRecOn with
 |_ m ih=>
   by_cases h':m<10
   ·exact⟨48+m, [],MC h',by lia⟩
   ·obtain⟨c,r,e,k⟩:=ih (m / 10) (by lia) (by lia);exact⟨c,r++dg (m % 10),by rw[PM h',e];rfl,k⟩
theorem E9(m:Nat):dg m≠ []:=by
 rcases ZU m with rfl|h
 ·rw[MC (by decide)];exact Yo _ _
 ·obtain⟨c,r,e,_⟩:=oJ m h;rw[e];exact Yo _ _
def nmL(i:Int):List Nat:=tl (jh (toString i))
theorem VD(m:Nat):nmL (m:Int)=dg m:=PySem.W.KIN.signs_num m
theorem KD(m:Nat)(h:0<m):nmL (-(m:Int))=45::dg m:=by obtain⟨k,rfl⟩:∃k,m=k+1:=⟨m-1,by lia⟩;unfold nmL tl;rw[signs_ofString];show (("-" ++ Nat.repr (k+1):String)).toList.map Char.toNat=_;rw[String.toList_append,zY,Nat.toList_repr];rfl
def HC:Nat:=9999999999999999999999999999999999999999
def smI(i:Int):Prop:=i.natAbs<=HC
theorem UD(i:Int):(∃m:Nat,i=m)\/∃m:Nat,0<m/\i= -(m:Int):=by
 rcases Int.lt_or_le i 0 with h|h
 ·exact .inr ⟨i.natAbs,by lia,by lia⟩
 ·exact .inl ⟨i.natAbs,by lia⟩
theorem B4{i:Int}(h:smI i):(nmL i).length<=41:=by
 unfold smI HC at h;rcases UD i with⟨m,rfl⟩|⟨m,hm,rfl⟩
 ·rw[VD];have:=HD 39 m (by show m<10000000000000000000000000000000000000000;lia);lia
 ·rw[KD m hm,zu];have:=HD 39 m (by show m<10000000000000000000000000000000000000000;lia);lia
theorem NS{m:Nat}(h:smI (m:Int)):(dg m).length<=40:=HD 39 m (by unfold smI HC at h;show m<10000000000000000000000000000000000000000;lia)
theorem Qh{m:Nat}(h:smI (-(m:Int))):(dg m).length<=40:=HD 39 m (by unfold smI HC at h;show m<10000000000000000000000000000000000000000;lia)
theorem Wv{i:Int}(h:smI i):intText? (ofL (nmL i))=some i:=by
 have hl:=B4 h;have hl':(ofL (nmL i)).length<=4300:=by rw[<-aA,qm];lia
 rcases UD i with⟨m,rfl⟩|⟨m,hm,rfl⟩
 ·rw[VD]at hl' ⊢;have e:=PySem.intText_digits (x:=ofL (dg m)) (wA m) (E9 m) hl';rw[e];show some ((Xk (dg m):Nat):Int)=_;rw[show Xk (dg m)=m from JD m]
 ·rw[KD m hm]at hl' ⊢;have e:=PySem.intText_neg (x:=ofL (45::dg m)) (cs:=dg m) rfl (wA m) (E9 m) hl';rw[e,show Xk (dg m)=m from JD m]
def glL(s:List Nat):List (List Nat)->List Nat
 |[]=> []
 |p::r=>s++p++glL s r
def u4(s:List Nat):List (List Nat)->List Nat
 |[]=> []
 |a::r=>a++glL s r
theorem UW(sep:Str)(ss:List Str):tl (XQ sep ss)=u4 (tl sep) (ss.map tl):=by
 have go:∀(r:List Str) (rz:Array Nat),(r.foldl (λrz p=>rz++sep.cps++p.cps) rz).toList=rz.toList++glL (tl sep) (r.map tl):=λr=>by
  induction r with
  |nil=>intro rz;simp[glL]
  |cons p r ih=>
    intro rz;rw[xB,ih,Zt,Zt,zH,glL,zJ,zJ,zJ]
 rcases ss with _|⟨a,r⟩
 ·rfl
 ·exact go r a.cps
theorem bn{i:Int}(h:smI i):i.natAbs.log2<1920:=by
 unfold smI HC at h;rcases ZU i.natAbs with z|z
 ·rw[z];decide
 ·exact jc ((Nat.log2_lt (by lia)).mpr (show i.natAbs<2 ^ 140 by lia)) (by decide)
theorem sB{i:Int}{G:DH}{Q:DPP}(h:smI i)(q:Q (.str (ofL (nmL i))) G):Wp (L7 [.int i]) G Q:=by have e:L7 [.int i]= (if i.natAbs.log2<1920 then pure (.str (jh (toString i)))else M.stuck:M D):=rfl;rw[e,if_pos (bn h)];exact wp_pure.mpr q
abbrev Rg:=Option Int×Option Int
def inR(p:Rg)(x:Int):Prop:=(∀a,p.1=some a->a<=x)/\∀b,p.2=some b->x<=b
def inS(l:List Rg)(x:Int):Prop:=∃p∈l,inR p x
def okR(p:Rg):Prop:=∀a b,p.1=some a->p.2=some b->a<=b
def d5(p q:Rg):Prop:=∃a b,p.2=some a/\q.1=some b/\a+1<b
def Can(l:List Rg):Prop:=(∀p∈l,okR p)/\l.Pairwise d5
theorem J3{p:Rg}{l:List Rg}{x:Int}:inS (p::l) x↔inR p x\/inS l x:=by
 unfold inS;constructor
 · rintro⟨q,hq,h⟩;rcases zr.mp hq with rfl|hq
   ·exact .inl h
   ·exact .inr ⟨q,hq,h⟩
 · rintro(h|⟨q,hq,h⟩)
   ·exact⟨p,zv ..,h⟩
   ·exact⟨q,zl _ hq,h⟩
theorem X7{x:Int}:¬inS [] x:=fun⟨_,h,_⟩=>nomatch h
theorem Can.tail{p:Rg}{l:List Rg}(h:Can (p::l)):Can l:=⟨λq hq=>h.1 q (zl _ hq),(yH.mp h.2).2⟩
theorem Can.head{p:Rg}{l:List Rg}(h:Can (p::l)):okR p:=h.1 p (zv ..)
theorem Can.beyond{p:Rg}{l:List Rg}(h:Can (p::l)){x:Int}(hx:inS l x):∃a,p.2=some a/\a+1<x:=by obtain⟨q,hq,h1,h2⟩:=hx;obtain⟨a,b,e1,e2,k⟩:=(yH.mp h.2).1 q hq;exact⟨a,e1,by have:=h1 b e2;lia⟩
theorem Can.low{p:Rg}{l:List Rg}(h:Can (p::l)){a x:Int}(e:p.1=some a)(hx:inS (p::l) x):a<=x:=by
 rcases J3.mp hx with k|k
 ·exact k.1 a e
 ·obtain⟨b,e2,k⟩:=h.beyond k;have:=h.head a b e e2;lia
theorem Can.deep{p:Rg}{l:List Rg}(e:p.1=none)(a:Int):∃x,x<a/\inS (p::l) x:=by
 rcases e2:p.2 with _|b
 ·exact⟨a-1,by lia,J3.mpr (.inl ⟨λc hc=>(by rw[e]at hc;cases hc),λc hc=>(by rw[e2]at hc;cases hc)⟩)⟩
 ·exact⟨min (a-1) b,by lia,J3.mpr (.inl ⟨λc hc=>(by rw[e]at hc;cases hc),λc hc=>(by rw[e2]at hc;cases hc;lia)⟩)⟩
theorem okR.some{p:Rg}(h:okR p):∃x,inR p x:=by
 obtain⟨a,b⟩:=p;rcases a with _|a<;>rcases b with _|b
 ·exact⟨0,λc hc=>(nomatch hc),λc hc=>(nomatch hc)⟩
 ·exact⟨b,λc hc=>(nomatch hc),λc hc=>by cases hc;exact Ye _⟩
 ·exact⟨a,λc hc=>(by cases hc;exact Ye _),λc hc=>nomatch hc⟩
 ·exact⟨a,λc hc=>(by cases hc;exact Ye _),λc hc=>by cases hc;exact h a b rfl rfl⟩
theorem pN{p q:Rg}{l m:List Rg}(hp:Can (p::l))(hq:Can (q::m))(h:∀x,inS (p::l) x↔inS (q::m) x):p.1=q.1:=by
 have one:∀ {p q:Rg} {l m:List Rg} {a:Int},Can (p::l)->Can (q::m)->(∀x,inS (p::l) x↔inS (q::m) x)->p.1=some a->∃b,q.1=some b/\b<=a:=by
  intro p q l m a hp hq h e;have ha:inS (p::l) a:=J3.mpr (.inl ⟨λc hc=>(by rw[e]at hc;cases hc;exact Ye _),λb hb=>hp.head a b e hb⟩);rcases e2:q.1 with _|b
  ·obtain⟨x,hx,k⟩:=Can.deep (p:=q) (l:=m) e2 a;have:=hp.low e ((h x).mpr k);lia
  ·exact⟨b,rfl,hq.low e2 ((h a).mp ha)⟩
 rcases e1:p.1 with _|a
 · rcases e2:q.1 with _|b
   ·rfl
   ·obtain⟨a,e3,_⟩:=one hq hp (λx=>(h x).symm) e2;rw[e1]at e3;cases e3
 ·obtain⟨b,e2,k1⟩:=one hp hq h e1;obtain⟨a',e3,k2⟩:=one hq hp (λx=>(h x).symm) e2;rw[e1]at e3;cases e3;rw[e2,JF k1 k2]
theorem gW{p q:Rg}{l m:List Rg}(hp:Can (p::l))(hq:Can (q::m))(h:∀x,inS (p::l) x↔inS (q::m) x):p.2=q.2:=by
 have lo:=pN hp hq h;have one:∀ {p q:Rg} {l m:List Rg} {a:Int},Can (p::l)->Can (q::m)->(∀x,inS (p::l) x↔inS (q::m) x)->p.1=q.1->p.2=some a->∃b,q.2=some b/\b<=a:=by
  intro p q l m a hp hq h lo e;have hn:¬inS (q::m) (a+1):=λk=>by
   rcases J3.mp ((h (a+1)).mpr k)with k|k
   ·have:=k.2 a e;lia
   ·obtain⟨b,e2,k⟩:=hp.beyond k;rw[e]at e2;cases e2;lia
  have hlo:∀c,q.1=some c->c<=a:=λc hc=>hp.head c a (lo.trans hc) e;rcases e2:q.2 with _|b
  ·exact absurd (J3.mpr (.inl ⟨λc hc=>(by have:=hlo c hc;lia),λc hc=>by rw[e2]at hc;cases hc⟩)) hn
  · refine⟨b,rfl,?_⟩;rcases Int.lt_or_le a b with k|k
    ·exact absurd (J3.mpr (.inl ⟨λc hc=>(by have:=hlo c hc;lia),λc hc=>by rw[e2]at hc;cases hc;lia⟩)) hn
    ·exact k
 rcases e1:p.2 with _|a
 · rcases e2:q.2 with _|b
   ·rfl
   ·obtain⟨a,e3,_⟩:=one hq hp (λx=>(h x).symm) lo.symm e2;rw[e1]at e3;cases e3
 ·obtain⟨b,e2,k1⟩:=one hp hq h lo e1;obtain⟨a',e3,k2⟩:=one hq hp (λx=>(h x).symm) lo.symm e2;rw[e1]at e3;cases e3;rw[e2,JF k1 k2]
theorem gP:∀ {l m:List Rg},Can l->Can m->(∀x,inS l x↔inS m x)->l=m
 |[], [],_,_,_=>rfl
 |[],q::m,_,hm,h=>by obtain⟨x,hx⟩:=hm.head.some;exact absurd ((h x).mpr (J3.mpr (.inl hx))) X7
 |p::l, [],hl,_,h=>by obtain⟨x,hx⟩:=hl.head.some;exact absurd ((h x).mp (J3.mpr (.inl hx))) X7
 |p::l,q::m,hl,hm,h=>by
   have e:p=q:=Prod.ext (pN hl hm h) (gW hl hm h);subst e;rw[gP hl.tail hm.tail λx=>?_];have out:∀ {l:List Rg},Can (p::l)->inS l x->¬inR p x:=λhl k r=>by obtain⟨a,e,k⟩:=hl.beyond k;have:=r.2 a e;lia
   constructor
   · intro k;rcases J3.mp ((h x).mp (J3.mpr (.inr k)))with r|r
     ·exact absurd r (out hl k)
     ·exact r
   · intro k;rcases J3.mp ((h x).mpr (J3.mpr (.inr k)))with r|r
     ·exact absurd r (out hm k)
     ·exact r
theorem DF{l m:List Rg}{x:Int}:inS (l++m) x↔inS l x\/inS m x:=by
 unfold inS;constructor
 ·rintro⟨p,hp,h⟩;exact(zR.mp hp).elim (λk=>.inl ⟨p,k,h⟩) λk=>.inr ⟨p,k,h⟩
 · rintro(⟨p,hp,h⟩|⟨p,hp,h⟩)
   ·exact⟨p,yf _ hp,h⟩
   ·exact⟨p,zN _ hp,h⟩
theorem Can.snoc{l:List Rg}{r:Rg}(h:Can l)(ok:okR r)(c:∀p∈l,d5 p r):Can (l++[r]):=
 ⟨λp hp=>(zR.mp hp).elim (h.1 p) λk=>by rw[zm.mp k];exact ok,
  xN.mpr ⟨h.2,Ym ..,λp hp q hq=>by rw[zm.mp hq];exact c p hp⟩⟩
def kle:Option Int->Option Int->Prop
 |none,_=>True
 |some _,none=>False
 |some a,some b=>a<=b
theorem om{a:Int}{b:Option Int}(h:kle (some a) b):∃c,b=some c/\a<=c:=match b,h with
 |some c,h=>⟨c,rfl,h⟩
def D9:Option Int->Option Int->Option Int
 |some a,some b=>some (max a b)
 |_,_=>none
theorem QQ{a b:Option Int}{c:Int}(h:D9 a b=some c):∃x y,a=some x/\b=some y/\x<=c/\y<=c:=match a,b,h with
 |some x,some y,h=>⟨x,y,rfl,rfl,by cases h;lia,by cases h;lia⟩
theorem Pc{e p:Rg}(k:kle e.1 p.1)(n:¬d5 e p){x:Int}:inR (e.1,D9 e.2 p.2) x↔inR e x\/inR p x:=by
 constructor
 · rintro⟨lo,hi⟩;by_cases hx:inR e x
   ·exact .inl hx
   ·refine .inr ?_;obtain⟨c,ec,hc⟩:∃c,e.2=some c/\c<x:=jr λz=>hx ⟨lo,λb eb=>Int.not_lt.mp λy=>z ⟨b,eb,y⟩⟩;refine⟨λd ed=>Int.not_lt.mp λy=>n ⟨c,d,ec,ed,by lia⟩,λb eb=>?_⟩;have:=hi (max c b) (by show D9 e.2 p.2=_;rw[ec,eb];rfl);lia
 · have hf:∀b,D9 e.2 p.2=some b->∃c d,e.2=some c/\p.2=some d/\c<=b/\d<=b:=λb=>QQ;rintro(h|h)
   ·refine⟨h.1,λb eb=>?_⟩;obtain⟨c,d,e1,e2,k1,k2⟩:=hf b eb;exact YJ (h.2 c e1) k1
   · refine⟨λa ea=>?_,λb eb=>?_⟩
     ·rw[show e.1=some a from ea]at k;obtain⟨c,ec,hc⟩:=om k;exact YJ hc (h.1 c ec)
     ·obtain⟨c,d,e1,e2,k1,k2⟩:=hf b eb;exact YJ (h.2 d e2) k2
structure Mg(ds rz rest:List Rg):Prop where
 can:Can rz
 ok:∀p∈rest,okR p
 ord:rest.Pairwise λp q=>kle p.1 q.1
 le:∀e∈rz,∀p∈rest,kle e.1 p.1
 same:∀x,inS ds x↔inS rz x\/inS rest x
 len:rz.length+rest.length<=ds.length
theorem Mg.start{ds l:List Rg}(h:∀p∈ds,okR p)(pm:l.Perm ds)(o:l.Pairwise λp q=>kle p.1 q.1):Mg ds [] l:=
 ⟨⟨λ_ h=>(nomatch h),.nil⟩,λp hp=>h p (pm.mem_iff.mp hp),o,λ_ h=>(nomatch h),λx=>⟨fun⟨p,hp,k⟩=>.inr ⟨p,pm.mem_iff.mpr hp,k⟩,λz=>z.elim (λz=>absurd z X7) fun⟨p,hp,k⟩=>⟨p,pm.mem_iff.mp hp,k⟩⟩,by rw[pm.length_eq];simp⟩
theorem Mg.new{ds rz rest:List Rg}{p:Rg}(h:Mg ds rz (p::rest))(c:∀t e,rz=t++[e]->d5 e p):Mg ds (rz++[p]) rest:=by
 have o:=yH.mp h.ord;refine⟨h.can.snoc (h.ok p (zv ..)) λr hr=>?_,λq hq=>h.ok q (zl _ hq),o.2,λe he q hq=>?_,λx=>?_,?_⟩
 · have sf:rz≠ []:=List.ne_nil_of_mem hr;obtain⟨t,e,rfl⟩:∃(t:List Rg) (e:Rg),rz=t++[e]:=⟨_,_,(xC sf).symm⟩;have ce:=c t e rfl;rcases zR.mp hr with k|k
   ·obtain⟨a,b,e1,e2,k1⟩:=(xN.mp h.can.2).2.2 r k e (zm.mpr rfl);obtain⟨a',b',e3,e4,k2⟩:=ce;have:=h.can.1 e (zN _ (zm.mpr rfl)) b a' e2 e3;exact⟨a,b',e1,e4,by lia⟩
   ·rw[zm.mp k];exact ce
 · rcases zR.mp he with k|k
   ·exact h.le e k q (zl _ hq)
   ·rw[zm.mp k];exact o.1 q hq
 ·rw[h.same x,DF,J3 (p:=p) (l:=rest),J3 (p:=p) (l:= [])];have n0:¬inS [] x:=X7;exact⟨λz=>z.elim (λz=>.inl (.inl z)) λz=>z.elim (λz=>.inl (.inr (.inl z))) .inr,λz=>z.elim (λz=>z.elim .inl λz=>z.elim (λz=>.inr (.inl z)) λz=>absurd z n0) λz=>.inr (.inr z)⟩
 ·have:=h.len;simp only[zu,zd,yM]at this ⊢;lia
theorem Mg.join{ds t rest:List Rg}{e p:Rg}(h:Mg ds (t++[e]) (p::rest))(n:¬d5 e p):Mg ds (t++[(e.1,D9 e.2 p.2)]) rest:=by
 have o:=yH.mp h.ord;have he:=zN t (zm.mpr (rfl:e=e));have pw:=xN.mp h.can.2;refine⟨Can.snoc ⟨λq hq=>h.can.1 q (yf _ hq),pw.1⟩ (λa b ea eb=>?_) λr hr=>pw.2.2 r hr e (zm.mpr rfl),λq hq=>h.ok q (zl _ hq),o.2,λq hq r hr=>?_,λx=>?_,?_⟩
 ·obtain⟨c,d,e1,e2,k1,k2⟩:=QQ eb;exact YJ (h.can.1 e he a c ea e1) k1
 · rcases zR.mp hq with k|k
   ·exact h.le q (yf _ k) r (zl _ hr)
   ·rw[zm.mp k];exact h.le e he r (zl _ hr)
 · rw[h.same x,DF,DF,J3 (p:=p) (l:=rest),J3 (p:=e) (l:= []),J3 (p:=(e.1,D9 e.2 p.2)) (l:= []),Pc (h.le e he p (zv ..)) n];have n0:¬inS [] x:=X7;exact⟨λz=>z.elim (λz=>z.elim (λz=>.inl (.inl z)) λz=>z.elim (λz=>.inl (.inr (.inl (.inl z)))) λz=>absurd z n0) λz=>z.elim (λz=>.inl (.inr (.inl (.inr z)))) .inr,
    λz=>z.elim (λz=>z.elim (λz=>.inl (.inl z)) λz=>z.elim (λz=>z.elim (λz=>.inl (.inr (.inl z))) λz=>.inr (.inl z)) λz=>absurd z n0) λz=>.inr (.inr z)⟩
 ·have:=h.len;simp only[zu,zd,yM]at this ⊢;lia
theorem Gr.ap{G G':DH}(h:Gr G G'):Ap G G':=by
 refine⟨G'.drop G.length,?_⟩;refine XM λi=>?_;rcases Zj i G.length with c|c
 ·rw[zB c];exact h.2 i c
 ·rw[yB c,Xt];congr 1;lia
theorem nz{i j:Int}{G:DH}{Q:DPP}:Wp (gtD (.int i) (.int j)) G Q↔Q (.bl (decide (i>j))) G:=wp_pure
theorem eK{G:DH}{p q:Nat}{xs:List D}{Q:DPP}(e:G[p]? =some (.lst xs))(eq:G[q]? =some (.lst [])):Wp (neD (.ref p) (.ref q)) G Q↔Q (.bl (!xs.isEmpty)) G:=by
 have h:eqN 40 G (.ref p) (.ref q)=some xs.isEmpty:=by
  have h1:O0 G (.ref p)=some (false,xs):=by simp only[O0,e]
  have h2:O0 G (.ref q)=some (false, []):=by simp only[O0,eq]
  rw[fE];rw[h1,h2];rcases xs with _|⟨_,_⟩
  ·rfl
  ·rfl
 exact vA (show neD (.ref p) (.ref q) G=_ from by unfold neD;rw[h])
theorem oQ{r:Nat}{l:List D}{k:Int}{j:Nat}{a b:Fe}{σ:DSt}{d:D}{G:DH}{S:DSt->DH->Prop}(ha:a σ G=some (.ok (.ref r),G))(hb:b σ G=some (.ok (.int k),G))(e:G[r]? =some (.lst l))(hj:ixN l.length k=some j)(q:S σ (G.set r (.lst (l.set j d)))):Wp (pB a b d σ) G S:=wx.mpr (b8 ha (b8 hb ((TW e hj).mpr q)))
theorem TQ{G:DH}{p:Nat}{l:List D}{lo hi:Option Int}{Q:DPP}(e:G[p]? =some (.lst l)):Wp (slT (.ref p) lo hi) G Q↔Q (.ref G.length) (G++[.lst (DL.cutD l lo hi)]):=Kw e
section
variable{a b:Fe}{t:DSt->M Bool}{f g:Fs}{σ:DSt}{G G1:DH}{Q:DPP}{P:Fl->DH->Prop}{B:Bool->DH->Prop}
theorem MH(e:a σ G=some (.ok (.bl true),G1))(w:Wp (b σ) G1 Q):Wp (C4 a b σ) G Q:=US.mpr (b8 e (O9.mpr (by rw[if_pos rfl];exact w)))
theorem aj(w:Wp (t σ) G λk G1=>k=true/\Wp (g σ) G1 P):Wp (ifS (F4 t) f g σ) G P:=M8 (X4.mpr (w.mono λk G1 q=>by obtain⟨rfl,q⟩:=q;exact⟨λz=>(by exact EF z),λ_=>q⟩))
theorem C9(w:Wp (a σ) G λx G1=>x= .bl true/\B true G1):Wp (truthE a σ) G B:=R1.mpr (w.mono λx G1 q=>by obtain⟨rfl,q⟩:=q;exact O9.mpr q)
end
def rD(p:Rg):D:=.tup [S9 p.1,S9 p.2]
def rsD(l:List Rg):List D:=l.map rD
theorem HA(l:List Rg):(rsD l).length=l.length:=zf ..
theorem rH(l:List Rg)(p:Rg):rsD (l++[p])=rsD l++[rD p]:=zY ..
section
variable{a b:Fe}{t:DSt->M Bool}{f g:Fs}{σ:DSt}{G G1:DH}{Q:DPP}{P:Fl->DH->Prop}{B:Bool->DH->Prop}
theorem tE(w:Wp (a σ) G λx G1=>x= .bl false/\B false G1):Wp (truthE a σ) G B:=R1.mpr (w.mono λx G1 q=>by obtain⟨rfl,q⟩:=q;exact O9.mpr q)
end
theorem iy:iH=j5 (v7 g0 t3) (j5 (W0 RT RB) (o9 K0)):=rfl
section
variable{T:Str}{G:DH}{Q:DPP}
theorem lI{pre rest:List Nat}{c:Nat}(h:tl T=pre++c::rest)(hz:T.length<=zi)(q:Q (.str ⟨#[c]⟩) G):Wp (ixD (.str T) (.int (pre.length:Int))) G Q:=by
 have e:ixD (.str T) (.int (pre.length:Int))=if T.length<=zi then (do
  let c <-U1 (atI T.cps.toList (pre.length:Int))
  pure (.str ⟨#[c]⟩):M D)else M.stuck:=rfl
 rw[e,if_pos hz];refine d9.mpr<| n9.mpr ⟨c,?_,wp_pure.mpr q⟩;have hl:(tl T).length=pre.length+(c::rest).length:=by rw[h,zd]
 show atI (tl T) (pre.length:Int)=some c;unfold atI ixN;simp only[zu]at hl;rw[if_pos (by lia),if_pos (by lia)];simp only[ya,Option.bind_some,h];rw[yB (zh _),Nat.sub_self];rfl
def KB(lo hi:Nat)(rest:List Nat):Prop:=∀c r,rest=c::r->¬(lo<=c/\c<=hi)
theorem eQ{lo hi:Nat}{a1:Option D}(hz:T.length<=zi):∀(run pre rest:List Nat) (n:Nat),run.length<=n->tl T=pre++run++rest->(∀c∈run,lo<=c/\c<=hi)->KB lo hi rest->
 Wp (K8 (n+1) RT RB [some (.str T),a1,some (.str ⟨#[lo]⟩),some (.str ⟨#[hi]⟩),some (.int (pre.length:Int))]) G λfl G'=>G'=G/\fl= .nx [some (.str T),a1,some (.str ⟨#[lo]⟩),some (.str ⟨#[hi]⟩),some (.int ((pre.length:Int)+run.length))]
 |[],pre,rest,n,hn,h,hr,ho=>by
   rw[jH]at h;have hl:T.length=pre.length+rest.length:=by rw[<-aA,h,zd]
   refine R6.mpr ?_;refine(show Wp (RT _) G λk G1=>k=false/\G1=G from ?_).mono ?_
   · refine B5<| v6<| j4<| b8 (a:=.int (pre.length:Int)) (G':=G) rfl<| W6 (as:= [.str T]) rfl<| (NC hz).mpr<| lt_int.mpr ⟨_,rfl,λk=>?_,λk=>⟨rfl,rfl⟩⟩;have k:=of_decide_eq_true k;rcases rest with _|⟨c,r⟩
     ·simp at hl;lia
     · have nc:=ho c r rfl;refine v6<| VN.mpr<| b8 (a:=.str ⟨#[lo]⟩) (G':=G) rfl<| j4<| b8 (a:=.str T) (G':=G) rfl<| b8 (a:=.int (pre.length:Int)) (G':=G) rfl<| lI h hz<| oF.mpr ⟨_,rfl,?_⟩;by_cases h1:lo<=c
       ·rw[decide_eq_true h1,if_pos rfl];refine b8 (a:=.str ⟨#[hi]⟩) (G':=G) rfl<| oF.mpr ⟨_,rfl,?_,rfl⟩;exact decide_eq_false λh2=>nc ⟨h1,h2⟩
       ·rw[decide_eq_false h1,if_neg zz];exact⟨_,rfl,rfl,rfl⟩
   ·rintro _ _ ⟨rfl,rfl⟩;rw[if_neg zz];exact⟨rfl,by simp⟩
 |c::r,pre,rest,n,hn,h,hr,ho=>by
   obtain⟨m,rfl⟩:∃m,n=m+1:=⟨n-1,by simp at hn;lia⟩;have hc:=hr c (zv ..);have h':tl T=pre++c::(r++rest):=by rw[h,zJ];rfl
   have hl:T.length=pre.length+(c::(r++rest)).length:=by rw[<-aA,h',zd]
   refine R6.mpr ?_;refine(show Wp (RT _) G λk G1=>k=true/\G1=G from ?_).mono ?_
   · refine B5<| v6<| j4<| b8 (a:=.int (pre.length:Int)) (G':=G) rfl<| W6 (as:= [.str T]) rfl<| (NC hz).mpr<| lt_int.mpr ⟨_,rfl,λ_=>?_,λk=>?_⟩
     ·refine v6<| VN.mpr<| b8 (a:=.str ⟨#[lo]⟩) (G':=G) rfl<| j4<| b8 (a:=.str T) (G':=G) rfl<| b8 (a:=.int (pre.length:Int)) (G':=G) rfl<| lI h' hz<| oF.mpr ⟨_,rfl,?_⟩;rw[decide_eq_true hc.1,if_pos rfl];exact b8 (a:=.str ⟨#[hi]⟩) (G':=G) rfl<| oF.mpr ⟨_,rfl,decide_eq_true hc.2,rfl⟩
     ·have k:=of_decide_eq_false k;simp at hl;lia
   ·rintro _ G1 ⟨rfl,eG⟩;rw[if_pos rfl,eG];clear eG;refine b8 (a:=.nx [some (.str T),a1,some (.str ⟨#[lo]⟩),some (.str ⟨#[hi]⟩),some (.int ((pre.length:Int)+1))]) rfl ?_;have ih:=eQ (a1:=a1) hz r (pre++[c]) rest m (by simp at hn;lia) (by rw[h];simp) (λc hc=>hr c (zl _ hc)) ho;rw[zd]at ih;refine(show Wp (K8 (m+1) RT RB [some (.str T),a1,some (.str ⟨#[lo]⟩),some (.str ⟨#[hi]⟩),some (.int ((pre.length:Int)+1))]) G _ from ih).mono ?_;rintro _ _ ⟨rfl,rfl⟩;refine⟨rfl,?_⟩;rw[zu];congr 6;simp;lia
theorem IE{lo hi:Nat}{pre run rest:List Nat}{at':Int}(hz:T.length<=zi)(ha:at'=pre.length)(h:tl T=pre++run++rest)(hr:∀c∈run,lo<=c/\c<=hi)(ho:KB lo hi rest)(q:Q (.int ((pre.length:Int)+run.length)) G):
 Wp (AC [.str T,.int at',.str ⟨#[lo]⟩,.str ⟨#[hi]⟩]) G Q:=by
 subst ha;refine j9 (show Wp (iH [some (.str T),some (.int pre.length),some (.str ⟨#[lo]⟩),some (.str ⟨#[hi]⟩),none]) G _ from ?_);rw[iy];refine o6 (G':=G) rfl<| d8.mpr<| wC (n:=run.length+1)<| (eQ hz run pre rest _ (zh _) h hr ho).mono ?_;rintro _ _ ⟨rfl,rfl⟩;exact o4<| b8 rfl<| j8 q
theorem K1{p:Str}{i:Int}{a b c:Fe}{σ:DSt}(ha:a σ G=some (.ok (.str T),G))(hb:b σ G=some (.ok (.str p),G))(hc:c σ G=some (.ok (.int i),G))(q:Q (.bl (Z7 T p i)) G):Wp (mtE isStrM startsD a (M0 b c) σ) G Q:=
 A3.mpr<| b8 ha<| uD.mpr<| fO hb<| fO hc<| o8.mpr<| b8 (a:=.bl (Z7 T p i)) rfl q
end
section
variable{T:Str}{G:DH}{Q:DPP}
theorem pd{i:Int}(h:smI i)(q:Q (.int i) G):Wp (iA [.str (ofL (nmL i))]) G Q:=by have e:iA [.str (ofL (nmL i))]= (match intText? (ofL (nmL i)) with|some n=>if (ofL (nmL i)).length<=640 then pure (.int n)else M.stuck|none=>M.stuck:M D):=rfl;have hl:=B4 h;rw[e,Wv h];show Wp (if (ofL (nmL i)).length<=640 then pure (.int i)else M.stuck:M D) G Q;rw[if_pos (show (ofL (nmL i)).length<=640 from zS hl (by decide))];exact wp_pure.mpr q
theorem LM{i:Int}{pre post ds:List Nat}{st:Int}(hz:T.length<=zi)(hi:smI i)(h:tl T=pre++nmL i++post)(en:(pre.length:Int)+(nmL i).length=st+ds.length)(hd:ds≠ [])(h40:ds.length<=40)(h0:(Z7 T ("0" :Str) st=false)\/(nmL i).length=1)
 (q:Q (.tup [.int i,.int ((pre.length:Int)+(nmL i).length)]) G):
 Wp (j5 (ifS (orT (tBn eqD D0 y0) (tBn gtD (binE i9 D0 y0) (cIn 40))) (w5) t8) (j5 (ifS (j3 (truthE (mtE isStrM startsD c0 (M0 (cSt "0") y0))) (tBn gtD (binE i9 D0 g0) i0)) (w5) t8) (o9 (B0 (C0 iA (d6 c0 (T6 g0) (T6 D0))) D0))) [some (.str T),some (.int pre.length),some (.int st),some (.int (st+ds.length))]) G (PB Q):=by
 have hp:0<ds.length:=List.length_pos_iff.mpr hd;refine d8.mpr<| M8<| VC<| v6<| j4<| b8 (a:=.int (st+ds.length)) (G':=G) rfl<| b8 (a:=.int st) (G':=G) rfl<| u7.mpr ⟨_,rfl,λk=>?_,λ_=>v6<| j4<| j4<| b8 (a:=.int (st+ds.length)) (G':=G) rfl<| b8 (a:=.int st) (G':=G) rfl<| OD.mpr<| b8 (a:=.int 40) (G':=G) rfl<| cD.mpr ⟨_,rfl,λk=>?_,λ_=>t7.mpr ?_⟩⟩
 ·have:=of_decide_eq_true k;lia
 ·have:=of_decide_eq_true k;lia
 · have fin:Wp (o9 (B0 (C0 iA (d6 c0 (T6 g0) (T6 D0))) D0) [some (.str T),some (.int pre.length),some (.int st),some (.int (st+ds.length))]) G (PB Q):=by
    refine o4<| M9.mpr<| j7<| R9<| j7<| OE.mpr<| b8 (a:=.str T) (G':=G) rfl<| b8 (a:=some (pre.length:Int)) (G':=G) rfl<| b8 (a:=some (st+ds.length)) (G':=G) rfl<| (nR hz).mpr<| o8.mpr ?_;rw[<-en,cQ h];refine pd hi<| b8 (a:= [.int ((pre.length:Int)+(nmL i).length)]) (G':=G) (by rw[en];rfl) ⟨sz,j8 q⟩
   refine d8.mpr<| M8<| B5<| R1.mpr<| K1 (G:=G) (i:=st) (p:=("0" :Str)) rfl rfl rfl<| O9.mpr ⟨λk=>?_,λ_=>⟨λz=>(nomatch z),λ_=>t7.mpr fin⟩⟩;rcases h0 with h0|h0
   ·rw[h0]at k;cases k
   ·exact v6<| j4<| j4<| b8 (a:=.int (st+ds.length)) (G':=G) rfl<| b8 (a:=.int pre.length) (G':=G) rfl<| OD.mpr<| b8 (a:=.int 1) (G':=G) rfl<| cD.mpr ⟨_,rfl,λk=>(by have:=of_decide_eq_true k;lia),λ_=>t7.mpr fin⟩
theorem ER{i:Int}{pre post:List Nat}(hz:T.length<=zi)(hi:smI i)(h:tl T=pre++nmL i++post)(ho:KB 48 57 post)(q:Q (.tup [.int i,.int ((pre.length:Int)+(nmL i).length)]) G):Wp (W9 [.str T,.int pre.length]) G Q:=by
 have hl:=B4 hi;have hs:tl T=pre++(nmL i++post):=by rw[h,zJ]
 refine j9 (show Wp (VH [some (.str T),some (.int pre.length),none,none]) G _ from ?_);rcases UD i with⟨m,rfl⟩|⟨m,hm,rfl⟩
 · have en:=VD m;have hb:Z7 T ("-" :Str) (pre.length:Int)=false:=dA hs (c:=45) (ps:= []) rfl λc r e=>by
    rw[en]at e;rcases k:dg m with _|⟨x,y⟩
    ·exact absurd k (E9 m)
    ·rw[k]at e;have e:=(zD e).1;have:=wA m x (by rw[k];exact zv ..);lia
   refine d8.mpr<| u0<| AA.mpr<| tE<| K1 (G:=G) rfl rfl rfl ?_;rw[hb];refine⟨rfl,?_⟩;rw[if_neg zz];refine b8 (a:=.int pre.length) (G':=G) rfl<| d8.mpr<| u0<| g8 (as:= [.str T,.int pre.length,.str ⟨#[48]⟩,.str ⟨#[57]⟩]) rfl rfl<| IE hz rfl (by rw[h,en]) (wA m) ho ?_;refine LM (ds:=dg m) hz hi h (by rw[en]) (E9 m) (NS hi) ?_ q;rcases ZU m with rfl|hp
   ·exact .inr (by rw[en,MC (by decide)];rfl)
   · refine .inl<| dA hs (c:=48) (ps:= []) rfl λc r e=>?_;obtain⟨x,y,k,h49⟩:=oJ m hp;rw[en,k]at e
     cases e;lia
 · have en:=KD m hm;have hb:Z7 T ("-" :Str) (pre.length:Int)=true:=J6 hs (r:=dg m++post) (by rw[en];rfl);refine d8.mpr<| u0<| AA.mpr<| C9<| K1 (G:=G) rfl rfl rfl ?_;rw[hb];refine⟨rfl,?_⟩;rw[if_pos rfl];have h1:tl T= (pre++[45])++dg m++post:=by rw[h,en];simp
   have e1:((pre++[45]).length:Int)= (pre.length:Int)+1:=by simp
   refine b8 (a:=.int ((pre.length:Int)+1)) (G':=G) rfl<| d8.mpr<| u0<| g8 (as:= [.str T,.int ((pre.length:Int)+1),.str ⟨#[48]⟩,.str ⟨#[57]⟩]) rfl rfl<| IE hz e1.symm h1 (wA m) ho ?_;rw[e1];refine LM (ds:=dg m) hz hi h (by rw[en,zu];lia) (E9 m) (Qh hi) (.inl ?_) q;rw[<-e1];refine dA (rest:=dg m++post) (by rw[h1,zJ]) (c:=48) (ps:= []) rfl λc r e=>?_;obtain⟨x,y,k,h49⟩:=oJ m hm;rw[k]at e
   cases e;lia
end
def clO:Option Int->Option Int->Bool
 |some a,some b=>decide (a+1<b)
 |_,_=>false
theorem Bc{p r:Rg}{G:DH}{Q:DPP}(h:Q (.bl (clO p.2 r.1)) G):Wp (rG [rD p,rD r]) G Q:=U0 (d:=.bl (clO p.2 r.1)) (by
 obtain⟨_,a⟩:=p;obtain⟨b,_⟩:=r;rcases a with _|a
 ·rfl
 ·rcases b with _|b<;>rfl) h
theorem QP{p r:Rg}:clO p.2 r.1=true↔d5 p r:=by
 unfold d5;rcases p.2 with _|a
 ·exact⟨λh=>(nomatch h),fun⟨_,_,h,_⟩=>(nomatch h)⟩
 · rcases r.1 with _|b
   ·exact⟨λh=>(nomatch h),fun⟨_,_,_,h,_⟩=>(nomatch h)⟩
   ·exact⟨λh=>⟨a,b,rfl,rfl,of_decide_eq_true h⟩,fun⟨_,_,h1,h2,k⟩=>decide_eq_true (js h1▸js h2▸k)⟩
theorem L5{G:DH}{p:Nat}{o:DO}(e:G[p]? =some o):ckO p o G=true:=by unfold ckO;rw[e];simp
def C3:Option Int->Int×Int
 |none=>(0,0)
 |some a=>(1,a)
def kD(a:Option Int):D:=.tup [.int (C3 a).1,.int (C3 a).2]
theorem Vp{p:Rg}{G:DH}{Q:DPP}(q:Q (kD p.1) G):Wp (J0 [rD p]) G Q:=U0 (d:=kD p.1) (by obtain⟨a,_⟩:=p;rcases a with _|a<;>rfl) q
theorem LW{a b:Option Int}(h:g9 (C3 b) (C3 a)=false):kle a b:=by
 have h:=aB.mp h;rcases a with _|a
 ·trivial
 · rcases b with _|b
   ·simp only[C3]at h;lia
   ·simp only[C3]at h;show a<=b;lia
theorem SN{G:DH}:∀l:List Rg,Q9 J0 (rsD l) G=some (.ok (l.map λp=>kD p.1),G)
 |[]=>rfl
 |p::r=>by have h1:noX (J0 [rD p]) G=some (.ok (kD p.1),G):=W4 (uB.mpr (Vp ⟨rfl,rfl⟩));show (do let k <-noX (J0 [rD p]);let ks <-Q9 J0 (rsD r);pure (k::ks):M (List D)) G=_;rw[M.bind_ok h1,M.bind_ok (SN r)];rfl
theorem SR:∀l:List Rg,d4 (l.map λp=>kD p.1)=some (l.map λp=>C3 p.1)
 |[]=>rfl
 |p::r=>by show (match mE (kD p.1),d4 (r.map λp=>kD p.1) with|some a,some b=>some (a::b)|_,_=>none)=_;rw[SR r];rfl
theorem Ch(l:List Rg):∃l':List Rg,l9 (l.map λp=>C3 p.1) (rsD l)=rsD l'/\l'.Perm l/\l'.Pairwise λp q=>kle p.1 q.1:=by
 obtain⟨pm,pw⟩:=QF (l.map λp=>C3 p.1) l.length;have lt:∀i∈S8 (l.map λp=>C3 p.1) l.length,i<l.length:=λi hi=>jn.mp (pm.mem_iff.mp hi);refine⟨(S8 (l.map λp=>C3 p.1) l.length).map λi=>l.getD i (none,none),?_,?_,?_⟩
 ·unfold l9 rsD;rw[zf,jg];refine ym λi hi=>?_;have:=lt i hi;simp[zp,this]
 · have e:(zE l.length).map (λi=>l.getD i (none,none))=l:=by
    apply yr
    ·simp
    ·intro i hi hj;simp[hj]
   have:=pm.map λi=>l.getD i ((none,none):Rg);rw[e]at this;exact this
 · refine jJ.mpr (pw.imp_of_mem λ{i j} hi hj h=>LW ?_);have li:=lt i hi;have lj:=lt j hj;have ei:(l.map λp=>C3 p.1).getD i (0,0)=C3 (l.getD i (none,none)).1:=by simp[zp,li]
   have ej:(l.map λp=>C3 p.1).getD j (0,0)=C3 (l.getD j (none,none)).1:=by simp[zp,lj]
   unfold ltP at h;rw[ei,ej]at h;exact h
theorem Sv{a:Nat}{l:List Rg}{G:DH}{σ:DSt}{f:Fe}{Q:DPP}(hf:f σ G=some (.ok (.ref a),G))(e:G[a]? =some (.lst (rsD l)))(hl:l.length<64)
 (q:∀l':List Rg,l'.Perm l->(l'.Pairwise λp q=>kle p.1 q.1)->Q (.ref G.length) (G++[.lst (rsD l')])):Wp (CD J0 f σ) G Q:=by
 obtain⟨l',e1,pm,pw⟩:=Ch l;refine b8 (a:=.ref G.length) (G':=G++[.lst (rsD l')]) ?_ (q l' pm pw);show (do let x <-f σ;TD J0 x:M D) G=_;rw[M.bind_ok hf];show (do match <-K5 a with
  | .lst l=>if l.length<64 then F9 J0 l else M.stuck
  |_=>M.stuck:M D) G=_
 rw[M.bind_ok (show K5 a G=some (.ok (.lst (rsD l)),G) by unfold K5;rw[e])];show (if (rsD l).length<64 then F9 J0 (rsD l)else M.stuck:M D) G=_;rw[if_pos (by rw[HA];exact hl)];unfold F9;rw[M.bind_ok (SN l),M.bind_ok (show U1 (d4 (l.map λp=>kD p.1)) G=some (.ok (l.map λp=>C3 p.1),G) by rw[SR];rfl),e1];rfl
theorem fT{a b:Option Int}{G:DH}{Q:DPP}(q:Q (S9 (D9 a b)) G):Wp (Z5 [S9 a,S9 b]) G Q:=by
 rcases a with _|a
 ·exact U0 (d:=.non) rfl q
 · rcases b with _|b
   ·exact U0 (d:=.non) rfl q
   · refine U0 (d:=.int (if b>a then b else a)) rfl ?_;have:(if b>a then b else a)=max a b:=by split<;>lia
     rw[this];exact q
theorem Hb:cG=j5 (v7 (Q5 o0) N0) (j5 (y3 (itW (CD J0 c0)) T0 JB) (o9 (C0 V8 g0))):=rfl
section
variable{ds:List Rg}{c:Nat}{a0:Option D}
theorem Gv{rz rest:List Rg}{p:Rg}{G:DH}(M:Mg ds rz (p::rest))(e:G[c]? =some (.lst (rsD rz)))(hl:ds.length<10000):
 Wp (JB [a0,sRf c,some (rD p)]) G λfl G'=>fl= .nx [a0,sRf c,some (rD p)]/\∃rf o,Mg ds rf rest/\G'=G.set c o/\G'[c]? =some (.lst (rsD rf)):=by
 have bg:=big;have ln:=M.len;simp only[zu]at ln;have new:(∀t e,rz=t++[e]->d5 e p)->Wp ((S5 (mtE v5 v8 g0 (L0 (B0 (ixE y0 A0) (ixE y0 i0))))) [a0,sRf c,some (rD p)]) G λfl G'=>fl= .nx [a0,sRf c,some (rD p)]/\∃rf o,Mg ds rf rest/\G'=G.set c o/\G'[c]? =some (.lst (rsD rf)):=λhc=>by refine l8.mpr<| A3.mpr<| b8 (a:=.ref c) rfl<| (N7 e).mpr<| b8 (a:= [rD p]) (G':=G) rfl<| (Q8 e (by rw[HA];lia)).mpr ⟨rfl,_,_,M.new hc,rfl,?_⟩;rw[jo (lt_of_get e),rH]
 refine M8<| B5<| R1.mpr<| b8 (a:=.ref c) (G':=G) rfl<| (BK e).mpr ⟨λh=>?_,λh=>⟨λz=>(nomatch z),λ_=>new λt x z=>?_⟩⟩
 · have sf:rz≠ []:=by rintro rfl;cases h
   clear h;obtain⟨t,x,rfl⟩:∃(t:List Rg) (x:Rg),rz=t++[x]:=⟨_,_,(xC sf).symm⟩;have e':=e;rw[rH]at e';have ix:∀ {Q:DPP},Q (rD x) G->Wp (binE ixD g0 (unE E3 i0) [a0,sRf c,some (rD p)]) G Q:=λq=>j4<| b8 (a:=.ref c) rfl<| b8 (a:=.int (-1)) rfl<| (F7 e').mpr ⟨_,HL _ _,q⟩;refine X4.mpr<| R1.mpr<| R9<| j7<| ix<| b8 (a:= [rD p]) (G':=G) rfl<| V1.mpr ⟨rfl,Bc<| O9.mpr ⟨λh=>?_,λh=>new λt' x' z=>?_⟩⟩
   · have nc:¬d5 x p:=λk=>by rw[QP.mpr k]at h;cases h
     refine B7.mpr<| M9.mpr<| j7<| j4<| ix<| b8 (a:=D.int 0) (G':=G) rfl<| (ix_tup (l:= [S9 x.1,S9 x.2]) (i:=0)).mpr ⟨S9 x.1,rfl,j7<| R9<| j7<| j4<| ix<| b8 (a:=D.int 1) (G':=G) rfl<| (ix_tup (l:= [S9 x.1,S9 x.2]) (i:=1)).mpr ⟨S9 x.2,rfl,b8 (a:= [S9 p.2]) (G':=G) rfl<| V1.mpr ⟨rfl,fT<| o8.mpr ⟨sz,?_⟩⟩⟩⟩;refine oQ (k:= -1) rfl rfl e' (j:=(rsD t).length) ?_ ⟨rfl,_,_,M.join nc,rfl,?_⟩
     ·unfold ixN;rw[if_neg (by lia),if_pos (by simp;lia)];congr 1;simp;lia
     ·rw[jo (lt_of_get e),rH,List.set_append_right _ _ (zh _),Nat.sub_self];rfl
   · obtain⟨rfl,h2⟩:=Jg z rfl
     cases h2
     exact QP.mp (by simpa using h)
 · rw[z]at h
   cases t<;>cases h
theorem fN{q:Nat}{L:List D}(hq:q≠c):∀(rest rz:List Rg) (u:Option D) (G:DH),Mg ds rz rest->G[c]? =some (.lst (rsD rz))->G[q]? =some (.lst L)->ds.length<10000->
 Wp (B1 T0 JB (ckO q (.lst L)) (rsD rest) [a0,sRf c,u]) G λfl G'=>(∃u,fl= .nx [a0,sRf c,u])/\∃rf,Mg ds rf []/\G'[c]? =some (.lst (rsD rf))/\G.length<=G'.length/\∀i,i≠c->i<G.length->G'[i]? =G[i]?
 |[],rz,u,G,M,e,eq,hl=>B8.mpr ⟨L5 eq,⟨u,rfl⟩,rz,M,e,zh _,λ_ _ _=>rfl⟩
 |p::r,rz,u,G,M,e,eq,hl=>by refine Q7.mpr ⟨L5 eq,J8.mpr<| (Gv M e hl).mono ?_⟩;rintro _ G1 ⟨rfl,rf,o,M',rfl,e1⟩;refine(fN hq r rf _ _ M' e1 (by rw[jL (Ne.symm hq)];exact eq) hl).mono ?_;rintro _ G2 ⟨⟨u,rfl⟩,acc2,M2,e2,l2,f2⟩;rw[Zc]at l2;exact⟨⟨u,rfl⟩,acc2,M2,e2,l2,λi hi h=>by rw[f2 i hi (by rw[Zc];exact h),jL (Ne.symm hi)]⟩
end
def rN(l due:List Rg):Prop:=Can due/\∀x,inS due x↔inS l x
theorem QW{l:List Rg}{a:Nat}{G:DH}{Q:DPP}(ok:∀p∈l,okR p)(e:G[a]? =some (.lst (rsD l)))(hl:l.length<64)
 (q:∀met G',rN l met->met.length<=l.length->Ap G G'->Q (.tup (rsD met)) G'):Wp (VF [.ref a]) G Q:=by
 refine j9 (show Wp (cG [sRf a,none,none]) G _ from ?_);rw[Hb];refine o6 (X1:= [sRf a,some (.ref G.length),none]) (G':=G++[.lst []]) rfl<| d8.mpr<| g6.mpr<| wp_itW.mpr<| Sv (a:=a) rfl (v9 e) hl λl' pm pw=>?_;have sf:(G++[DO.lst []]).length≠G.length:=by simp
 refine(gB f9).mpr<| (fN (ds:=l) sf l' [] none _ (Mg.start ok pm pw) (v9 f9) f9 (by lia)).mono ?_;rintro _ G1 ⟨⟨u,rfl⟩,met,M,e1,l1,f1⟩;refine o4<| W6 (as:= [.ref G.length]) rfl<| (W3 e1).mpr<| j8<| q met G1 ⟨M.can,λx=>?_⟩ (by have:=M.len;simpa using this) (Gr.ap ⟨?_,λi hi=>?_⟩)
 ·rw[M.same x];exact⟨.inl,λz=>z.elim id λz=>absurd z X7⟩
 ·simp only[zd]at l1;lia
 ·rw[f1 i (by lia) (by simp;lia),zJ,zB hi]
def Dr(G:DH)(r:Nat):Prop:=∃ns:List Nat,G[r]? =some (.lst (ns.map λn:Nat=>D.int (n:Int)))
def Fd(r:Nat)(G G':DH):Prop:=G.length<=G'.length/\(∀i,i≠r->i<G.length->G'[i]? =G[i]?)/\Dr G' r
theorem Dr.lt{G:DH}{r:Nat}(h:Dr G r):r<G.length:=by obtain⟨ns,hr⟩:=h;exact lt_of_get hr
theorem Dr.app{G t:DH}{r:Nat}(h:Dr G r):Dr (G++t) r:=by obtain⟨ns,hr⟩:=h;exact⟨ns,v9 hr⟩
theorem Fd.refl{r:Nat}{G:DH}(h:Dr G r):Fd r G G:=⟨zh _,λ_ _ _=>rfl,h⟩
theorem Fd.trans{r:Nat}{G G1 G2:DH}(h:Fd r G G1)(k:Fd r G1 G2):Fd r G G2:=
 ⟨zS h.1 k.1,λi hi hl=>by rw[k.2.1 i hi (by have:=h.1;lia),h.2.1 i hi hl],k.2.2⟩
theorem Fd.app{r:Nat}{G t:DH}(h:Dr G r):Fd r G (G++t):=⟨by simp,λi _ hl=>zB hl,h.app⟩
theorem Fd.at{r p:Nat}{G G':DH}{o:DO}(h:Fd r G G')(hp:p≠r)(e:G[p]? =some o):G'[p]? =some o:=by rw[h.2.1 p hp (lt_of_get e)];exact e
theorem Dr.set{G:DH}{r p:Nat}{o:DO}(h:Dr G r)(hp:p≠r):Dr (G.set p o) r:=by obtain⟨ns,hr⟩:=h;exact⟨ns,by rw[jL hp];exact hr⟩
theorem w4{r:Nat}{m:Int}{G:DH}{Q:DPP}(h:Dr G r)(hm:0<m)(q:∀k:Int,0<=k->k<m->∀G',Fd r G G'->Q (.int k) G'):Wp (m5 [.ref r,.int m]) G Q:=by
 have h':=h;obtain⟨ns,hr⟩:=h';have s0:([D.ref r,D.int m].map some++jI (2 - [D.ref r,D.int m].length) none:DSt)= [sRf r,some (.int m)]:=rfl;unfold m5 CK;simp only[y7,s0,d8,sC,cA,A6,l4,BE,A3,O2,o8,x5,R7,t7,zQ,exists_eq_left',zG,zW];refine⟨sz,?_⟩;have e1:=v9 (t:= [DO.lst []]) hr;rw[iM e1 f9];refine⟨_,rfl,?_⟩
 cases ns with
 |nil=>
   simp only[Zy,List.isEmpty_nil,if_true];exact q 0 (by lia) hm _ (Fd.app h)
 |cons n t=>
   simp only[zH,List.isEmpty_cons,zy,if_false];rw[N7 e1,ww e1,U6 hm];refine q _ (yg _ (by lia)) (yY _ hm) _ ⟨by simp,λi hi hl=>?_,t,?_⟩
   ·rw[jL (Ne.symm hi),zB hl]
   ·rw[jo (lt_of_get e1)]
theorem wJ{r:Nat}{G:DH}{n:Int}{ds:List D}{Q:DPP}(h:Dr G r)(hn:(ds.length:Int)=n)(h0:0<n)(q:∀d∈ds,∀G',Fd r G G'->Q d G'):
 Wp (m5 [.ref r,.int n]) (G++[.lst ds]) λy G2=>Wp (ixD (.ref G.length) y) G2 Q:=by
 refine w4 h.app h0 λk h3 h4 G2 f2=>?_;have sf:G.length≠r:=by have:=h.lt;lia
 have hg:=f2.at sf (o:=.lst ds) pO;rw[F7 hg];obtain⟨d,hd,e⟩:=bK (l:=ds) h3 (by lia);exact⟨d,e,q d hd G2 ((Fd.app h).trans f2)⟩
theorem Qw:eF=j5 (v7 (z0 m5 c0 mD) N0) (j5 N1 (j5 N2 (asQ A0 S1 (j5 (y3 (c5 (L0 ED)) t3 NB) N3)))):=rfl
def B2(i:Int):Prop:= -100000000000000000000<=i/\i<=100000000000000000000
theorem rL{r:Nat}{w u:Option D}:∀(items:List D) (l B:Int) (v:Option D) (G:DH),Dr G r->0<=l->l<B->
 Wp (B1 t3 NB (λ_=>true) items [sRf r,w,u,some (.int l),v]) G λfl G'=>Fd r G G'/\∃l' v',fl= .nx [sRf r,w,u,some (.int l'),v']/\0<=l'/\l'<B*1000 ^ items.length
 |[],l,B,v,G,h,h0,h1=>B8.mpr ⟨rfl,Fd.refl h,l,v,rfl,h0,by simpa using h1⟩
 |d::t,l,B,v,G,h,h0,h1=>by refine Q7.mpr ⟨rfl,J8.mpr<| u0<| j4<| j4<| b8 (a:=.int l) (G':=G) rfl<| b8 (a:=.int 1000) (G':=G) rfl<| (O3 (Or.inr ⟨by lia,by lia⟩)).mpr<| g8 (as:= [.ref r,.int 1000]) rfl rfl<| w4 h (by decide) λk k0 k1 G1 f1=>N9.mpr ?_⟩;refine Wp.mono (rL t (l*1000+k) (B*1000) (some d) G1 f1.2.2 (by lia) (by lia)) λfl G2 ⟨f2,l',v',e,q0,q1⟩=>⟨f1.trans f2,l',v',e,q0,?_⟩;rw[zu,Int.pow_succ,Int.mul_comm (1000 ^ _) 1000,<-Int.mul_assoc];exact q1
theorem nJ{r:Nat}{G:DH}(h:Dr G r):Wp (R5 [.ref r]) G λx G'=>∃i,x= .int i/\B2 i/\Fd r G G':=by
 refine j9 (show Wp (eF [sRf r,none,none,none,none]) G _ from ?_);rw[Qw];refine d8.mpr<| u0<| g8 (as:= [.ref r,.int 8]) rfl rfl<| w4 h (by decide) λw w0 w1 G1 f1=>?_;refine d8.mpr<| M8<| v6<| j4<| b8 (a:=.int w) (G':=G1) rfl<| b8 (a:=.int 5) (G':=G1) rfl<| lt_int.mpr ⟨_,rfl,λk=>?_,λk=>t7.mpr ?_⟩
 · refine d8.mpr<| u0<| g8 (as:= [.ref r,.int 40]) rfl rfl<| w4 f1.2.2 (by decide) λk k0 k1 G2 f2=>?_;have b1:0<=k % 2:=yg _ (by lia);have b2:k % 2<2:=yY _ (by lia);refine o4<| j4<| j4<| b8 (a:=.int k) (G':=G2) rfl<| b8 (a:=.int 2) (G':=G2) rfl<| (IC ⟨by decide,by decide⟩).mpr<| j4<| b8 (a:=.int 1) (G':=G2) rfl<| j4<| b8 (a:=.int 2) (G':=G2) rfl<| j4<| b8 (a:=.int k) (G':=G2) rfl<| b8 (a:=.int 2) (G':=G2) rfl<| (U6 (by decide)).mpr<| (O3 (Or.inl ⟨by decide,by decide⟩)).mpr<| OD.mpr<| (O3 (Or.inr ⟨by lia,by lia⟩)).mpr<| j8 ⟨_,rfl,?_,f1.trans f2⟩;unfold B2;have c:k % 2=0\/k % 2=1:=by lia
   rcases c with c|c<;>rw[c]<;>constructor<;>lia
 · have k:=of_decide_eq_false k;refine d8.mpr<| M8<| v6<| j4<| b8 (a:=.int w) (G':=G1) rfl<| b8 (a:=.int 5) (G':=G1) rfl<| u7.mpr ⟨_,rfl,λk=>?_,λk=>t7.mpr ?_⟩
   ·simp only[A6,l4,MG,BE,U5,O2,o8,x5,R7,V1,mI (show i7 10 20 by decide),p18,FI,OD,zG,zW,ye,yn,zQ,exists_eq_left'];refine⟨sz,rfl,wJ f1.2.2 rfl (by decide) λd hd G2 f2=>j8 ?_⟩;simp only[zr,zT,or_false]at hd;rcases hd with rfl|rfl|rfl|rfl<;>exact⟨_,rfl,by unfold B2;lia,f1.trans f2⟩
   · have k:=of_decide_eq_false k;refine d8.mpr<| u0<| b8 (a:=.int 0) (G':=G1) rfl<| d8.mpr<| g6.mpr<| ME.mpr<| b8 (a:= [.int 6]) (G':=G1) rfl<| (wD ⟨by decide,by decide⟩).mpr ?_;refine Wp.mono (rL (N8 0 (6:Int).toNat) 0 1 none G1 f1.2.2 (by decide) (by decide)) λfl G2 ⟨f2,l,v,e2,q0,q1⟩=>?_;subst e2;have q1:l<1000000000000000000:=q1;refine o4<| j4<| j4<| j4<| b8 (a:=.int l) (G':=G2) rfl<| b8 (a:=.int 100) (G':=G2) rfl<| (O3 (Or.inr ⟨by lia,by lia⟩)).mpr<| g8 (as:= [.ref r,.int 100]) rfl rfl<| w4 f2.2.2 (by decide) λk k0 k1 G3 f3=>N9.mpr<| j4<| b8 (a:=.int 13) (G':=G3) rfl<| j4<| b8 (a:=.int 2) (G':=G3) rfl<| b8 (a:=.int w) (G':=G3) rfl<| (O3 (Or.inl ⟨by decide,by decide⟩)).mpr<| OD.mpr<| (O3 (Or.inr ⟨by lia,by lia⟩)).mpr<| j8 ⟨_,rfl,?_,(f1.trans f2).trans f3⟩;unfold B2;have c:w=6\/w=7:=by lia
     rcases c with rfl|rfl<;>constructor<;>lia
def DL'(G:DH)(q L:Nat):Prop:=∃ns:List Nat,G[q]? =some (.lst (ns.map λn:Nat=>D.int (n:Int)))/\ns.length<=L
theorem pF{G:DH}{q L:Nat}{x:Int}{Q:DPP}(h:DL' G q L)(hL:L<=100000)(hx:0<=x)(k:∀o,DL' (G.set q o) q (L+1)->Q .non (G.set q o)):Wp (v8 (.ref q) [.int x]) G Q:=by have bg:=big;obtain⟨ns,e,hl⟩:=h;rw[Q8 e (by rw[zf];lia)];refine k _ ⟨ns++[x.toNat],?_,by simp;lia⟩;rw[jo (lt_of_get e),zY];have ex:((x.toNat:Nat):Int)=x:=Int.toNat_of_nonneg hx;simp only[zH,Zy,ex]
theorem BG{G:DH}{q L:Nat}{R:Unit->DH->Prop}(h:DL' G q L):Wp (v5 (.ref q)) G R↔R () G:=by obtain⟨ns,e,hl⟩:=h;exact N7 e
theorem EQ{i j:Int}{G:DH}{Q:DPP}:Wp (geD (.int i) (.int j)) G Q↔Q (.bl (decide (i>=j))) G:=wp_pure
theorem eT{G:DH}{p:Nat}{l:List D}{i:Int}{Q:DPP}(e:G[p]? =some (.rol l)):Wp (ixD (.ref p) (.int i)) G Q↔∃d,atI l i=some d/\Q d G:=by
 have h:ixD (.ref p) (.int i)= (do
  let l <-K5 p >>= DL.listOf
  U1 (atI l i)):=rfl
 rw[h];simp only[d9,M5,e,Q0,DL.listOf,wp_pure,n9]
theorem cV:GK=j5 (v7 (Q5 o0) N0) (j5 (y3 (c5 (L0 (K2 rB (C0 lenF c0) (cIn 80)))) T0 DB) (o9 (d6 g0 (c8) (T6 (cIn 240))))):=rfl
section
variable{s:Option D}{q L:Nat}{k rest:Int}{u v:Option D}
def Fq(q:Nat)(G G':DH):Prop:=G.length<=G'.length/\∀i,i≠q->i<G.length->G'[i]? =G[i]?
theorem Fq.refl{G:DH}:Fq q G G:=⟨zh _,λ_ _ _=>rfl⟩
theorem Fq.trans{G G1 G2:DH}(h:Fq q G G1)(k:Fq q G1 G2):Fq q G G2:=⟨zS h.1 k.1,λi hi hl=>by rw[k.2 i hi (by have:=h.1;lia),h.2 i hi hl]⟩
theorem Fq.set{G:DH}{o:DO}:Fq q G (G.set q o):=⟨by simp,λi hi hl=>by rw[jL (Ne.symm hi)]⟩
theorem mv{G:DH}(h:DL' G q L)(hL:L<=90000)(hk:0<=k/\k<100)(hr:0<=rest):
 Wp (D1 [s,sRf q,some (.int k),some (.int rest),u,v]) G λfl G'=>Fq q G G'/\DL' G' q (L+3)/\∃u',fl= .nx [s,sRf q,some (.int k),some (.int rest),u',v]:=by
 unfold D1;have m1:E7 7919 k:=Or.inl ⟨by lia,by lia⟩;have m3:E7 40692 (k+7):=Or.inl ⟨by lia,by lia⟩;simp only[d8,B7,J8,l8,A3,l4,O2,o8,x5,R7,ye,yn,zG,zW,zQ,exists_eq_left',O3 m1,O3 m3,N9,U6 (show (0:Int)<2147483647 by decide)];have b1:0<=(rest+7919*k+3) % 2147483647:=yg _ (by lia);rw[O3 (Or.inr ⟨by decide,by decide⟩),U6 (by decide)];have b2:0<=(rest+7919*k+3) % 2147483647*48271 % 2147483647:=yg _ (by lia);have b3:(rest+7919*k+3) % 2147483647*48271 % 2147483647<2147483647:=yY _ (by lia);generalize (rest+7919*k+3) % 2147483647*48271 % 2147483647=a at *;rw[O3 (Or.inl ⟨by lia,by lia⟩),U6 (by decide)];have c1:0<=a*a % 2147483629:=yg _ (by lia);have c2:a*a % 2147483629<2147483629:=yY _ (by lia);generalize a*a % 2147483629=c at *;rw[BG h,IC ⟨by decide,by decide⟩,U6 (by decide)];refine pF h (by lia) (yg _ (by decide)) λo1 h1=>?_;rw[BG h1,IC ⟨by decide,by decide⟩,U6 (by decide)];refine pF h1 (by lia) (yg _ (by decide)) λo2 h2=>?_;rw[N9,U6 (by decide)];have d1:0<=(c+40692*(k+7)) % 2147483587:=yg _ (by lia);have d2:(c+40692*(k+7)) % 2147483587<2147483587:=yY _ (by lia);generalize (c+40692*(k+7)) % 2147483587=e at *;rw[BG h2,O3 (Or.inl ⟨by lia,by lia⟩),U6 (by decide),IC ⟨by decide,by decide⟩,U6 (by decide)];refine pF h2 (by lia) (yg _ (by decide)) λo3 h3=>?_;exact⟨(Fq.set.trans Fq.set).trans Fq.set,h3,_,rfl⟩
theorem iR:∀(j m:Nat) (rest:Int) (L:Nat) (G:DH),m+j=60->0<=rest->DL' G q L->L+j<=90000->
 Wp (K8 (j+1) WT1 WB1 [s,sRf q,some (.int k),some (.int rest),u,some (.int m)]) G λfl G'=>Fq q G G'/\DL' G' q (L+j)/\∃r' m',fl= .nx [s,sRf q,some (.int k),some (.int r'),u,some (.int m')]
 |0,m,rest,L,G,hm,hr,h,hL=>by
   rw[R6];unfold WT1;have c:¬((m:Int)<60):=by lia
   simp only[wG,cA,l4,x5,R7,EQ,lt_int,OB,zG,zW,zQ,exists_eq_left',c,decide_false];split
   ·simp only[zy,if_false];exact⟨Fq.refl,h,rest,m,rfl⟩
   ·simp only[zy,if_false];exact⟨Fq.refl,h,rest,m,rfl⟩
 |j+1,m,rest,L,G,hm,hr,h,hL=>by
   rw[R6];have c:((m:Int)<60):=by lia
   have et:Wp (WT1 [s,sRf q,some (.int k),some (.int rest),u,some (.int m)]) G λb G'=>b=decide (rest>=1000)/\G'=G:=by
    unfold WT1;simp only[wG,cA,l4,x5,R7,EQ,lt_int,OB,zG,zW,zQ,exists_eq_left',c,decide_true];by_cases cr:rest>=1000
    ·simp[cr]
    ·simp[cr]
   refine Wp.mono et λb G1 ⟨eb,eg⟩=>?_;subst eb eg;by_cases cr:rest>=1000
   · rw[if_pos (decide_eq_true cr)];unfold WB1;simp only[d8,B7,J8,l8,A3,l4,O2,o8,x5,R7,ye,yn,zG,zW,zQ,exists_eq_left',BG h,U6 (show (0:Int)<1000 by decide),N9,IC (show (0:Int)<1000/\(1000:Int)<2 ^ 100 by decide)];refine pF h (by lia) (yg _ (by decide)) λo h1=>?_;refine Wp.mono (iR j (m+1) (rest / 1000) (L+1) (G1.set q o) (by lia) (by lia) h1 (by lia)) λfl G2 ⟨f2,h2,q2⟩=>⟨Fq.set.trans f2,?_,q2⟩;have e:L+(j+1)=L+1+j:=by lia
     rw[e];exact h2
   ·rw[if_neg (by simpa using cr)];obtain⟨ns,e,hl⟩:=h;exact⟨Fq.refl,⟨ns,e,by lia⟩,rest,m,rfl⟩
theorem fZ{G:DH}(h:DL' G q L)(hL:L<=80000)(hr:0<=rest):
 Wp (D2 [s,sRf q,some (.int k),some (.int rest),u,v]) G λfl G'=>Fq q G G'/\DL' G' q (L+60)/\∃r' v',fl= .nx [s,sRf q,some (.int k),some (.int r'),u,v']:=by
 unfold D2;simp only[d8,B7,J8,x5,ye,yn];refine wC (Wp.mono (iR 60 0 rest L G rfl hr h (by lia)) λfl G1 ⟨f1,h1,r',m',e⟩=>?_);exact⟨f1,h1,r',_,e⟩
theorem HV{p:Nat}{ns:List Int}{i:Nat}{G:DH}(e:G[p]? =some (.rol (ns.map D.int)))(hi:i<ns.length)(hi2:i<100)(h:DL' G q L)(hL:L<=80000){t:Option D}:
 Wp (DB [sRf p,sRf q,some (.int i),t,u,v]) G λfl G'=>Fq q G G'/\DL' G' q (L+60)/\∃t' u' v',fl= .nx [sRf p,sRf q,some (.int i),t',u',v']:=by
 have ei:atI (ns.map D.int) (i:Int)=some (.int ns[i]):=atI_nat (by rw[jp,zq hi];rfl);unfold DB;simp only[d8,B7,J8,U5,l4,O2,o8,x5,R7,ye,yn,zG,zW,zQ,exists_eq_left',eT e,ei,OQ,sC,cA,p18,lt_int,OB];have hr:0<=(if ns[i]<0 then -ns[i]else ns[i]):=by split<;>lia
 generalize (if ns[i]<0 then -ns[i]else ns[i])=rest at *;split
 ·refine Wp.mono (mv h (by lia) ⟨by lia,by lia⟩ hr) λfl G1 ⟨f1,h1,u',ef⟩=>⟨f1,?_,_,_,_,ef⟩;obtain⟨ns,e,hl⟩:=h1;exact⟨ns,e,by lia⟩
 ·exact Wp.mono (fZ h hL hr) λfl G1 ⟨f1,h1,r',v',ef⟩=>⟨f1,h1,_,_,_,ef⟩
theorem uM{p:Nat}{ns:List Int}(um:p≠q):∀(is:List Nat) (L:Nat) (a t u v:Option D) (G:DH),G[p]? =some (.rol (ns.map D.int))->DL' G q L->(∀i∈is,i<ns.length/\i<100)->L+60*is.length<=80000->
 Wp (B1 T0 DB (λ_=>true) (is.map λi:Nat=>D.int (i:Int)) [sRf p,sRf q,a,t,u,v]) G λfl G'=>Fq q G G'/\DL' G' q 80000/\∃a t u v,fl= .nx [sRf p,sRf q,a,t,u,v]
 |[],L,a,t,u,v,G,e,h,hi,hL=>by rw[Zy,B8];obtain⟨ns,e,hl⟩:=h;exact⟨rfl,Fq.refl,⟨ns,e,by simp at hL;lia⟩,a,t,u,v,rfl⟩
 |i::r,L,a,t,u,v,G,e,h,hi,hL=>by
   simp only[zu]at hL;have hi0:=hi i (by simp);rw[zH,Q7,J8];refine⟨rfl,?_⟩;simp only[ye,yn];refine Wp.mono (HV e hi0.1 hi0.2 h (by lia)) λfl G1 ⟨f1,h1,t',u',v',ef⟩=>?_;subst ef;have e1:G1[p]? =some (.rol (ns.map D.int)):=by rw[f1.2 p um (lt_of_get e)];exact e
   exact Wp.mono (uM um r (L+60) _ _ _ _ G1 e1 h1 (λj hj=>hi j (by simp[hj])) (by lia)) λfl G2 ⟨f2,q2⟩=>⟨f1.trans f2,q2⟩
end
theorem mh(n:Nat):N8 0 n= (zE n).map λi:Nat=>D.int (i:Int):=by unfold N8;apply ym;intro i _;simp
theorem UY{G:DH}{p:Nat}{l:List D}{Q:DPP}(e:G[p]? =some (.rol l)):Wp (lenF [.ref p]) G Q↔Q (.int l.length) G:=by unfold lenF;simp only[d9,M5,e,Q0,wp_pure]
theorem Wg{p:Nat}{ns:List Int}{G:DH}(e:G[p]? =some (.rol (ns.map D.int)))(hn:ns.length<=63):Wp (U7 [.ref p]) G λx G'=>∃r,x= .ref r/\Dr G' r:=by
 unfold U7;rw[cV];have hp:=lt_of_get e;have s0:([D.ref p].map some++jI (6 - [D.ref p].length) none:DSt)= [sRf p,none,none,none,none,none]:=rfl;simp only[y7,s0,d8,B7,J8,BE,g6,ME,U5,O2,o8,x5,R7,ye,yn,zG,zW,zQ,exists_eq_left'];refine⟨sz,?_⟩;have e1:=v9 (t:= [DO.lst []]) e;rw[UY e1,df];have hm:(if (80:Int)<((ns.map D.int).length:Int)then (80:Int)else ((ns.map D.int).length:Int))= (ns.length:Int):=by rw[zf,if_neg (by lia)]
 rw[hm,wD ⟨by lia,by lia⟩,ya];show Wp (B1 T0 DB (λ_=>true) (N8 0 ns.length) [sRf p,some (.ref G.length),none,none,none,none]) (G++[DO.lst []]) _;rw[mh];refine Wp.mono (uM (ns:=ns) (show p≠G.length by lia) (zE ns.length) 0 none none none none _ e1 ⟨[],f9,by simp⟩ (λi hi=>⟨jn.mp hi,by have:=jn.mp hi;lia⟩) (by rw[jZ];lia)) λfl G1 ⟨f1,h1,a,t,u,v,ef⟩=>?_;subst ef;obtain⟨ms,em,hl⟩:=h1;simp only[A6,OE,tO,fQ,TX,x5,R7,zG,zW,zQ,exists_eq_left'];rw[TQ em];refine⟨_,rfl,ms.take 240,?_⟩;rw[f9];have:=vw (ms.map λn:Nat=>D.int (n:Int)) 240;rw[show (some (240:Int))=some ((240:Nat):Int)from rfl,this,List.map_take]
theorem QJ(e:G[p]? =some (.lst l)):Wp (lenF [.ref p]) G Q↔Q (.int (l.length:Int)) G:=by unfold lenF;simp only[d9,M5,e,Q0,wp_pure]
abbrev e30:Int:=1000000000000000000000000000000
def pD(p:Int×Int):D:=.tup [.int p.1,.int p.2]
structure C1(p:Int×Int):Prop where
 le:p.1<=p.2
 lo:B2 p.1\/p.1= -e30
 hi:B2 p.2\/p.2=e30
theorem p30:Wp (F3 (.int 10) (.int 30)) G Q↔Q (.int e30) G:=mI (show i7 10 30 by decide)
def t4(n:Int):Option Int:=if (if n<0 then -n else n)=e30 then none else some n
theorem m4{n:Int}(h:B2 n):t4 n=some n:=by unfold B2 at h;unfold t4;rw[if_neg (by split<;>lia)]
theorem EG:t4 (-e30)=none:=by decide
theorem vD:t4 e30=none:=by decide
def rg(p:Int×Int):Rg:=(t4 p.1,t4 p.2)
theorem vL{n:Int}{G:DH}{Q:DPP}(q:Q (S9 (t4 n)) G):Wp (qE [.int n]) G Q:=by
 refine j9<| d8.mpr<| M8<| v6<| j4<| W6 rfl<| OQ.mpr<| j4<| b8 rfl<| b8 rfl<| p30.mpr<| u7.mpr ⟨_,rfl,λk=>?_,λk=>?_⟩
 ·have k:=of_decide_eq_true k;rw[show t4 n=none from if_pos k]at q;exact o4<| b8 rfl<| j8 q
 ·have k:=of_decide_eq_false k;rw[show t4 n=some n from if_neg k]at q;exact t7.mpr<| o4<| b8 rfl<| j8 q
section
variable{a p:Int×Int}
theorem C1.ok(h:C1 p):okR (rg p):=by
 obtain⟨le,l,hh⟩:=h;intro x y ex ey;rcases l with l|l
 · rcases hh with hh|hh
   · rw[show (rg p).1=some p.1 from m4 l]at ex;rw[show (rg p).2=some p.2 from m4 hh]at ey
     cases ex;cases ey;exact le
   · rw[show (rg p).2=none by unfold rg;rw[hh];exact vD]at ey
     cases ey
 · rw[show (rg p).1=none by unfold rg;rw[l];exact EG]at ex
   cases ex
theorem C1.far(ha:C1 a)(hp:C1 p):rg (a.1,if p.2>a.2 then p.2 else a.2)= ((rg a).1,D9 (rg a).2 (rg p).2):=by
 have h1:=ha.hi;have h2:=hp.hi;unfold rg;refine Prod.ext rfl ?_;show t4 (if p.2>a.2 then p.2 else a.2)=D9 (t4 a.2) (t4 p.2);rcases h1 with h1|h1
 · rcases h2 with h2|h2
   ·rw[m4 h1,m4 h2,m4 (by split;exact h2;exact h1)];show _=some (max a.2 p.2);congr 1;split<;>lia
   · unfold B2 at h1;rw[h2,if_pos (by lia),vD]
     cases t4 a.2<;>rfl
 ·rw[h1,if_neg (by unfold B2 at h2;lia),vD];rfl
theorem C1.join(ha:C1 a)(hp:C1 p):C1 (a.1,if p.2>a.2 then p.2 else a.2):=by
 refine⟨?_,ha.lo,?_⟩
 ·have:=ha.le;show a.1<=if p.2>a.2 then p.2 else a.2;split<;>lia
 · show B2 (if p.2>a.2 then p.2 else a.2)\/(if p.2>a.2 then p.2 else a.2)=e30;split
   ·exact hp.hi
   ·exact ha.hi
theorem C1.clr(ha:C1 a)(hp:C1 p):d5 (rg a) (rg p)↔¬p.1<=a.2+1:=by
 have h1:=ha.hi;have h2:=hp.lo;constructor
 · rintro⟨x,y,ex,ey,k⟩;rcases h1 with h1|h1
   · rcases h2 with h2|h2
     · rw[show (rg a).2=some a.2 from m4 h1]at ex;rw[show (rg p).1=some p.1 from m4 h2]at ey
       cases ex;cases ey;lia
     · rw[show (rg p).1=none by unfold rg;rw[h2];exact EG]at ey
       cases ey
   · rw[show (rg a).2=none by unfold rg;rw[h1];exact vD]at ex
     cases ex
 · intro k;have s1:B2 a.2:=h1.resolve_right λz=>by unfold B2 at h2;lia
   have s2:B2 p.1:=h2.resolve_right λz=>by unfold B2 at s1;lia
   exact⟨a.2,p.1,m4 s1,m4 s2,by lia⟩
theorem C1.kle(ha:C1 a)(hp:C1 p)(h:a.1<=p.1):W.kle (rg a).1 (rg p).1:=by
 have h1:=ha.lo;have h2:=hp.lo;rcases h1 with h1|h1
 · have s2:B2 p.1:=h2.resolve_right λz=>by unfold B2 at h1;lia
   rw[show (rg a).1=some a.1 from m4 h1,show (rg p).1=some p.1 from m4 s2];exact h
 ·rw[show (rg a).1=none by unfold rg;rw[h1];exact EG];trivial
end
theorem bM:∀l:List (Int×Int),d4 (l.map pD)=some l
 |[]=>rfl
 |p::r=>by show (match mE (pD p),d4 (r.map pD) with|some a,some b=>some (a::b)|_,_=>none)=_;rw[bM r];rfl
theorem qe(l:List (Int×Int)):∃l':List (Int×Int),l9 l (l.map pD)=l'.map pD/\l'.Perm l/\l'.Pairwise λp q=>p.1<=q.1:=by
 obtain⟨pm,pw⟩:=QF l l.length;have lt:∀i∈S8 l l.length,i<l.length:=λi hi=>jn.mp (pm.mem_iff.mp hi);refine⟨(S8 l l.length).map λi=>l.getD i (0,0),?_,?_,?_⟩
 ·unfold l9;rw[zf,jg];refine ym λi hi=>?_;have:=lt i hi;simp[zp,this]
 · have e:(zE l.length).map (λi=>l.getD i (0,0))=l:=by
    apply yr
    ·simp
    ·intro i hi hj;simp[hj]
   have:=pm.map λi=>l.getD i ((0,0):Int×Int);rw[e]at this;exact this
 ·refine jJ.mpr (pw.imp_of_mem λ{i j} hi hj h=>?_);unfold ltP at h;have:=aB.mp h;lia
theorem ng{a:Nat}{l:List (Int×Int)}{G:DH}{Q:DPP}(e:G[a]? =some (.lst (l.map pD)))(hl:l.length<64)
 (q:∀l':List (Int×Int),l'.Perm l->(l'.Pairwise λp q=>p.1<=q.1)->Q (.ref G.length) (G++[.lst (l'.map pD)])):Wp (OC [.ref a]) G Q:=by
 obtain⟨l',e1,pm,pw⟩:=qe l;refine b8 ?_ (q l' pm pw);show (do match <-K5 a with
  | .lst l=>PD l
  |_=>M.stuck:M D) G=_
 rw[M.bind_ok (show K5 a G=some (.ok (.lst (l.map pD)),G) by unfold K5;rw[e])];show PD (l.map pD) G=_;unfold PD;rw[if_pos (by rw[zf];exact hl),M.bind_ok (show U1 (d4 (l.map pD)) G=some (.ok l,G) by rw[bM];rfl),e1];rfl
theorem leI{i j:Int}{G:DH}{Q:DPP}:Wp (leD (.int i) (.int j)) G Q↔Q (.bl (decide (i<=j))) G:=wp_pure
abbrev g23:Fg:=(F5 2 (U9 T0 (U9 S1 (y6))))
abbrev g01:Fg:=(F5 2 (U9 P2 (U9 N0 (y6))))
theorem qX:AG=j5 (v7 (Q5 o0) N0) (j5 (y3 (itW (C0 OC c0)) g23 LB) (o9 (C0 V8 (M6 (itW g0) [none,none] g01 (V4) LE)))):=rfl
structure MI(ds rz rest:List (Int×Int)):Prop where
 mg:Mg (ds.map rg) (rz.map rg) (rest.map rg)
 ok:∀p∈rz,C1 p
 ok2:∀p∈rest,C1 p
theorem TF(l:List (Int×Int))(p:Int×Int):(l++[p]).map rg=l.map rg++[rg p]:=zY ..
section
variable{ds:List (Int×Int)}{c:Nat}{a0:Option D}
abbrev lS(a0:Option D)(c:Nat)(p:Int×Int):DSt:= [a0,sRf c,some (.int p.1),some (.int p.2)]
theorem mY{rz rest:List (Int×Int)}{p:Int×Int}{G:DH}(M:MI ds rz (p::rest))(e:G[c]? =some (.lst (rz.map pD)))(hl:ds.length<10000):
 Wp (LB (lS a0 c p)) G λfl G'=>fl= .nx (lS a0 c p)/\∃rf,MI ds rf rest/\G.length<=G'.length/\(∀i,i≠c->i<G.length->G'[i]? =G[i]?)/\G'[c]? =some (.lst (rf.map pD)):=by
 have bg:=big;have okp:=M.ok2 p (zv ..);have ln:=M.mg.len;simp only[zH,zu,zf]at ln;have hG:(G++[DO.lst []])[c]? =some (.lst (rz.map pD)):=v9 e;have hc:=lt_of_get e;have fr:∀ {o:DO} i,i≠c->i<G.length->((G++[DO.lst []]).set c o)[i]? =G[i]? :=λi hi h=>by rw[jL (Ne.symm hi),zB h]
 have new:(∀t e,rz=t++[e]->d5 (rg e) (rg p))->Wp ((S5 (mtE v5 v8 g0 (L0 (B0 y0 D0)))) (lS a0 c p)) (G++[.lst []]) λfl G'=>fl= .nx (lS a0 c p)/\∃rf,MI ds rf rest/\G.length<=G'.length/\(∀i,i≠c->i<G.length->G'[i]? =G[i]?)/\G'[c]? =some (.lst (rf.map pD)):=λhcl=>by
  refine l8.mpr<| A3.mpr<| b8 rfl<| (N7 hG).mpr<| b8 rfl<| (Q8 hG (by rw[zf];lia)).mpr ⟨rfl,rz++[p],⟨?_,λq hq=>(zR.mp hq).elim (M.ok q) λz=>by rw[zm.mp z];exact okp,λq hq=>M.ok2 q (zl _ hq)⟩,by simp,fr,?_⟩
  · rw[TF];refine M.mg.new λt x z=>?_;have sf:rz≠ []:=by rintro rfl;cases t<;>cases z
    obtain⟨t',x',rfl⟩:∃(t:List (Int×Int)) (x:Int×Int),rz=t++[x]:=⟨_,_,(xC sf).symm⟩;rw[TF]at z;obtain⟨_,h2⟩:=Jg z rfl;rw[<-(zD h2).1];exact hcl t' x' rfl
  ·rw[jo (lt_of_get hG),zY];rfl
 refine M8<| B5<| v6<| j4<| b8 rfl<| b8 rfl<| (eK hG f9).mpr ⟨_,rfl,λh=>?_,λh=>⟨λz=>(nomatch z),λ_=>new λt x z=>?_⟩⟩
 · have sf:rz≠ []:=by rintro rfl;cases h
   clear h;obtain⟨t,x,rfl⟩:∃(t:List (Int×Int)) (x:Int×Int),rz=t++[x]:=⟨_,_,(xC sf).symm⟩;have okx:=M.ok x (zN _ (zm.mpr rfl));have e':=hG;rw[zY]at e';have ix:∀ {Q:DPP},Q (pD x) (G++[.lst []])->Wp (binE ixD g0 (unE E3 i0) (lS a0 c p)) (G++[.lst []]) Q:=λq=>j4<| b8 rfl<| b8 rfl<| (F7 e').mpr ⟨_,HL _ _,q⟩;have ix1:∀ {Q:DPP},Q (.int x.2) (G++[.lst []])->Wp (binE ixD (ixE g0 (unE E3 i0)) i0 (lS a0 c p)) (G++[.lst []]) Q:=λq=>j4<| ix<| b8 rfl<| (ix_tup).mpr ⟨_,rfl,q⟩;refine v6<| j4<| b8 rfl<| j4<| ix1<| b8 rfl<| N9.mpr<| leI.mpr ⟨_,rfl,λh=>?_,λh=>new λt' x' z=>?_⟩
   · have nc:¬d5 (rg x) (rg p):=λk=>(okx.clr okp).mp k (of_decide_eq_true h);refine B7.mpr<| M9.mpr<| j7<| j4<| ix<| b8 rfl<| (ix_tup).mpr ⟨.int x.1,rfl,j7<| R9<| j7<| ix1<| b8 rfl<| b8 rfl<| o8.mpr ⟨sz,?_⟩⟩;refine oQ rfl rfl e' (j:=(t.map pD).length) ?_ ⟨rfl,t++[(x.1,if p.2>x.2 then p.2 else x.2)],⟨?_,λq hq=>(zR.mp hq).elim (λz=>M.ok q (yf _ z)) λz=>by rw[zm.mp z];exact okx.join okp,λq hq=>M.ok2 q (zl _ hq)⟩,by simp,fr,?_⟩
     ·unfold ixN;rw[if_neg (by lia),if_pos (by simp;lia)];congr 1;simp;lia
     ·rw[TF,okx.far okp];refine Mg.join ?_ nc;rw[<-TF];exact M.mg
     ·rw[jo (lt_of_get hG),zY,List.set_append_right _ _ (zh _),Nat.sub_self];rfl
   · obtain⟨rfl,h2⟩:=Jg z rfl
     cases h2
     exact(okx.clr okp).mpr (of_decide_eq_false h)
 · rw[z]at h
   cases t<;>cases h
theorem EM{q:Nat}{L:List D}(hq:q≠c):∀(rest rz:List (Int×Int)) (u v:Option D) (G:DH),MI ds rz rest->G[c]? =some (.lst (rz.map pD))->G[q]? =some (.lst L)->ds.length<10000->
 Wp (B1 g23 LB (ckO q (.lst L)) (rest.map pD) [a0,sRf c,u,v]) G λfl G'=>(∃u v,fl= .nx [a0,sRf c,u,v])/\∃rf,MI ds rf []/\G'[c]? =some (.lst (rf.map pD))/\G.length<=G'.length/\∀i,i≠c->i<G.length->G'[i]? =G[i]?
 |[],rz,u,v,G,M,e,eq,hl=>B8.mpr ⟨L5 eq,⟨u,v,rfl⟩,rz,M,e,zh _,λ_ _ _=>rfl⟩
 |p::r,rz,u,v,G,M,e,eq,hl=>by refine Q7.mpr ⟨L5 eq,b8 rfl<| (mY M e hl).mono ?_⟩;rintro _ G1 ⟨rfl,rf,M',l1,f1,e1⟩;refine(EM hq r rf _ _ _ M' e1 (by rw[f1 q hq (lt_of_get eq)];exact eq) hl).mono ?_;rintro _ G2 ⟨⟨u,v,rfl⟩,acc2,M2,e2,l2,f2⟩;exact⟨⟨u,v,rfl⟩,acc2,M2,e2,by lia,λi hi h=>by rw[f2 i hi (by lia),f1 i hi h]⟩
end
theorem sD{α:Type}{mk:α->D×D}{e:Fe}{f:α->D}{ck:DH->Bool}{G:DH}(sx:ck G=true):∀(l:List α) (u v:Option D),(∀x∈l,e [some (mk x).1,some (mk x).2] G=some (.ok (f x),G))->J7 g01 V4 e ck (l.map λx=>.tup [(mk x).1,(mk x).2]) [u,v] G=some (.ok (l.map f),G)
 |[],u,v,h=>W4 (lD.mpr ⟨sx,rfl,rfl⟩)
 | x :: r, u, v, h => W4 (uG.mpr ⟨sx, b8 rfl <| b8 rfl <| by
    rw[if_pos rfl];exact b8 (h x (zv ..))<| b8 (sD sx r _ _ λy hy=>h y (zl _ hy)) ⟨rfl,rfl⟩⟩)
theorem Dd{p:Int×Int}{G:DH}:LE [some (.int p.1),some (.int p.2)] G=some (.ok (rD (rg p)),G):=
 W4<| M9.mpr<| j7<| g8 rfl rfl<| vL<| j7<| g8 rfl rfl<| vL<| o8.mpr ⟨sz,rfl,rfl⟩
theorem Tw{l:List (Int×Int)}{a:Nat}{G:DH}(ok:∀p∈l,C1 p)(e:G[a]? =some (.lst (l.map pD)))(hl:l.length<64):
 Wp (V5 [.ref a]) G λx G'=>∃due,x= .tup (rsD due)/\rN (l.map rg) due/\due.length<=l.length/\(∀r∈due,∃p,C1 p/\r=rg p)/\Ap G G':=by
 refine j9 (show Wp (AG [sRf a,none,none,none]) G _ from ?_);rw[qX];refine o6 (X1:= [sRf a,some (.ref G.length),none,none]) rfl<| d8.mpr<| g6.mpr<| wp_itW.mpr<| W6 rfl<| ng (v9 e) hl λl' pm pw=>?_;have sf:(G++[DO.lst []]).length≠G.length:=by simp
 have st:MI l [] l':=by refine⟨Mg.start (λr hr=>?_) (pm.map rg) (jJ.mpr (pw.imp_of_mem λhi hj h=>(ok _ (pm.mem_iff.mp hi)).kle (ok _ (pm.mem_iff.mp hj)) h)),λ_ z=>(nomatch z),λp hp=>ok p (pm.mem_iff.mp hp)⟩;obtain⟨p,hp,rfl⟩:=zM.mp hr;exact(ok p hp).ok
 refine(gB f9).mpr<| (EM sf l' [] none none _ st (v9 f9) f9 (by lia)).mono ?_;rintro _ G1 ⟨⟨u,v,rfl⟩,rz,M,e1,l1,f1⟩;have ml:=M.mg.len;simp only[Zy,zf,yM]at ml;refine o4<| R9<| j7<| wp_comp.mpr<| wp_itW.mpr<| b8 rfl<| (gB e1).mpr ⟨?_,b8 (sD (mk:=λp:Int×Int=>(.int p.1,.int p.2)) (L5 e1) rz none none λp _=>Dd)<| o8.mpr<| (W3 f9).mpr<| j8 ⟨rz.map rg,?_,⟨M.mg.can,λx=>?_⟩,by rw[zf];exact ml,λr hr=>?_,Gr.ap ⟨?_,λi hi=>?_⟩⟩⟩
 · have:(64:Nat)<=zi:=by decide
   rw[zf];lia
 ·unfold rsD;rw[jg];rfl
 ·rw[M.mg.same x];exact⟨.inl,λz=>z.elim id λz=>absurd z X7⟩
 ·obtain⟨p,hp,rfl⟩:=zM.mp hr;exact⟨p,M.ok p hp,rfl⟩
 ·simp only[zd]at l1 ⊢;lia
 ·rw[zB (by simp at l1;lia),f1 i (by lia) (by simp;lia),zJ,zB hi]
abbrev vK:List Nat:= [110,117,109,98,101,114]
abbrev cNo:List Nat:= [110,111,116,104,105,110,103]
abbrev cOr:List Nat:= [32,111,114,32]
def smR(r:Rg):Prop:=(∀a,r.1=some a->smI a)/\∀b,r.2=some b->smI b
def swL:Rg->List Nat
 |(none,none)=>vK
 |(none,some h)=> [46,46]++nmL h
 |(some l,none)=>nmL l++[46,46]
 |(some l,some h)=>if l=h then nmL l else nmL l++[46,46]++nmL h
def oL:Option Int->List Nat
 |none=> []
 |some i=>nmL i
theorem FS(h:B2 i):smI i:=by unfold B2 at h;unfold smI HC;lia
theorem C1.sm(h:C1 p):smR (rg p):=by
 refine⟨λa e=>?_,λb e=>?_⟩
 · rcases h.lo with k|k
   · rw[show (rg p).1=some p.1 from m4 k]at e
     cases e;exact FS k
   · rw[show (rg p).1=none by unfold rg;rw[k];exact EG]at e
     cases e
 · rcases h.hi with k|k
   · rw[show (rg p).2=some p.2 from m4 k]at e
     cases e;exact FS k
   · rw[show (rg p).2=none by unfold rg;rw[k];exact vD]at e
     cases e
theorem BT(h:smR r):(swL r).length<=90:=by
 obtain⟨a,b⟩:=r;rcases a with _|a<;>rcases b with _|b
 ·decide
 ·have:=B4 (h.2 b rfl);show ([46,46]++nmL b).length<=90;rw[zd];show 2+_<=_;lia
 ·have:=B4 (h.1 a rfl);show (nmL a++[46,46]).length<=90;rw[zd];show _+2<=_;lia
 · have h1:=B4 (h.1 a rfl);have h2:=B4 (h.2 b rfl);show (if a=b then nmL a else nmL a++[46,46]++nmL b).length<=90;split
   ·lia
   ·rw[zd,zd];show _+2+_<=_;lia
section
variable{G:DH}{Q:DPP}
theorem qB(h:a.length+b.length<=1000)(q:Q (.str (ofL (a++b))) G):Wp (addD (.str (ofL a)) (.str (ofL b))) G Q:=by have bg:=big;refine(KK (zS (show (ofL a).length+(ofL b).length<=1000 from h) (by lia))).mpr ?_;rw[LQ];exact q
theorem uZ(h:smR r)(q:Q (.str (ofL (swL r))) G):Wp (K3 [S9 r.1,S9 r.2]) G Q:=by
 obtain⟨a,b⟩:=r;rcases a with _|a<;>rcases b with _|b
 ·exact U0 rfl q
 ·have h2:=h.2 b rfl;have l2:=B4 h2;refine j9<| o6 (X1:= [some .non,some (.int b)]) rfl<| d8.mpr<| M8<| b8 rfl ⟨λ_=>?_,λz=>(nomatch z)⟩;exact o4<| j4<| b8 rfl<| W6 rfl<| sB h2<| qB (by show 2+_<=_;lia)<| j8 q
 ·have h1:=h.1 a rfl;have l1:=B4 h1;refine j9<| o6 (X1:= [some (.int a),some .non]) rfl<| o6 (X1:= [some (.int a),some .non]) rfl<| d8.mpr<| M8<| b8 rfl ⟨λ_=>?_,λz=>(nomatch z)⟩;exact o4<| j4<| W6 rfl<| sB h1<| b8 rfl<| qB (by show _+2<=_;lia)<| j8 q
 · have h1:=h.1 a rfl;have l1:=B4 h1;have h2:=h.2 b rfl;have l2:=B4 h2;refine j9<| o6 (X1:= [some (.int a),some (.int b)]) rfl<| o6 (X1:= [some (.int a),some (.int b)]) rfl<| o6 (X1:= [some (.int a),some (.int b)]) rfl<| d8.mpr<| M8<| v6<| j4<| b8 rfl<| b8 rfl<| u7.mpr ⟨_,rfl,λk=>?_,λk=>t7.mpr ?_⟩
   ·have k:=of_decide_eq_true k;rw[show swL (some a,some b)=nmL a from if_pos k]at q;exact o4<| W6 rfl<| sB h1<| j8 q
   ·have k:=of_decide_eq_false k;rw[show swL (some a,some b)=nmL a++[46,46]++nmL b from if_neg k]at q;exact o4<| j4<| j4<| W6 rfl<| sB h1<| b8 rfl<| qB (by show _+2<=_;lia)<| W6 rfl<| sB h2<| qB (by rw[zd];show _+2+_<=_;lia)<| j8 q
theorem gh(h:smI i)(q:Q (.str (ofL (nmL i))) G):Wp (Q6 [.int i]) G Q:=
 j9<| o6 (X1:= [some (.int i)]) rfl<| d8.mpr<| M8<| b8 rfl ⟨λ_=>o4<| W6 rfl<| sB h<| j8 q,λz=>nomatch z⟩
theorem dJ(h:∀i,a=some i->smI i)(q:Q (.str (ofL (oL a))) G):Wp (T5 [S9 a]) G Q:=by
 rcases a with _|i
 ·exact U0 rfl q
 ·exact j9<| o4<| lR rfl<| g8 rfl rfl<| gh (h i rfl)<| j8 q
theorem Fm(h:smR r)(hn:r≠(none,none))(q:Q (.str (ofL (swL r))) G):Wp (X5 [S9 r.1,S9 r.2]) G Q:=by
 obtain⟨a,b⟩:=r;have ends:∀ {a b:Option Int},smR (a,b)->∀ {Q:DPP},Q (.str (ofL (oL a++[46,46]++oL b))) G->Wp ((binE addD (binE addD (H0 T5 c0) (cSt "..")) (H0 T5 g0)) [some (S9 a),some (S9 b)]) G Q:=λ{a b} h {Q} q=>by
  have l1:(oL a).length<=41:=by
   rcases a with _|a
   ·decide
   ·exact B4 (h.1 a rfl)
  have l2:(oL b).length<=41:=by
   rcases b with _|b
   ·decide
   ·exact B4 (h.2 b rfl)
  exact j4<| j4<| g8 rfl rfl<| dJ h.1<| b8 rfl<| qB (by show _+2<=_;lia)<| g8 rfl rfl<| dJ h.2<| qB (by rw[zd];show _+2+_<=_;lia) q
 refine j9 (show Wp (o9 _ [some (S9 a),some (S9 b)]) G _ from o4<| AA.mpr<| v6<| j4<| b8 rfl<| b8 rfl ?_);rcases a with _|a<;>rcases b with _|b
 ·exact absurd rfl hn
 ·exact b8 rfl ⟨_,rfl,by rw[if_neg zz];exact ends h (j8 q)⟩
 ·refine b8 rfl ⟨_,rfl,?_⟩;rw[if_neg zz];exact ends h (j8 (by rw[show oL none= []from rfl,jH];exact q))
 · refine u7.mpr ⟨_,rfl,?_⟩;by_cases k:a=b
   ·rw[decide_eq_true k,if_pos rfl];rw[show swL (some a,some b)=nmL a from if_pos k]at q;exact g8 rfl rfl<| dJ h.1<| j8 q
   ·rw[decide_eq_false k,if_neg zz];rw[show swL (some a,some b)=nmL a++[46,46]++nmL b from if_neg k]at q;exact ends h (j8 q)
end
def tD:D->D
 | .str z=>.tup [.int z.length,.str z]
 |_=>.non
def txB(a b:Str):Bool:=if a.length=b.length then decide (a.cps.toList<b.cps.toList)else decide (a.length<b.length)
theorem DY(h:z.length<=zi):Wp (J9 [.str z]) G Q↔Q (tD (.str z)) G:=by unfold J9 pJ;have s0:([D.str z].map some++jI (1 - [D.str z].length) none:DSt)= [some (.str z)]:=rfl;simp only[y7,s0,A6,M9,U5,O2,o8,R7,zQ,exists_eq_left',zG,NC h];exact⟨λq=>q.2,λq=>⟨sz,q⟩⟩
abbrev wOf:Str:= "of"
abbrev dj:Str:= "but"
theorem cR(z:Str)(d:D):∀l:List (Key×D),J1 (l.map λkv=>if kv.1= .inr z then (kv.1,d)else kv)=J1 l
 |[]=>rfl
 |(k,v)::r=>by
  have ih:=cR z d r;rw[zH];have e:(if ((k,v):Key×D).1= .inr z then (((k,v):Key×D).1,d)else (k,v)).1=k:=by split<;>rfl
  generalize (if ((k,v):Key×D).1= .inr z then (((k,v):Key×D).1,d)else (k,v))=p at e;obtain⟨k',v'⟩:=p
  cases e
  cases k' with
  |inl i=>rfl
  |inr y=>simp only[J1,ih]
theorem PR(z:Str)(d:D):∀l ss,J1 l=some ss->J1 (l++[(.inr z,d)])=some (ss++[z])
 |[],ss,h=>by cases h;rfl
 |(.inl i,v)::r,ss,h=>by cases h
 |(.inr y,v)::r,ss,h=>by
  unfold J1 at h
  cases hr:J1 r with
  |none=>rw[hr]at h;cases h
  |some t=>
    rw[hr]at h
    cases h
    rw[List.cons_append];unfold J1;rw[PR z d r t hr];rfl
def Tx(z:Str):Prop:=gR z=true/\z.length<=1000
def Ris(s:List Str):Prop:=s.Pairwise λa b=>txB a b=true
theorem aR(h1:txB a b=true)(h2:txB b c=true):txB a c=true:=by have:= @oA ((a.length:Int),a) ((b.length:Int),b) ((c.length:Int),c);unfold W2 at this;unfold txB at *;simp only[Int.ofNat_inj,Int.ofNat_lt]at this;exact this h1 h2
theorem sE(a:Str):txB a a=false:=by unfold txB;rw[if_pos rfl,decide_eq_false (List.lt_irrefl _)]
theorem KG(a b:Str):txB a b=W2 ((a.length:Int),a) ((b.length:Int),b):=by unfold txB W2;simp only[Int.ofNat_inj,Int.ofNat_lt]
theorem qQ:∀ {s t},Ris s->Ris t->(∀z,z∈s↔z∈t)->s=t
 |[], [],_,_,_=>rfl
 |[],b::t,_,_,h=>by have:=(h b).mpr (by simp);cases this
 |a::s, [],_,_,h=>by have:=(h a).mp (by simp);cases this
 |a::s,b::t,h1,h2,h=>by
   obtain⟨p1,p2⟩:=yH.mp h1;obtain⟨q1,q2⟩:=yH.mp h2;have e:a=b:=by
    rcases zr.mp ((h a).mp (by simp))with e|m
    ·exact e
    · rcases zr.mp ((h b).mpr (by simp))with e|m'
      ·exact e.symm
      ·have:=aR (q1 a m) (p1 b m');rw[sE]at this;cases this
   subst e;congr 1;refine qQ p2 q2 λz=>⟨λm=>?_,λm=>?_⟩
   · rcases zr.mp ((h z).mp (zl _ m))with e|m'
     ·subst e;have:=p1 z m;rw[sE]at this;cases this
     ·exact m'
   · rcases zr.mp ((h z).mpr (zl _ m))with e|m'
     ·subst e;have:=q1 z m;rw[sE]at this;cases this
     ·exact m'
abbrev wrd(b:Bool):Str:=if b then wOf else dj
def O8(b:Bool)(s:List Str):D:=.tup [.str (wrd b),.tup (s.map D.str)]
theorem dI:∀s t:List Str,eqL (eqN (n+1) G) (s.map D.str) (t.map D.str)=some (decide (s=t))
 |[], []=>by simp[eqL]
 |[],_::_=>by simp[eqL]
 |_::_, []=>by simp[eqL]
 |a::s,b::t=>by
   have e:eqN (n+1) G (.str a) (.str b)=some (a==b):=rfl;simp only[zH,eqL,e,dI s t,zQ];by_cases h1:a=b
   ·by_cases h2:s=t<;>simp[h1,h2]
   ·simp[h1]
def Mk(l:List (Key×D))(ks:List Str):Prop:=J1 l=some ks/\ks.Nodup
theorem oK:∀ {l} {ks} {z},J1 l=some ks->(t5 l (.inr z)).isSome=decide (z∈ks)
 |[],ks,z,h=>by cases h;rfl
 |(.inl i,v)::r,ks,z,h=>by cases h
 |(.inr x,v)::r,ks,z,h=>by
  unfold J1 at h
  cases hr:J1 r with
  |none=>rw[hr]at h;cases h
  |some t=>
    rw[hr]at h
    cases h
    have ih:=oK (z:=z) hr;unfold t5 at ih ⊢;rw[yN];by_cases hx:x=z
    ·subst hx;simp
    · have h1:decide ((Sum.inr x:Key)= .inr z)=false:=by simpa using hx
      have h2:¬z=x:=λe=>hx e.symm;simp only[h1];rw[ih];simp[h2]
theorem mV(h:J1 l=some ks):l.any (λkv=>decide (kv.1= .inr z))=decide (z∈ks):=by
 rw[<-oK h];unfold t5;rw[ZS]
 induction l generalizing ks with
 |nil=>rfl
 |cons kv r ih=>
   rw[jw,yN]
   cases hk:decide (kv.1= .inr z) with
   |true=>rfl
   |false=>
     obtain⟨k,v⟩:=kv
     cases k with
     |inl i=>cases h
     |inr x=>
       unfold J1 at h
       cases hr:J1 r with
       |none=>rw[hr]at h;cases h
       |some t=>rw[ih hr];rfl
theorem Vc(h:Mk l ks):Mk (fB l (.inr z) d) (if z∈ks then ks else ks++[z]):=by
 unfold fB;rw[mV h.1];by_cases hz:z∈ks
 ·simp only[hz,decide_true,if_true];exact⟨by rw[cR];exact h.1,h.2⟩
 ·simp only[hz,decide_false,zy,if_false];refine⟨PR z d l ks h.1,?_⟩;rw[XI];exact⟨h.2,by simp,λa ha b hb=>by rw[zm]at hb;subst hb;exact λe=>hz (by rw[<-e];exact ha)⟩
theorem gI:∀s:List Str,lA (s.map λz=>.tup [.str z,.bl true])=some (s.map λz=>(.inr z,.bl true))
 |[]=>rfl
 |a::r=>by simp only[zH,lA,CB,r8,gI r]
theorem rJ:∀(s:List Str) l ks,Mk l ks->∃ks',Mk (LC l (s.map λz=>(.inr z,.bl true))) ks'/\(∀z,z∈ks'↔z∈ks\/z∈s)/\ks'.length<=ks.length+s.length
 |[],l,ks,h=>⟨ks,h,by simp,by simp⟩
 |a::r,l,ks,h=>by
   obtain⟨ks',h1,h2,h3⟩:=rJ r _ _ (Vc h);refine⟨ks',h1,λz=>?_,?_⟩
   · rw[h2 z];by_cases ha:a∈ks
     · simp only[ha,if_true,zr];constructor
       · rintro(h|h)
         ·exact .inl h
         ·exact .inr (.inr h)
       · rintro(h|rfl|h)
         ·exact .inl h
         ·exact .inl ha
         ·exact .inr h
     ·simp only[ha,if_false,zR,zr,or_assoc,zT,false_or]
   · by_cases ha:a∈ks
     ·simp only[ha,if_true]at h3;simp only[zu];omega
     ·simp only[ha,if_false,zd,jY]at h3;simp only[zu];omega
theorem MM(e:G[r]? =some (.lst l))(h:lA l=some ps):Wp (mB [.ref r]) G Q↔Q (.ref G.length) (G++[.dct (LC [] ps)]):=by unfold mB;simp only[d9,M5,e,Q0,DL.listOf,wp_pure,n9,h,M4]
theorem tH{s:List Str}{G:DH}(hl:s.length<=1000):Wp (nB [.tup (s.map D.str)]) G λx G'=>∃q l ks,x= .ref q/\G'[q]? =some (.dct l)/\Mk l ks/\(∀z,z∈ks↔z∈s)/\ks.length<=s.length/\Ap G G'/\G.length<=q:=by
 have bg:=big;unfold nB AJ;have s0:([D.tup (s.map D.str)].map some++jI (1 - [D.tup (s.map D.str)].length) none:DSt)= [some (.tup (s.map D.str))]:=rfl;simp only[y7,s0,A6,U5,O2,o8];rw[Hg (λσ=>σ.length=1) rfl (by show (s.map D.str).length<=_;rw[zf];omega) rfl rfl (λx hx σ hσ=>?_)]
 · have e:(s.map D.str).map (λx=>D.tup [x,.bl true])=s.map λz=>.tup [.str z,.bl true]:=by rw[jg];rfl
   show Wp (mB [.ref G.length]) (G++[.lst ((s.map D.str).map λx=>D.tup [x,.bl true])]) _;rw[e,MM f9 (gI s)];obtain⟨ks',h1,h2,h3⟩:=rJ s [] [] ⟨rfl,by simp⟩;exact⟨_,_,ks',rfl,f9,h1,by simpa using h2,by simpa using h3,Ap.one.trans Ap.one,by simp⟩
 · match σ,hσ with
   |[u],_=>
     refine⟨[some x],rfl,rfl,rfl,W4 ?_⟩;simp only[M9,O2,o8,x5,R7,zG,zQ,exists_eq_left'];exact⟨sz,by first|rfl|trivial,trivial⟩
theorem gQ(e:G[q]? =some (.dct l))(h:J1 l=some ks):inB (.str z) (.ref q) G=some (decide (z∈ks)):=by unfold inB;simp only[e,r8,Zq,oK h]
theorem IP{s:List Str}:((s.map D.str).filter λx=>match x with| .str z=>p z|_=>false)= (s.filter p).map D.str:=by rw[List.filter_map];rfl
theorem Vf{s t:List Str}{G:DH}(hs:s.length<=1000)(ht:t.length<=1000):Wp (LD [.tup (s.map D.str),.tup (t.map D.str)]) G λx G'=>x= .tup ((s.filter λz=>decide (z∈t)).map D.str)/\Ap G G':=by
 have bg:=big;unfold LD kK;have s0:([D.tup (s.map D.str),.tup (t.map D.str)].map some++jI (3 - [D.tup (s.map D.str),.tup (t.map D.str)].length) none:DSt)= [some (.tup (s.map D.str)),some (.tup (t.map D.str)),none]:=rfl;simp only[y7,s0,d8,B7,J8,A6,U5,O2,o8,R7,V1,wp_comp,wp_itW,srcW_tup,yn,ye,zG,zW,zQ,exists_eq_left'];refine⟨rfl,Wp.mono (tH ht) λx G1 ⟨q,l,ks,ex,e1,mk,mm,_,a1,_⟩=>?_⟩;subst ex;refine⟨by rw[zf];omega,?_⟩;have hc:J7 P2 (tBn inD c0 g0) c0 (λ_=>true) (s.map D.str) (Z8 [none,some 2] [some (.tup (s.map D.str)),some (.tup (t.map D.str)),sRf q]) G1=some (.ok ((s.map D.str).filter λx=>match x with| .str z=>decide (z∈t)|_=>false),G1):=by refine uK rfl (λσ=>∃u,σ= [u,sRf q]) _ _ ⟨none,rfl⟩ λx hx σ hσ=>?_;obtain⟨z,hz,rfl⟩:=zM.mp hx;obtain⟨u,rfl⟩:=hσ;refine⟨[some (.str z),sRf q],rfl,⟨_,rfl⟩,W4 ?_,rfl⟩;simp only[cA,l4,R7,zG,zW,zQ,exists_eq_left',OV,gQ e1 mk.1,OB];refine⟨?_,trivial⟩;simp only[mm]
 refine(vA hc).mpr ?_;rw[W3 f9,IP];exact⟨rfl,a1.trans Ap.one⟩
theorem tP{s t:List Str}{G:DH}(hs:s.length<=1000)(ht:t.length<=1000):Wp (GC [.tup (s.map D.str),.tup (t.map D.str)]) G λx G'=>x= .tup ((s.filter λz=> !decide (z∈t)).map D.str)/\Ap G G':=by
 have bg:=big;unfold GC SJ;have s0:([D.tup (s.map D.str),.tup (t.map D.str)].map some++jI (3 - [D.tup (s.map D.str),.tup (t.map D.str)].length) none:DSt)= [some (.tup (s.map D.str)),some (.tup (t.map D.str)),none]:=rfl;simp only[y7,s0,d8,B7,J8,A6,U5,O2,o8,R7,V1,wp_comp,wp_itW,srcW_tup,yn,ye,zG,zW,zQ,exists_eq_left'];refine⟨rfl,Wp.mono (tH ht) λx G1 ⟨q,l,ks,ex,e1,mk,mm,_,a1,_⟩=>?_⟩;subst ex;refine⟨by rw[zf];omega,?_⟩;have hc:J7 P2 (tBn qC c0 g0) c0 (λ_=>true) (s.map D.str) (Z8 [none,some 2] [some (.tup (s.map D.str)),some (.tup (t.map D.str)),sRf q]) G1=some (.ok ((s.map D.str).filter λx=>match x with| .str z=> !decide (z∈t)|_=>false),G1):=by refine uK rfl (λσ=>∃u,σ= [u,sRf q]) _ _ ⟨none,rfl⟩ λx hx σ hσ=>?_;obtain⟨z,hz,rfl⟩:=zM.mp hx;obtain⟨u,rfl⟩:=hσ;refine⟨[some (.str z),sRf q],rfl,⟨_,rfl⟩,W4 ?_,rfl⟩;simp only[cA,l4,R7,zG,zW,zQ,exists_eq_left',Mm,gQ e1 mk.1,OB];refine⟨?_,trivial⟩;simp only[mm]
 refine(vA hc).mpr ?_;rw[W3 f9,IP];exact⟨rfl,a1.trans Ap.one⟩
theorem rM:∀(s:List Str) G,(∀z∈s,z.length<=zi)->Q9 J9 (s.map D.str) G=some (.ok (s.map λz=>tD (.str z)),G)
 |[],G,_=>rfl
 |a::r,G,h=>by have h1:noX (J9 [.str a]) G=some (.ok (tD (.str a)),G):=W4 (uB.mpr ((DY (h a (by simp))).mpr ⟨rfl,rfl⟩));have h2:=rM r G λz hz=>h z (by simp[hz]);show (noX (J9 [.str a]) >>= λk=>Q9 J9 (r.map D.str) >>= λks=>pure (k::ks)) G=_;rw[M.bind_ok h1,M.bind_ok h2];rfl
theorem KH:∀s:List Str,S4 pA (s.map λz=>tD (.str z))=some (s.map λz=>((z.length:Int),z))
 |[]=>rfl
 |a::r=>by simp only[zH,S4,KH r];rfl
theorem Tg(s:List Str):PC (s.map λz=>tD (.str z))=some (s.map λz=>((z.length:Int),z)):=by unfold PC;rw[KH]
theorem nP(nd:s.Nodup):∃m,A5 (s.map λz=>((z.length:Int),z)) (s.map D.str)=m.map D.str/\Ris m/\m.Perm s:=by
 have hz:(s.map λz=>(((z.length:Int),z):Int×Str)).zip (s.map D.str)=s.map λz=>(((z.length:Int),z),D.str z):=by rw[List.zip_map']
 have nd2:(s.map λz=>(((z.length:Int),z):Int×Str)).Nodup:=by rw[List.Nodup,jJ];exact nd.imp λ{a b} h e=>h (xI e).2
 let m:=s.mergeSort λa b=> !txB b a
 have hp:m.Perm s:=Zw _ _;have hs:m.Pairwise λa b=>(!txB b a)=true:=Yn (λa b c h1 h2=>by
  simp only[yK]at *;refine xJ.mpr λh=>?_;by_cases e:a=b
  ·subst e;rw[h]at h2;cases h2
  ·rw[KG]at h h1 h2;have:=oA h (GB (λz=>e (xI z).2.symm) h1);rw[this]at h2;cases h2) (λa b=>by
  by_cases e:a=b
  ·subst e;rw[sE];rfl
  · cases q:txB b a with
    |false=>rfl
    |true=>
      have:txB a b=false:=by refine xJ.mpr λh=>?_;have:=aR q h;rw[sE]at this;cases this
      rw[this];rfl) _
 refine⟨m,?_,?_,hp⟩
 · have e:=WH nd2 (z:=m.map λz=>(((z.length:Int),z),D.str z)) (by rw[hz];exact hp.map _) (by
    rw[jJ];refine hs.imp λ{a b} h=>?_;unfold A8;rw[<-KG];exact h)
   rw[<-e,jg];rfl
 ·have ndm:m.Nodup:=hp.nodup_iff.mpr nd;have:m.Pairwise λa b=>(!txB b a)=true/\a≠b:=List.Pairwise.and hs ndm;refine this.imp λ{a b} h=>?_;have h1:=h.1;simp only[yK]at h1;rw[KG]at h1 ⊢;exact GB (λz=>h.2 (xI z).2.symm) h1
theorem lM{l:List (Key×D)}(e:G[q]? =some (.dct l))(h:Mk l ks)(td:ks.length<64)(hz:∀z∈ks,z.length<=zi)(hq:∀m,Ris m->m.Perm ks->Q (.ref G.length) (G++[.lst (m.map D.str)])):Wp (IA J9 (.ref q)) G Q:=by
 obtain⟨m,e1,e2,e3⟩:=nP h.2;have nd2:(ks.map λz=>(((z.length:Int),z):Int×Str)).Nodup:=by rw[List.Nodup,jJ];exact h.2.imp λ{a b} h e=>h (xI e).2
 unfold IA;simp only[d9,M5,e,Q0,n9,h.1,if_pos td,cB];refine(vA (rM ks G hz)).mpr ?_;rw[Tg];refine⟨_,rfl,?_⟩;rw[if_pos nd2,M4,e1];exact hq m e2 e3
theorem DN:Wp (RD F fe σ) G Q↔Wp (fe σ) G λx G1=>Wp (IA F x) G1 Q:=by unfold RD;simp only[d9]
theorem Sm{s:List Str}(hs:s.length<64)(hz:∀z∈s,Tx z):Wp (M3 [.tup (s.map D.str)]) G λx G'=>∃m,x= .tup (m.map D.str)/\Ris m/\(∀z,z∈m↔z∈s)/\m.length<=s.length/\Ap G G':=by have bg:=big;unfold M3 lJ;have s0:([D.tup (s.map D.str)].map some++jI (1 - [D.tup (s.map D.str)].length) none:DSt)= [some (.tup (s.map D.str))]:=rfl;simp only[y7,s0,A6,U5,O2,o8,R7,V1,DN,zG,zQ,exists_eq_left'];refine⟨rfl,Wp.mono (tH (by omega)) λx G1 ⟨q,l,ks,ex,e1,mk,mm,hl,a1,_⟩=>?_⟩;subst ex;refine lM e1 mk (by omega) (λz ul=>zS (hz z ((mm z).mp ul)).2 (by omega)) λm r p=>?_;rw[W3 f9];exact⟨m,rfl,r,λz=>by rw[p.mem_iff,mm],by rw[p.length_eq];exact hl,a1.trans Ap.one⟩
theorem fv{s t:List Str}(hs:s.length+t.length<64)(hz:∀z∈s,Tx z)(hz2:∀z∈t,Tx z):Wp (QD [.tup (s.map D.str),.tup (t.map D.str)]) G λx G'=>∃m,x= .tup (m.map D.str)/\Ris m/\(∀z,z∈m↔z∈s\/z∈t)/\m.length<=s.length+t.length/\Ap G G':=by
 have bg:=big;unfold QD wI;have s0:([D.tup (s.map D.str),.tup (t.map D.str)].map some++jI (2 - [D.tup (s.map D.str),.tup (t.map D.str)].length) none:DSt)= [some (.tup (s.map D.str)),some (.tup (t.map D.str))]:=rfl;simp only[y7,s0,A6,U5,O2,o8,R7,l4,V1,zG,zW,zQ,exists_eq_left'];rw[UO (by rw[zf,zf];omega),<-zY];refine⟨rfl,Wp.mono (Sm (by rw[zd];exact hs) (λz ul=>?_)) λx G1 ⟨m,e,r,mm,hl,a⟩=>⟨m,e,r,λz=>by rw[mm,zR],by rw[zd]at hl;exact hl,a⟩⟩;rcases zR.mp ul with h|h
 ·exact hz z h
 ·exact hz2 z h
def inT(b:Bool)(s:List Str)(z:Str):Prop:=if b then z∈s else z∉s
structure Rw(s:List Str):Prop where
 ris:Ris s
 tx:∀z∈s,Tx z
 len:s.length<64
def cX(b c:Bool)(s t:List Str)(G:DH)(x:D)(G':DH):Prop:=∃m,x=O8 (b||c) m/\Ris m/\(∀z,inT (b||c) m z↔inT b s z/\inT c t z)/\(∀z∈m,z∈s\/z∈t)/\m.length<=s.length+t.length/\Ap G G'
theorem aI(h:Ris s):Ris (s.filter p):=h.sublist List.filter_sublist
theorem oM(b:Bool):(wrd b==wOf)=b:=by cases b<;>decide
theorem VV{s t:List Str}(hs:Rw s)(ht:Rw t)(hst:s.length+t.length<64):Wp (Z1 [O8 b s,O8 c t]) G (cX b c s t G):=by
 have l1:=hs.len;have l2:=ht.len;unfold Z1 EI;have s0:([O8 b s,O8 c t].map some++jI (2 - [O8 b s,O8 c t].length) none:DSt)= [some (.tup [.str (wrd b),.tup (s.map D.str)]),some (.tup [.str (wrd c),.tup (t.map D.str)])]:=rfl;simp only[y7,s0,d8,sC,wG,cA,A6,M9,U5,O2,o8,R7,l4,x5,V1,t7,zG,zW,zQ,exists_eq_left',ix_tup,at0,at1,uH,OB,oM]
 cases b<;>cases c<;>simp only[zy,if_false,if_true]
 ·refine⟨rfl,Wp.mono (fv (by omega) hs.tx ht.tx) λx G1 ⟨m,e,r,mm,hl,a⟩=>?_⟩;subst e;refine⟨sz,m,rfl,r,λz=>?_,λz hz=>(mm z).mp hz,hl,a⟩;simp only[inT,Xo,zy,if_false,mm];exact not_or
 ·refine⟨rfl,Wp.mono (tP (by omega) (by omega)) λx G1 ⟨e,a⟩=>?_⟩;subst e;refine⟨sz,_,rfl,aI ht.ris,λz=>?_,λz hz=>.inr (yL.mp hz).1,zS (YN _ _) (by omega),a⟩;simp only[inT,Bool.or_true,zy,if_false,if_true,yL,yK,decide_eq_false_iff_not];exact And.comm
 ·refine⟨rfl,Wp.mono (tP (by omega) (by omega)) λx G1 ⟨e,a⟩=>?_⟩;subst e;refine⟨sz,_,rfl,aI hs.ris,λz=>?_,λz hz=>.inl (yL.mp hz).1,zS (YN _ _) (by omega),a⟩;simp only[inT,Xo,zy,if_false,if_true,yL,yK,decide_eq_false_iff_not]
 ·refine⟨rfl,Wp.mono (Vf (by omega) (by omega)) λx G1 ⟨e,a⟩=>?_⟩;subst e;refine⟨sz,_,rfl,aI hs.ris,λz=>?_,λz hz=>.inl (yL.mp hz).1,zS (YN _ _) (by omega),a⟩;simp only[inT,Bool.or_self,if_true,yL,decide_eq_true_eq]
theorem DK{b:Bool}{ss:List Str}{G:DH}:dC [O8 b ss] G=some (.ok (O8 (!b) ss),G):=by cases b<;>rfl
theorem kI{b:Bool}{s:List Str}{z:Str}:inT (!b) s z↔¬inT b s z:=by
 unfold inT
 cases b
 ·simp
 ·simp
theorem hZ{b c:Bool}{s t:List Str}{G:DH}(hs:Rw s)(ht:Rw t)(hst:s.length+t.length<64):Wp (fF [O8 b s,O8 c t]) G λx G'=>∃m,x=O8 (b&&c) m/\Ris m/\(∀z,inT (b&&c) m z↔inT b s z\/inT c t z)/\(∀z∈m,z∈s\/z∈t)/\m.length<=s.length+t.length/\Ap G G':=by
 refine j9 (show Wp (rF [some (O8 b s),some (O8 c t)]) G _ from ?_);unfold rF;refine o4<| R9<| j7<| R9<| j7<| g8 rfl rfl<| b8 DK<| j7<| g8 rfl rfl<| b8 DK<| o8.mpr<| V1.mpr ⟨rfl,(VV hs ht hst).mono ?_⟩;rintro _ G1 ⟨m,rfl,r,sm,sub,ln,a⟩;have eb:(!(!b||!c))= (b&&c):=by cases b<;>cases c<;>rfl
 refine o8.mpr<| V1.mpr ⟨rfl,b8 DK<| j8 ⟨m,by rw[eb],r,λz=>?_,sub,ln,a⟩⟩;rw[<-eb,kI,sm z,kI,kI];exact⟨λh=>jr λn=>h ⟨λk=>n (.inl k),λk=>n (.inr k)⟩,λh n=>h.elim n.1 n.2⟩
structure PS where
 ns:List Rg
 b:Bool
 ts:List Str
 f:Bool
 t:Bool
def trD(f t:Bool):D:=.tup ((if f then [.bl false]else [])++if t then [.bl true]else [])
def sP(s:PS):D:=.tup [.tup (rsD s.ns),O8 s.b s.ts,trD s.f s.t,.non,.non]
structure OkP(s:PS):Prop where
 can:Can s.ns
 rw:Rw s.ts
abbrev Cw:D:=.tup [.tup [.tup [.non,.non]],.tup [.str ("but" :Str),.tup []],.tup [.bl false,.bl true],.tup [.tup [],.str ("any" :Str)],.tup [.tup [],.str ("any" :Str)]]
section
variable{G:DH}{Q:DPP}
theorem bp:eqN 39 G (.tup (rsD l)) (.tup [.tup [.non,.non]])=some (decide (l= [(none,none)])):=by
 rcases l with _|⟨⟨a,b⟩,_|⟨q,r⟩⟩
 ·rfl
 ·rcases a with _|a<;>rcases b with _|b<;>rfl
 ·rcases a with _|a<;>rcases b with _|b<;>rfl
theorem Ng:∃k,eqN 39 G (O8 b s) (O8 c t)=some k:=by have e1:eqN 38 G (.tup (s.map D.str)) (.tup (t.map D.str))=some (decide (s=t)):=dI s t;have e2:eqN 38 G (.str (wrd b)) (.str (wrd c))=some (wrd b==wrd c):=rfl;have e3:eqN 39 G (O8 b s) (O8 c t)=eqL (eqN 38 G) [.str (wrd b),.tup (s.map D.str)] [.str (wrd c),.tup (t.map D.str)]:=rfl;rw[e3];simp only[eqL,e1,e2];exact⟨_,rfl⟩
theorem RX:eqN 40 G (sP s) Cw=some false:=by
 obtain⟨ns,b,ts,f,t⟩:=s;obtain⟨k,ek⟩:=Ng;have e3:∃k,eqN 39 G (trD f t) (.tup [.bl false,.bl true])=some k:=by cases f<;>cases t<;>exact⟨_,rfl⟩
 obtain⟨k3,e3⟩:=e3;show eqL (eqN 39 G) [.tup (rsD ns),O8 b ts,trD f t,.non,.non] [.tup [.tup [.non,.non]],O8 false [],.tup [.bl false,.bl true],.tup [.tup [],.str ("any" :Str)],.tup [.tup [],.str ("any" :Str)]]=_;rw[w8,w8,w8,bp,ek,e3,show eqL (eqN 39 G) [.non,.non] [.tup [.tup [],.str ("any" :Str)],.tup [.tup [],.str ("any" :Str)]]=some false from rfl];simp
theorem UF(q:Q (sP s) G):Wp (B9 [.tup (rsD s.ns),O8 s.b s.ts,trD s.f s.t,.non,.non]) G Q:=by refine j9<| o6 (X1:= [some (.tup (rsD s.ns)),some (O8 s.b s.ts),some (trD s.f s.t),some .non,some .non,some (sP s)]) rfl<| o4<| AA.mpr<| v6<| j4<| b8 rfl<| b8 rfl<| kA.mpr ⟨_,RX,_,rfl,?_⟩;rw[if_neg zz];exact b8 rfl<| j8 q
structure VL(s u m:PS):Prop where
 ok:OkP m
 ns:∀x,inS m.ns x↔inS s.ns x\/inS u.ns x
 b:m.b= (s.b&&u.b)
 ts:∀z,inT m.b m.ts z↔inT s.b s.ts z\/inT u.b u.ts z
 f:m.f= (s.f||u.f)
 t:m.t= (s.t||u.t)
 ln:m.ns.length<=s.ns.length+u.ns.length
 lt:m.ts.length<=s.ts.length+u.ts.length
theorem Bf:J7 P2 (orT (tBn inD c0 (ixE g0 E1)) (tBn inD c0 (ixE y0 E1))) c0 (λ_=>true) [.bl false,.bl true] [none,some (sP s),some (sP u)] G=some (.ok ((if s.f||u.f then [.bl false]else [])++if s.t||u.t then [.bl true]else []),G):=by
 obtain⟨ns,b,ts,f,t⟩:=s;obtain⟨ms,c,us,f',t'⟩:=u
 cases f<;>cases t<;>cases f'<;>cases t'<;>rfl
theorem Mj(ha:OkP a)(hb:OkP b)(hl:a.ns.length+b.ns.length<64)(ht:a.ts.length+b.ts.length<64)(q:∀m G',VL a b m->Ap G G'->Q (sP m) G'):Wp (dH [sP a,sP b]) G Q:=by
 have bg:=big;have e0:rsD a.ns++rsD b.ns=rsD (a.ns++b.ns):=(zY ..).symm;have hz:(rsD a.ns).length+(rsD b.ns).length<=zi:=by rw[HA,HA];lia
 refine j9 (show Wp (qJ [some (sP a),some (sP b)]) G _ from o6 rfl ?_);refine o4<| R9<| j7<| R9<| j7<| R9<| j7<| j4<| b8 rfl<| b8 rfl<| (UO hz).mpr<| o8.mpr<| aV.mpr<| o8.mpr<| V1.mpr ⟨rfl,?_⟩;rw[e0];refine QW (λp hp=>(zR.mp hp).elim (ha.can.1 p) (hb.can.1 p)) f9 (by rw[zd];exact hl) λm G1 s hm a1=>?_;rw[zd]at hm;refine j7<| g8 rfl rfl<| (hZ ha.rw hb.rw ht).mono ?_;rintro _ G2 ⟨ts,rfl,r,it,sub,ltn,a2⟩;refine j7<| R9<| j7<| iE rfl (by decide)<| b8 (Bf)<| o8.mpr<| (W3 f9).mpr ?_;refine b8 rfl<| V1.mpr ⟨rfl,UF (s:=⟨m,a.b&&b.b,ts,a.f||b.f,a.t||b.t⟩)<| j8<| q _ _ ⟨⟨s.1,⟨r,λz hz=>(sub z hz).elim (ha.rw.tx z) (hb.rw.tx z),by lia⟩⟩,λx=>by rw[s.2 x,DF],rfl,it,rfl,rfl,hm,ltn⟩ (((Ap.one.trans a1).trans a2).trans Ap.one)⟩
end
def evL:List D->List D
 |a::_::r=>a::evL r
 |l=>l
def odL:List D->List D
 |_::b::r=>b::odL r
 |_=> []
theorem cS(n:Nat):i8 n (some 0) none (some 2)= (zE ((n+1) / 2)).map λk=>2*k:=by
 unfold i8 yZ sliceRange;have hc:(if (2:Int)>0 then (if max 0 (min (0:Int) n)<(n:Int)then ((n:Int)-max 0 (min (0:Int) n)+2-1) / 2 else 0)else (if max 0 (min (0:Int) n)>(n:Int)then (max 0 (min (0:Int) n)-(n:Int)-2-1) / (-2)else 0)).toNat= (n+1) / 2:=by rw[if_pos (by decide)];split<;>lia
 show (zE (if (2:Int)>0 then (if max 0 (min (0:Int) n)<(n:Int)then ((n:Int)-max 0 (min (0:Int) n)+2-1) / 2 else 0)else (if max 0 (min (0:Int) n)>(n:Int)then (max 0 (min (0:Int) n)-(n:Int)-2-1) / (-2)else 0)).toNat).map (λk:Nat=>(max 0 (min (0:Int) n)+2*(k:Int)).toNat)=_;rw[hc];refine ym λk _=>?_;lia
theorem Lc(n:Nat):i8 n (some 1) none (some 2)= (zE (n / 2)).map λk=>2*k+1:=by
 unfold i8 yZ sliceRange;have hc:(if (2:Int)>0 then (if max 0 (min (1:Int) n)<(n:Int)then ((n:Int)-max 0 (min (1:Int) n)+2-1) / 2 else 0)else (if max 0 (min (1:Int) n)>(n:Int)then (max 0 (min (1:Int) n)-(n:Int)-2-1) / (-2)else 0)).toNat=n / 2:=by rw[if_pos (by decide)];split<;>lia
 show (zE (if (2:Int)>0 then (if max 0 (min (1:Int) n)<(n:Int)then ((n:Int)-max 0 (min (1:Int) n)+2-1) / 2 else 0)else (if max 0 (min (1:Int) n)>(n:Int)then (max 0 (min (1:Int) n)-(n:Int)-2-1) / (-2)else 0)).toNat).map (λk:Nat=>(max 0 (min (1:Int) n)+2*(k:Int)).toNat)=_;rw[hc];refine ym λk hk=>?_;have:=jn.mp hk;lia
theorem dS:∀l:List D,((zE ((l.length+1) / 2)).map λk=>2*k).filterMap (l[·]?)=evL l
 |[]=>rfl
 |[a]=>by rw[show ([a].length+1) / 2=1 by simp];rfl
 |a::b::r=>by
   have e:((a::b::r).length+1) / 2= (r.length+1) / 2+1:=by simp only[zu];lia
   rw[e,yQ,zH,jF];show a::_=a::evL r;congr 1;rw[<-dS r,jg,yo,yo];rfl
theorem OR:∀l:List D,((zE (l.length / 2)).map λk=>2*k+1).filterMap (l[·]?)=odL l
 |[]=>rfl
 |[a]=>by rw[show [a].length / 2=0 by simp];rfl
 |a::b::r=>by
   have e:(a::b::r).length / 2=r.length / 2+1:=by simp only[zu];lia
   rw[e,yQ,zH,jF];show b::_=b::odL r;congr 1;rw[<-OR r,jg,yo,yo];rfl
theorem MN(l:List D):bA l (some 0) none (some 2)=evL l:=by unfold bA;rw[cS,dS]
theorem ph(l:List D):bA l (some 1) none (some 2)=odL l:=by unfold bA;rw[Lc,OR]
structure D4(L:List PS)(m:PS):Prop where
 ok:OkP m
 ns:∀x,inS m.ns x↔∃s∈L,inS s.ns x
 b:m.b=L.all (·.b)
 ts:∀z,inT m.b m.ts z↔∃s∈L,inT s.b s.ts z
 f:m.f=L.any (·.f)
 t:m.t=L.any (·.t)
theorem M7{L:List α}{P:α->Prop}:(∃s∈a::L,P s)↔P a\/∃s∈L,P s:=by
 constructor
 · rintro⟨s,hs,h⟩;rcases zr.mp hs with rfl|hs
   ·exact .inl h
   ·exact .inr ⟨s,hs,h⟩
 · rintro(h|⟨s,hs,h⟩)
   ·exact⟨a,zv ..,h⟩
   ·exact⟨s,zl _ hs,h⟩
theorem D4.one(h:OkP s):D4 [s] s:=by have no:∀ {P:PS->Prop},¬∃u∈([]:List PS),P u:=fun⟨_,h,_⟩=>nomatch h;exact⟨h,λx=>⟨λk=>M7.mpr (.inl k),λk=>(M7.mp k).elim id λz=>absurd z no⟩,by simp,λz=>⟨λk=>M7.mpr (.inl k),λk=>(M7.mp k).elim id λz=>absurd z no⟩,by simp,by simp⟩
inductive Rnd:List PS->List PS->Prop
 |nil:Rnd [] []
 |one {a:PS}:Rnd [a] [a]
 |two {a b m:PS} {r s:List PS} (h:VL a b m) (k:Rnd r s):Rnd (a::b::r) (m::s)
def i6(L:List PS):Nat:=(L.map λs=>s.ns.length).sum
def c6(L:List PS):Nat:=(L.map λs=>s.ts.length).sum
theorem iC:i6 (a::L)=a.ns.length+i6 L:=rfl
theorem QB:c6 (a::L)=a.ts.length+c6 L:=rfl
structure EqU(L M:List PS):Prop where
 ns:∀x,(∃s∈M,inS s.ns x)↔∃s∈L,inS s.ns x
 b:M.all (·.b)=L.all (·.b)
 ts:∀z,(∃s∈M,inT s.b s.ts z)↔∃s∈L,inT s.b s.ts z
 f:M.any (·.f)=L.any (·.f)
 t:M.any (·.t)=L.any (·.t)
theorem Rnd.facts0{L M:List PS}(h:Rnd L M):EqU L M/\i6 M<=i6 L/\c6 M<=c6 L/\M.length= (L.length+1) / 2/\((∀l∈L,OkP l)->∀l∈M,OkP l):=by
 induction h with
 |nil=>exact⟨⟨λ_=>.rfl,rfl,λ_=>.rfl,rfl,rfl⟩,zh _,zh _,rfl,λh=>h⟩
 |one=>exact⟨⟨λ_=>.rfl,rfl,λ_=>.rfl,rfl,rfl⟩,zh _,zh _,by simp,λh=>h⟩
 |@two a b m r s h k ih=>
   obtain⟨e,h2,h2',h3,h4⟩:=ih;have l1:=h.ln;have l2:=h.lt;refine⟨⟨λx=>?_,?_,λz=>?_,?_,?_⟩,?_,?_,?_,λhc l hm=>?_⟩
   ·rw[M7,M7,M7,h.ns x,e.ns x,or_assoc]
   ·rw[jX,jX,jX,h.b,e.b,Bool.and_assoc]
   ·rw[M7,M7,M7,h.ts z,e.ts z,or_assoc]
   ·rw[jw,jw,jw,h.f,e.f,Bool.or_assoc]
   ·rw[jw,jw,jw,h.t,e.t,Bool.or_assoc]
   ·rw[iC,iC,iC];lia
   ·rw[QB,QB,QB];lia
   ·simp only[zu,h3];lia
   · rcases zr.mp hm with rfl|hm
     ·exact h.ok
     ·exact h4 (λy hy=>hc y (zl _ (zl _ hy))) l hm
theorem Rnd.facts{L M:List PS}(h:Rnd L M):(∀m,D4 M m->D4 L m)/\i6 M<=i6 L/\c6 M<=c6 L/\M.length= (L.length+1) / 2/\((∀l∈L,OkP l)->∀l∈M,OkP l):=by obtain⟨e,r⟩:=h.facts0;exact⟨λm k=>⟨k.ok,λx=>by rw[k.ns x,e.ns x],by rw[k.b,e.b],λz=>by rw[k.ts z,e.ts z],by rw[k.f,e.f],by rw[k.t,e.t]⟩,r⟩
def JAA:DSt->M (List D):=(M0 (LA g0 (T6 A0) (c8) (T6 E1)) (LA g0 (T6 i0) (c8) (T6 E1)))
def JAB:Fs:=(asQ (M6 (D8 JAA) [none,none] g01 (V4) JAE) T0 (v7 (binE addD y0 (d6 g0 (T6 (binE F2 E1 (C0 lenF y0))) (c8))) N0))
theorem nr:lF=j5 (v7 (C0 nA c0) N0) (j5 (W0 JAT JAB) (o9 (ixE g0 A0))):=rfl
theorem dW(e:G[a]? =some (.lst l))(q:Q (.ref G.length) (G++[.lst l])):Wp (nA [.ref a]) G Q:=by show Wp (do let l <-K5 a >>= DL.listOf;J5 (.lst l)) G Q;exact d9.mpr<| d9.mpr<| M5.mpr ⟨_,e,wp_pure.mpr<| M4.mpr q⟩
theorem lV(e:fs σ G=some (.ok [.ref a,.ref b],G1))(ea:G1[a]? =some (.lst k))(eb:G1[b]? =some (.lst l))(q:R ⟨(k.zip l).map λp=>.tup [p.1,p.2],λG=>ckO a (.lst k) G&&ckO b (.lst l) G⟩ G1):Wp (D8 fs σ) G R:=by unfold D8;refine d9.mpr (b8 e ?_);show Wp (do let s1 <-(do let o <-K5 a;let l <-DL.listOf o;pure ⟨l,ckO a o⟩:M Src);let s2 <-(do let o <-K5 b;let l <-DL.listOf o;pure ⟨l,ckO b o⟩:M Src);pure ⟨(s1.items.zip s2.items).map λp=>.tup [p.1,p.2],λG=>s1.ck G&&s2.ck G⟩:M Src) G1 R;exact d9.mpr<| d9.mpr<| M5.mpr ⟨_,ea,d9.mpr<| wp_pure.mpr<| wp_pure.mpr<| d9.mpr<| d9.mpr<| M5.mpr ⟨_,eb,d9.mpr<| wp_pure.mpr<| wp_pure.mpr<| wp_pure.mpr q⟩⟩
section
variable{G:DH}{x:Option D}{q:Nat}
theorem ag(e:G[q]? =some (.lst l)):JAT [x,sRf q,u] G=some (.ok (decide ((l.length:Int)>1)),G):=W4<| v6<| j4<| W6 rfl<| (QJ e).mpr<| b8 rfl<| nz.mpr ⟨_,rfl,rfl,rfl⟩
theorem GY(e:G[q]? =some (.lst l)):JAA [x,sRf q,u] G=some (.ok [.ref G.length,.ref (G++[DO.lst (evL l)]).length],G++[.lst (evL l)]++[.lst (odL l)]):=by
 have:=(show Wp (JAA [x,sRf q,u]) G λds G'=>ds= [.ref G.length,.ref (G++[DO.lst (evL l)]).length]/\G'=G++[.lst (evL l)]++[.lst (odL l)] from
  j7<| fR.mpr<| b8 rfl<| b8 rfl<| b8 rfl<| b8 rfl<| (uQ e (by decide)).mpr<| by
   rw[MN];exact j7<| fR.mpr<| b8 rfl<| b8 rfl<| b8 rfl<| b8 rfl<| (uQ (v9 e) (by decide)).mpr<| by
    rw[ph];exact o8.mpr ⟨rfl,rfl⟩)
 obtain⟨a,G',e1,rfl,rfl⟩:=this;exact e1
theorem AM(sx:∀G',Ap G0 G'->ck G'=true):∀L u v G,Ap G0 G->(∀l∈L,OkP l)->i6 L<64/\c6 L<64->
 Wp (J7 g01 V4 JAE ck (((evL (L.map sP)).zip (odL (L.map sP))).map λp=>.tup [p.1,p.2]) [u,v]) G λys G'=>∃J,ys=J.map sP/\Rnd L (J++L.drop (2*J.length))/\J.length<=L.length/\Ap G0 G'
 |[],u,v,G,a0,hc,hl=>lD.mpr ⟨sx G a0, [],rfl,.nil,zh _,a0⟩
 |[a],u,v,G,a0,hc,hl=>lD.mpr ⟨sx G a0, [],rfl,.one,zL _,a0⟩
 |a::b::r,u,v,G,a0,hc,hl=>by
   obtain⟨hl,hl'⟩:=hl;rw[iC,iC]at hl;rw[QB,QB]at hl';have ca:=hc a (zv ..);have cb:=hc b (zl _ (zv ..));refine uG.mpr ⟨sx G a0,b8 rfl<| b8 rfl ?_⟩;rw[if_pos rfl];refine g8 rfl rfl<| Mj ca cb (by lia) (by lia) λm G1 s a1=>?_;refine(AM sx r _ _ G1 (a0.trans a1) (λl hl=>hc l (zl _ (zl _ hl))) (by lia)).mono ?_;rintro _ G2 ⟨J,rfl,rn,lj,a2⟩;refine⟨m::J,rfl,?_,by simp only[zu];lia,a2⟩;have e:2*(m::J).length=2*J.length+1+1:=by rw[zu];lia
   rw[e];exact .two s rn
theorem bj(e:G[q]? =some (.lst (L.map sP)))(hc:∀l∈L,OkP l)(hl:i6 L<64/\c6 L<64)(hn:L.length<=200):
 Wp (JAB [x,sRf q,u]) G λfl G'=>∃q' u' M,fl= .nx [x,sRf q',u']/\G'[q']? =some (.lst (M.map sP))/\Rnd L M:=by
 have bg:=big;have ea:(G++[DO.lst (evL (L.map sP))]++[DO.lst (odL (L.map sP))])[G.length]? =some (.lst (evL (L.map sP))):=v9 f9;have eb:(G++[DO.lst (evL (L.map sP))]++[DO.lst (odL (L.map sP))])[(G++[DO.lst (evL (L.map sP))]).length]? =some (.lst (odL (L.map sP))):=f9;have le:∀l:List D,(evL l).length<=l.length:=λl=>by
  rw[<-MN];unfold bA;refine zS (List.length_filterMap_le ..) ?_;rw[cS,zf,jZ];rcases l with _|⟨_,_⟩
  ·decide
  ·simp only[zu];lia
 have lz:(((evL (L.map sP)).zip (odL (L.map sP))).map λp=>D.tup [p.1,p.2]).length<=zi:=by have:=le (L.map sP);rw[zf]at this;rw[zf,List.length_zip];lia
 refine d8.mpr<| u0<| wp_comp.mpr<| lV (GY e) ea eb ⟨lz,(AM (λG' a=>by show (ckO _ _ G'&&ckO _ _ G')=true;rw[L5 (a.at ea),L5 (a.at eb)];rfl) L none none _ Ap.refl hc hl).mono ?_⟩;rintro _ G2 ⟨J,rfl,rn,lj,a2⟩;have e2:(G2++[DO.lst (J.map sP)])[q]? =some (.lst (L.map sP)):=v9 (a2.at (v9 (v9 e)));refine u0<| j4<| b8 rfl<| OE.mpr<| b8 rfl<| fQ.mpr<| j4<| b8 rfl<| W6 rfl<| (QJ f9).mpr<| (O3 (Or.inl ⟨by decide,by decide⟩)).mpr ⟨_,rfl,tO.mpr<| (TQ e2).mpr ?_⟩;have ec:DL.cutD (L.map sP) (some (2*((J.map sP).length:Int))) none= (L.drop (2*J.length)).map sP:=by rw[zf,show (2*(J.length:Int))= ((2*J.length:Nat):Int) by lia,Rx,List.map_drop]
 rw[ec];refine(rA (v9 f9) f9 (by rw[zf,zf,xp];lia)).mpr ⟨_,_,J++L.drop (2*J.length),rfl,?_,rn⟩;rw[f9,zY]
abbrev JAS(x:Option D)(n:Nat):Prop:=∀(L:List PS) (q:Nat) (u:Option D) (G:DH),L.length<=n+1->L≠ []->G[q]? =some (.lst (L.map sP))->(∀l∈L,OkP l)->i6 L<64/\c6 L<64->L.length<=200->
 Wp (K8 (n+1) JAT JAB [x,sRf q,u]) G λfl G'=>∃q' u' m,fl= .nx [x,sRf q',u']/\G'[q']? =some (.lst [sP m])/\D4 L m
theorem wP(ih:∀m,n=m+1->JAS x m):JAS x n:=by
 intro L q u G hn sf e hc hl h2;refine R6.mpr<| b8 (ag e) ?_;rw[zf];by_cases k:(L.length:Int)>1
 ·rw[decide_eq_true k,if_pos rfl];refine(bj e hc hl h2).mono ?_;rintro _ G1 ⟨q',u',M,rfl,e1,rn⟩;obtain⟨f1,f2,f2',f3,f4⟩:=rn.facts;obtain⟨m,rfl⟩:∃m,n=m+1:=⟨n-1,by lia⟩;refine(ih m rfl M q' u' G1 (by lia) (λz=>by rw[z]at f3;simp at f3;lia) e1 (f4 hc) ⟨by lia,by lia⟩ (by lia)).mono ?_;rintro _ G2 ⟨q2,u2,m,rfl,e2,im⟩;exact⟨q2,u2,m,rfl,e2,f1 m im⟩
 · rw[decide_eq_false k,if_neg zz];rcases L with _|⟨l,_|⟨_,_⟩⟩
   ·exact absurd rfl sf
   ·exact⟨q,u,l,rfl,e,D4.one (hc l (zv ..))⟩
   ·simp only[zu]at k;lia
theorem wQ:∀n:Nat,JAS x n
 |0=>wP λm z=>nomatch z
 |n+1=>wP λm z=>by cases z;exact wQ n
theorem IV(sf:L≠ [])(e:G[c]? =some (.lst (L.map sP)))(hc:∀l∈L,OkP l)(hl:i6 L<64/\c6 L<64)(h2:L.length<=200)(h:∀m G',D4 L m->Q (sP m) G'):Wp (mF [.ref c]) G Q:=by refine j9 (show Wp (lF [sRf c,none,none]) G _ from ?_);rw[nr];refine d8.mpr<| u0<| W6 rfl<| dW e<| d8.mpr<| wC<| (wQ L.length L _ none _ (Ju _) sf f9 hc hl h2).mono ?_;rintro _ G1 ⟨q',u',m,rfl,e1,im⟩;exact o4<| NT rfl rfl<| (F7 e1).mpr ⟨sP m,rfl,j8<| h m G1 im⟩
end
def sN(l:List Rg):D:=.tup [.tup (rsD l),.tup [.str ("of" :Str),.tup []],.tup [],.non,.non]
def K4(f:α->List Nat)(l:List α):List D:=l.map λx=>.str (ofL (f x))
theorem GM(f:α->List Nat):∀l:List α,L9 (K4 f l)=some (l.map λd=>ofL (f d))
 |[]=>rfl
 |x::r=>by have h:=GM f r;unfold K4 at h ⊢;rw[zH,zH,L9,h];rfl
section
variable{G:DH}{Q:DPP}
end
section
variable{G:DH}{Q:DPP}
theorem LY:eqN 40 G (sN l) (.tup [.tup [.tup [.non,.non]],.tup [.str ("but" :Str),.tup []],.tup [.bl false,.bl true],.tup [.tup [],.str ("any" :Str)],.tup [.tup [],.str ("any" :Str)]])=some false:=by
 rcases l with _|⟨⟨a,b⟩,_|⟨q,r⟩⟩
 ·rfl
 ·rcases a with _|a<;>rcases b with _|b<;>rfl
 ·rcases a with _|a<;>rcases b with _|b<;>rfl
theorem Ph(q:Q (sN l) G):Wp (B9 [.tup (rsD l),.tup [.str ("of" :Str),.tup []],.tup [],.non,.non]) G Q:=by refine j9<| o6 (X1:= [some (.tup (rsD l)),some (.tup [.str ("of" :Str),.tup []]),some (.tup []),some .non,some .non,some (sN l)]) rfl<| o4<| AA.mpr<| v6<| j4<| b8 rfl<| b8 rfl<| kA.mpr ⟨_,LY,_,rfl,?_⟩;rw[if_neg zz];exact b8 rfl<| j8 q
theorem RS(h:okR r):BF [S9 r.1,S9 r.2] G=some (.ok (.bl false),G):=by
 obtain⟨a,b⟩:=r;rcases a with _|a
 ·rfl
 · rcases b with _|b
   ·rfl
   ·have:=h a b rfl rfl;show some (Except.ok (D.bl (decide (a>b))),G)=_;rw[decide_eq_false (by lia)]
theorem lK(h:okR r)(q:Q (sN [r]) G):Wp (W7 [S9 r.1,S9 r.2]) G Q:=by refine j9<| o4<| lR ?_<| g8 (as:= [.tup (rsD [r]),.tup [.str ("of" :Str),.tup []],.tup [],.non,.non]) rfl rfl<| Ph<| j8 q;exact W4<| R1.mpr<| g8 rfl rfl<| b8 (RS h)<| O9.mpr ⟨rfl,rfl⟩
theorem Nc(q:Q (sN [(some i,some i)]) G):Wp (OA [.int i]) G Q:=
 j9<| o6 (X1:= [some (.int i)]) rfl<| d8.mpr<| M8<| b8 rfl ⟨λ_=>o4<| g8 rfl rfl<| lK (r:=(some i,some i)) (λa b e1 e2=>by cases e1;cases e2;exact Ye _)<| j8 q,λz=>nomatch z⟩
end
section
variable{T:Str}{G:DH}{Q:DPP}{P:Fl->DH->Prop}{i:Int}{ρ:DSt}
theorem R8(k:Z7 T p i=false)(w:Wp (Y (some (.str T)::some (.int i)::ρ)) G P):
 Wp (j5 (ifS (truthE (mtE isStrM startsD c0 (M0 (cE (.str p)) g0))) X t8) Y (some (.str T)::some (.int i)::ρ)) G P:=by
 refine d8.mpr<| M8<| tE<| K1 rfl rfl rfl ?_;rw[k];exact⟨rfl,λz=>(nomatch z),λ_=>t7.mpr w⟩
theorem pC(k:Z7 T p i=true)(w:Wp (e (some (.str T)::some (.int i)::ρ)) G λd G1=>P (.rt d) G1):
 Wp (j5 (ifS (truthE (mtE isStrM startsD c0 (M0 (cE (.str p)) g0))) (o9 e) t8) Y (some (.str T)::some (.int i)::ρ)) G P:=by
 refine d8.mpr<| M8<| C9<| K1 rfl rfl rfl ?_;rw[k];exact⟨rfl,λ_=>o4 w,λz=>nomatch z⟩
theorem noF{pre rest ps:List Nat}(h:tl T=pre++rest)(e:rest=d::r)(hp:tl p=c::ps)(k:d≠c):Z7 T p (pre.length:Int)=false:=
 dA h hp λx y z=>by rw[e]at z;rw[<-(zD z).1];exact k
theorem BH(i:Int):∃c r,nmL i=c::r/\(c=45\/48<=c/\c<=57):=by
 rcases UD i with⟨m,rfl⟩|⟨m,hm,rfl⟩
 · rw[VD];rcases k:dg m with _|⟨x,y⟩
   ·exact absurd k (E9 m)
   ·exact⟨x,y,rfl,.inr (wA m x (by rw[k];exact zv ..))⟩
 ·exact⟨45,_,KD m hm,.inl rfl⟩
theorem KY{pre post:List Nat}(hz:T.length<=zi)(hj:smI j)(h:tl T=pre++nmL j++post)(ho:KB 48 57 post)(q:Q (.tup [.int j,.int ((pre.length:Int)+(nmL j).length)]) G):Wp (TC [.str T,.int pre.length,.int 1]) G Q:=by
 obtain⟨c,r,e,hc⟩:=BH j;have h':tl T=pre++(c::(r++post)):=by rw[h,e,zJ];rfl
 refine j9 (show Wp (bE [some (.str T),some (.int pre.length),some (.int 1)]) G _ from o6 rfl ?_);refine R8 (noF h' rfl rfl (by lia))<| R8 (noF h' rfl rfl (by lia))<| R8 (noF h' rfl rfl (by lia))<| R8 (noF h' rfl rfl (by lia))<| R8 (noF h' rfl rfl (by lia)) ?_;exact o4<| g8 rfl rfl<| ER hz hj h ho<| j8 q
theorem lr{st:Int}(hz:T.length<=zi)(hs:st=pre.length)(h:tl T=pre++post)(hp:∀c r,post=c::r->c=32)(q:Q (.bl false) G):Wp (R4 [.str T,.int st]) G Q:=by subst hs;refine j9<| o4<| VM.mpr<| K1 rfl rfl rfl ?_;rw[dA h rfl λc r e=>by rw[hp c r e];decide];refine O9.mpr ?_;rw[if_neg zz];refine j4<| g8 rfl rfl<| IE (run:= []) (rest:=post) hz rfl (by rw[h,jH]) (λ_ z=>nomatch z) (λc r e=>by rw[hp c r e];decide)<| b8 rfl<| cD.mpr<| j8 ?_;rw[decide_eq_false (by simp)];exact q
theorem KU{st:Int}(hz:T.length<=zi)(hs:st=pre.length)(h:tl T=pre++nmL j++post)(ho:KB 48 57 post)(q:Q (.bl true) G):Wp (R4 [.str T,.int st]) G Q:=by
 subst hs;have hs:tl T=pre++(nmL j++post):=by rw[h,zJ]
 refine j9<| o4<| VM.mpr<| K1 rfl rfl rfl ?_;rcases UD j with⟨m,rfl⟩|⟨m,hm,rfl⟩
 · have en:=VD m;rw[dA hs rfl λc r e=>by
    rw[en]at e;rcases k:dg m with _|⟨x,y⟩
    ·exact absurd k (E9 m)
    ·rw[k]at e;have e:=(zD e).1;have:=wA m x (by rw[k];exact zv ..);lia]
   refine O9.mpr ?_;rw[if_neg zz];refine j4<| g8 rfl rfl<| IE hz rfl (by rw[h,en]) (wA m) ho<| b8 rfl<| cD.mpr<| j8 ?_;have:=List.length_pos_iff.mpr (E9 m);rw[decide_eq_true (by lia)];exact q
 ·rw[J6 hs (by rw[KD m hm];rfl)];refine O9.mpr ?_;rw[if_pos rfl];exact j8 q
end
def stW(post:List Nat):Prop:=∀c r,post=c::r->c=32
theorem stW.off(h:stW post):KB 48 57 post:=λc r e=>by rw[h c r e];decide
section
variable{T:Str}{G:DH}{Q:DPP}
theorem tQ{at':Int}(hz:T.length<=zi)(ha:at'=pre.length)(hj:smI j)(ok:okR (a,some j))(h:tl T=pre++[46,46]++nmL j++post)(hp:stW post)(q:Q (.tup [sN [(a,some j)],.int ((pre.length:Int)+2+(nmL j).length)]) G):
 Wp (Q4 [.str T,.int at',S9 a]) G Q:=by
 subst ha;have e2:((pre++[46,46]).length:Int)= (pre.length:Int)+2:=by rw[zd];rfl
 refine j9 (show Wp (vF [some (.str T),some (.int pre.length),some (S9 a),none,none]) G _ from ?_);refine o6 (X1:= [some (.str T),some (.int pre.length),some (S9 a),some (.int ((pre.length:Int)+2)),none]) rfl ?_;have rest:Wp (j5 (v7 (z0 W9 c0 D0) t3) (j5 (ifS (j3 (tBn F8 y0 F0) (tBn gtD y0 (ixE K0 A0))) (w5) t8) (o9 (B0 (z0 W7 y0 (ixE K0 A0)) (ixE K0 i0)))) [some (.str T),some (.int pre.length),some (S9 a),some (.int ((pre.length:Int)+2)),none]) G (PB Q):=by
  refine d8.mpr<| u0<| g8 rfl rfl ?_;rw[<-e2];refine ER hz hj h hp.off ?_;rw[e2];have fin:Wp ((o9 (B0 (z0 W7 y0 (ixE K0 A0)) (ixE K0 i0))) [some (.str T),some (.int pre.length),some (S9 a),some (.int ((pre.length:Int)+2)),some (.tup [.int j,.int ((pre.length:Int)+2+(nmL j).length)])]) G (PB Q):=
   o4<| M9.mpr<| j7<| g8 rfl rfl<| lK (r:=(a,some j)) ok<| b8 rfl ⟨sz,j8 q⟩
  rcases a with _|a
  ·exact o6 rfl fin
  ·have:=ok a j rfl rfl;refine d8.mpr<| M8<| B5<| b8 rfl ⟨λ_=>v6<| j4<| b8 rfl<| b8 rfl<| cD.mpr ⟨_,rfl,λk=>?_,λ_=>t7.mpr fin⟩,λz=>(nomatch z)⟩;have:=of_decide_eq_true k;lia
 rcases a with _|a
 ·exact o6 rfl rest
 ·refine d8.mpr<| M8<| B5<| b8 rfl ⟨λ_=>X4.mpr<| C9<| g8 rfl rfl<| KU hz e2.symm h hp.off ⟨rfl,λz=>(nomatch z),λ_=>t7.mpr rest⟩,λz=>(nomatch z)⟩
theorem Sz{at':Int}(hz:T.length<=zi)(ha:at'=pre.length)(h:tl T=pre++[46,46]++post)(hp:stW post)(q:Q (.tup [sN [(some a,none)],.int ((pre.length:Int)+2)]) G):
 Wp (Q4 [.str T,.int at',.int a]) G Q:=by
 subst ha;have e2:((pre++[46,46]).length:Int)= (pre.length:Int)+2:=by rw[zd];rfl
 refine j9 (show Wp (vF [some (.str T),some (.int pre.length),some (.int a),none,none]) G _ from ?_);refine o6 (X1:= [some (.str T),some (.int pre.length),some (.int a),some (.int ((pre.length:Int)+2)),none]) rfl<| d8.mpr<| M8<| B5<| b8 rfl ⟨λ_=>X4.mpr<| tE<| g8 rfl rfl<| lr hz e2.symm h hp ⟨rfl,λ_=>?_,λz=>(nomatch z)⟩,λz=>(nomatch z)⟩;exact o4<| M9.mpr<| j7<| g8 rfl rfl<| lK (r:=(some a,none)) (λ_ _ _ e=>nomatch e)<| b8 rfl ⟨sz,j8 q⟩
abbrev wS(T:Str)(p:Nat)(u:Option D):DSt:= [some (.str T),sIi p,some (.int 1),u,none]
theorem HE:W8=j5 (ifS (truthE (mtE isStrM startsD c0 (M0 (cSt "[") g0))) (w5) t8) (j5 (ifS (truthE (mtE isStrM startsD c0 (M0 (cSt "{") g0))) (w5) t8) (gdQ (truthE (mtE isStrM startsD c0 (M0 (cSt "text but") g0))) (z0 aD c0 (binE addD g0 (C0 lenF (cSt "text but")))) (j5 WL WZ))):=rfl
theorem FE{p:Nat}(h:Z7 T k (p:Int)=false):WK (wS T p (some (.str k))) G=some (.ok (.nx (wS T p (some (.str k)))),G):=by refine W4<| M8<| tE<| K1 rfl rfl rfl ?_;rw[h];exact⟨rfl,λz=>(nomatch z),λ_=>t7.mpr ⟨rfl,rfl⟩⟩
theorem UE{p:Nat}(h1:Z7 T ("number" :Str) (p:Int)=false)(h2:Z7 T ("text" :Str) (p:Int)=false)(h3:Z7 T ("truth" :Str) (p:Int)=false):∃u,WL (wS T p none) G=some (.ok (.nx (wS T p u)),G):=by refine⟨some (.str ("truth" :Str)),W4<| g6.mpr<| wp_itW.mpr<| b8 rfl<| srcW_tup.mpr ?_⟩;refine Q7.mpr ⟨rfl,J8.mpr<| b8 (FE h1)<| Q7.mpr ⟨rfl,J8.mpr<| b8 (FE h2)<| Q7.mpr ⟨rfl,J8.mpr<| b8 (FE h3)<| B8.mpr ⟨rfl,rfl,rfl⟩⟩⟩⟩
theorem rV{at':Int}{pre post:List Nat}(hz:T.length<=zi)(ha:at'=pre.length)(hr:smR r)(ok:okR r)(h:tl T=pre++swL r++post)(hp:stW post)(q:Q (.tup [sN [r],.int ((pre.length:Int)+(swL r).length)]) G):
 Wp (U3 [.str T,.int at',.int 1]) G Q:=by
 subst ha;refine j9 (show Wp (W8 (wS T pre.length none)) G _ from ?_);rw[HE];have hs:tl T=pre++(swL r++post):=by rw[h,zJ]
 obtain⟨a,b⟩:=r;rcases a with _|a
 · rcases b with _|b
   ·have h':tl T=pre++(110::(117::109::98::101::114::post)):=hs;refine R8 (noF h' rfl rfl (by decide))<| R8 (noF h' rfl rfl (by decide))<| R8 (noF h' rfl rfl (by decide)) ?_;refine d8.mpr<| g6.mpr<| wp_itW.mpr<| b8 rfl<| srcW_tup.mpr ?_;refine Q7.mpr ⟨rfl,J8.mpr<| M8<| C9<| K1 rfl rfl rfl ?_⟩;rw[J6 h' rfl];refine⟨rfl,λ_=>o4<| b8 rfl<| j8 q,λz=>(nomatch z)⟩
   ·have h':tl T=pre++(46::(46::nmL b++post)):=hs;refine R8 (noF h' rfl rfl (by decide))<| R8 (noF h' rfl rfl (by decide))<| R8 (noF h' rfl rfl (by decide)) ?_;obtain⟨u,eu⟩:=UE (noF h' rfl rfl (by decide)) (noF h' rfl rfl (by decide)) (noF h' rfl rfl (by decide));refine o6 eu<| pC (J6 h' rfl)<| g8 rfl rfl<| tQ (a:=none) hz rfl (hr.2 b rfl) ok (by rw[h];simp[swL]) hp<| j8 ?_;rw[show (pre.length:Int)+2+(nmL b).length= (pre.length:Int)+(swL (none,some b)).length by show _= (pre.length:Int)+(([46,46]++nmL b).length:Int);rw[zd];show _=_+((2+_:Nat):Int);lia];exact q
 · obtain⟨c,r,e,hc⟩:=BH a;obtain⟨t,et⟩:∃t,swL (some a,b)=nmL a++t:=by
    rcases b with _|b
    ·exact⟨_,rfl⟩
    · by_cases k:a=b
      ·exact⟨[],by rw[jH];exact if_pos k⟩
      ·exact⟨[46,46]++nmL b,by rw[<-zJ];exact if_neg k⟩
   have h':tl T=pre++(c::(r++t++post)):=by rw[hs,et,e];simp
   refine R8 (noF h' rfl rfl (by lia))<| R8 (noF h' rfl rfl (by lia))<| R8 (noF h' rfl rfl (by lia)) ?_;obtain⟨u,eu⟩:=UE (noF h' rfl rfl (by lia)) (noF h' rfl rfl (by lia)) (noF h' rfl rfl (by lia));have h2:tl T=pre++nmL a++(t++post):=by rw[hs,et];simp
   refine o6 eu<| R8 (noF h' rfl rfl (by lia))<| d8.mpr<| u0<| g8 rfl rfl<| KY hz (hr.1 a rfl) h2 ?_ ?_
   · intro x y z;rcases b with _|b
     · rcases t with _|⟨d,t⟩
       ·exact hp.off x y z
       ·have:nmL a++[46,46]=nmL a++(d::t):=et;have:=yc this;rw[<-(zD z).1,<-(zD this).1];decide
     · rcases t with _|⟨d,t⟩
       ·exact hp.off x y z
       · by_cases k:a=b
         ·rw[show swL (some a,some b)=nmL a from if_pos k]at et;have:=congrArg xv et;simp at this
         ·rw[show swL (some a,some b)=nmL a++[46,46]++nmL b from if_neg k,zJ]at et;have:=yc et;rw[<-(zD z).1,<-(zD this).1];decide
   · have el:((pre++nmL a).length:Int)= (pre.length:Int)+(nmL a).length:=by rw[zd];lia
     have ask:∀ {X Y:Fs} {P:Fl->DH->Prop} {bb:Bool},Z7 T (".." :Str) ((pre.length:Int)+(nmL a).length)=bb->Wp ((if bb=true then X else Y) [some (.str T),some (.int pre.length),some (.int 1),u,some (.tup [.int a,.int ((pre.length:Int)+(nmL a).length)])]) G P->Wp (ifS (j3 (truthE (H0 iD (ixE K0 A0))) (truthE (mtE isStrM startsD c0 (M0 (cSt "..") (ixE K0 i0))))) X Y [some (.str T),some (.int pre.length),some (.int 1),u,some (.tup [.int a,.int ((pre.length:Int)+(nmL a).length)])]) G P:=λ{X Y P bb} eb w=>by
      refine M8<| B5<| b8 rfl ⟨λ_=>R1.mpr<| K1 rfl rfl rfl<| O9.mpr ?_,λz=>(nomatch z)⟩;rw[eb]
      cases bb
      ·exact⟨λz=>(nomatch z),λ_=>w⟩
      ·exact⟨λ_=>w,λz=>(nomatch z)⟩
     by_cases hab:b=some a
     · subst hab;have sw:swL (some a,some a)=nmL a:=if_pos rfl;rw[sw]at h q;have hb:Z7 T (".." :Str) ((pre.length:Int)+(nmL a).length)=false:=by
        rw[<-el];exact dA h rfl λx y z=>by rw[hp x y z];decide
       refine d8.mpr<| ask hb<| t7.mpr<| o4<| M9.mpr<| j7<| g8 rfl rfl<| Nc<| b8 (G':=G) rfl ⟨sz,j8 q⟩
     · obtain⟨t',rfl⟩:∃t',t= [46,46]++t':=by
        rcases b with _|b
        ·exact⟨[],yc (show nmL a++t=nmL a++[46,46]from et.symm)⟩
        ·rw[show swL (some a,some b)=nmL a++[46,46]++nmL b from if_neg λz=>hab (by rw[z]),zJ]at et;exact⟨_,(yc et).symm⟩
       have hb:Z7 T (".." :Str) ((pre.length:Int)+(nmL a).length)=true:=by rw[<-el];exact J6 h2 (r:=t'++post) (by rw[zJ];rfl)
       refine d8.mpr<| ask hb<| o4<| g8 (as:= [.str T,.int ((pre.length:Int)+(nmL a).length),.int a]) rfl rfl ?_;rcases b with _|b
       · have:t'= []:=by
          have:=yc (show nmL a++([46,46]++[])=nmL a++([46,46]++t')from et);exact(yc this).symm
         subst this;refine Sz hz el.symm (by rw[h2];simp) hp<| j8 ?_;rw[show (((pre++nmL a).length:Nat):Int)+2= (pre.length:Int)+(swL (some a,none)).length by rw[et,zd,zd];show _=_+((_+2:Nat):Int);lia];exact q
       · have sw:swL (some a,some b)=nmL a++[46,46]++nmL b:=if_neg λz=>hab (by rw[z]);have:t'=nmL b:=by
          rw[sw,zJ]at et;exact(yc (yc et)).symm
         subst this;refine tQ (a:=some a) hz el.symm (hr.2 b rfl) ok (by rw[h2];simp) hp<| j8 ?_;rw[show (((pre++nmL a).length:Nat):Int)+2+(nmL b).length= (pre.length:Int)+(swL (some a,some b)).length by rw[sw,zd,zd,zd];show _=_+((_+2+_:Nat):Int);lia];exact q
end
def TxL(z:Str):Prop:=(∀c∈tl z,97<=c/\c<=122)/\z.length<=1000
section
variable{T:Str}{G:DH}{Q:DPP}
theorem Km{at':Int}{pre rest:List Nat}(ha:at'=pre.length)(hp:p.length<=zi)(h:tl T=pre++(tl p++rest))(q:Q (.int ((pre.length:Int)+p.length)) G):Wp (gF [.str T,.int at',.str p]) G Q:=by subst ha;refine j9<| d8.mpr<| aj<| C9<| K1 rfl rfl rfl ?_;rw[J6 h rfl];exact⟨rfl,rfl,t7.mpr<| o4<| j4<| b8 rfl<| W6 rfl<| (NC hp).mpr<| N9.mpr<| j8 q⟩
theorem sR{pre post:List Nat}(hz:T.length<=zi)(ht:TxL z)(h:tl T=pre++(34::(tl z++[34]))++post)(q:Q (.tup [.str z,.int ((pre.length:Int)+(z.length+2:Nat))]) G):Wp (F_text_at [.str T,.int pre.length]) G Q:=by
 have h1:tl T= (pre++[34])++tl z++([34]++post):=by rw[h];simp
 have e1:((pre++[34]).length:Int)= (pre.length:Int)+1:=by simp
 refine j9<| d8.mpr<| u0<| g8 rfl rfl<| IE hz e1.symm h1 ht.1 (λc r e=>by cases e;decide) ?_;rw[e1];have h2:=cQ h1;rw[e1]at h2;refine o4<| M9.mpr<| j7<| OE.mpr<| b8 rfl<| b8 rfl<| b8 rfl<| (nR hz).mpr ?_;rw[h2];have h3:tl T= (pre++[34]++tl z)++(tl ("\"" :Str)++post):=by rw[h1];simp;rfl
 refine j7<| g8 rfl rfl<| Km (by simp;lia) (by decide) h3<| o8.mpr ⟨sz,j8 ?_⟩;have e4:(((pre++[34]++tl z).length:Int)+(("\"" :Str).length:Nat))= (pre.length:Int)+(z.length+2:Nat):=by rw[zd,zd,aA];show (((pre.length+1+z.length:Nat):Int)+(1:Nat))=_;lia
 rw[e4];exact q
end
abbrev cT:List Nat:= [116,114,117,101]
abbrev cF:List Nat:= [102,97,108,115,101]
abbrev cTx:List Nat:= [116,101,120,116]
abbrev cTh:List Nat:= [116,114,117,116,104]
def qL(z:Str):List Nat:=34::(tl z++[34])
def stO(post:List Nat):Prop:=post= []\/∃r,post=cOr++r
theorem stO.st(h:stO post):stW post:=λc r e=>by
 rcases h with rfl|⟨t,rfl⟩
 ·cases e
 ·exact(zD e).1.symm
abbrev nI(z:Str):PS:=⟨[],true, [z],false,false⟩
abbrev LS:PS:=⟨[],false, [],false,false⟩
abbrev qK(b:Bool):PS:=⟨[],true, [], !b,b⟩
abbrev BR:PS:=⟨[],true, [],true,true⟩
section
variable{T:Str}{G:DH}{Q:DPP}{pre post:List Nat}
theorem Tm(q:Q (sP (nI z)) G):Wp (OA [.str z]) G Q:=
 j9<| o6 (X1:= [some (.str z)]) rfl<| o6 (X1:= [some (.str z)]) rfl<| d8.mpr<| M8<| b8 rfl ⟨λ_=>o4<| g8 rfl rfl<| UF<| j8 q,λz=>nomatch z⟩
theorem Sx(q:Q (sP (qK b)) G):Wp (OA [.bl b]) G Q:=
 j9<| d8.mpr<| M8<| b8 rfl ⟨λ_=>o4<| g8 (by cases b<;>rfl) rfl<| UF<| j8 q,λz=>nomatch z⟩
theorem pfx{rest:List Nat}(h:tl T=pre++rest)(k:¬tl p <+:rest):Z7 T p (pre.length:Int)=false:=(pG h).trans (decide_eq_false k)
theorem fU(hz:T.length<=zi)(ht:TxL z)(h:tl T=pre++qL z++post)(q:Q (.tup [.str z,.int ((pre.length:Int)+(qL z).length)]) G):Wp (TC [.str T,.int pre.length,.int 1]) G Q:=by
 have h':tl T=pre++(34::(tl z++[34]++post)):=by rw[h,zJ];rfl
 refine j9 (show Wp (bE [some (.str T),some (.int pre.length),some (.int 1)]) G _ from o6 rfl ?_);refine R8 (noF h' rfl rfl (by decide))<| R8 (noF h' rfl rfl (by decide))<| pC (J6 h' rfl)<| g8 rfl rfl<| sR hz ht h<| j8 ?_;rw[show (z.length+2:Nat)= (qL z).length by unfold qL;rw[zu,zd,aA];rfl];exact q
theorem Rf{at':Int}(hz:T.length<=zi)(ha:at'=pre.length)(ht:TxL z)(h:tl T=pre++qL z++post)(hp:stO post)(q:Q (.tup [sP (nI z),.int ((pre.length:Int)+(qL z).length)]) G):Wp (U3 [.str T,.int at',.int 1]) G Q:=by
 subst ha;refine j9 (show Wp (W8 (wS T pre.length none)) G _ from ?_);rw[HE];have h':tl T=pre++(34::(tl z++[34]++post)):=by rw[h,zJ];rfl
 refine R8 (noF h' rfl rfl (by decide))<| R8 (noF h' rfl rfl (by decide))<| R8 (noF h' rfl rfl (by decide)) ?_;obtain⟨u,eu⟩:=UE (noF h' rfl rfl (by decide)) (noF h' rfl rfl (by decide)) (noF h' rfl rfl (by decide));refine o6 eu<| R8 (noF h' rfl rfl (by decide))<| d8.mpr<| u0<| g8 rfl rfl<| fU hz ht h ?_;refine d8.mpr<| M8<| B5<| b8 rfl ⟨λz=>(nomatch z),λ_=>⟨λz=>(nomatch z),λ_=>t7.mpr ?_⟩⟩;exact o4<| M9.mpr<| j7<| g8 rfl rfl<| Tm<| b8 rfl ⟨sz,j8 q⟩
def blL(b:Bool):List Nat:=if b then cT else cF
theorem Fk{at':Int}(ha:at'=pre.length)(h:tl T=pre++blL b++post)(q:Q (.tup [sP (qK b),.int ((pre.length:Int)+(blL b).length)]) G):Wp (U3 [.str T,.int at',.int 1]) G Q:=by
 subst ha;refine j9 (show Wp (W8 (wS T pre.length none)) G _ from ?_);rw[HE];have hs:tl T=pre++(blL b++post):=by rw[h,zJ]
 have no:∀p:Str,(∀t,tl p++t≠blL b++post)->Z7 T p (pre.length:Int)=false:=λp k=>pfx hs fun⟨t,e⟩=>k t e;have n1:∀t,tl ("[" :Str)++t≠blL b++post:=λt e=>by cases b<;>exact absurd (zD e).1 (by decide)
 have n2:∀t,tl ("{" :Str)++t≠blL b++post:=λt e=>by cases b<;>exact absurd (zD e).1 (by decide)
 have n3:∀t,tl ("text but" :Str)++t≠blL b++post:=λt e=>by
  cases b
  ·exact absurd (zD e).1 (by decide)
  ·exact absurd (zD (zD e).2).1 (by decide)
 have n4:∀t,tl ("number" :Str)++t≠blL b++post:=λt e=>by cases b<;>exact absurd (zD e).1 (by decide)
 have n5:∀t,tl ("text" :Str)++t≠blL b++post:=λt e=>by
  cases b
  ·exact absurd (zD e).1 (by decide)
  ·exact absurd (zD (zD e).2).1 (by decide)
 have n6:∀t,tl ("truth" :Str)++t≠blL b++post:=λt e=>by
  cases b
  ·exact absurd (zD e).1 (by decide)
  ·exact absurd (zD (zD (zD (zD e).2).2).2).1 (by decide)
 have n7:∀t,tl (".." :Str)++t≠blL b++post:=λt e=>by cases b<;>exact absurd (zD e).1 (by decide)
 have n8:∀t,tl ("\"" :Str)++t≠blL b++post:=λt e=>by cases b<;>exact absurd (zD e).1 (by decide)
 refine R8 (no _ n1)<| R8 (no _ n2)<| R8 (no _ n3) ?_;obtain⟨u,eu⟩:=UE (no _ n4) (no _ n5) (no _ n6);refine o6 eu<| R8 (no _ n7)<| d8.mpr<| u0<| g8 rfl rfl ?_;have fin:Wp ((gdQ (j3 (truthE (H0 iD (ixE K0 A0))) (truthE (mtE isStrM startsD c0 (M0 (cSt "..") (ixE K0 i0))))) (EA Q4 c0 (ixE K0 i0) (ixE K0 A0)) (o9 (B0 (H0 OA (ixE K0 A0)) (ixE K0 i0)))) [some (.str T),some (.int pre.length),some (.int 1),u,some (.tup [.bl b,.int ((pre.length:Int)+(blL b).length)])]) G (PB Q):=by refine d8.mpr<| M8<| B5<| b8 rfl ⟨λz=>(nomatch z),λ_=>⟨λz=>(nomatch z),λ_=>t7.mpr ?_⟩⟩;exact o4<| M9.mpr<| j7<| g8 rfl rfl<| Sx<| b8 rfl ⟨sz,j8 q⟩
 refine j9 (show Wp (bE [some (.str T),some (.int pre.length),some (.int 1)]) G _ from o6 rfl ?_);refine R8 (no _ n1)<| R8 (no _ n2)<| R8 (no _ n8) ?_
 cases b
 ·refine R8 (no _ λt e=>absurd (zD e).1 (by decide))<| pC (J6 hs rfl)<| b8 rfl<| j8 fin
 ·refine pC (J6 hs rfl)<| b8 rfl<| j8 fin
theorem FN{at':Int}(ha:at'=pre.length)(h:tl T=pre++w++post)(hp:stO post)(hk:w=cTx/\s=LS\/w=cTh/\s=BR)(q:Q (.tup [sP s,.int ((pre.length:Int)+w.length)]) G):Wp (U3 [.str T,.int at',.int 1]) G Q:=by
 subst ha;refine j9 (show Wp (W8 (wS T pre.length none)) G _ from ?_);rw[HE];have hs:tl T=pre++(w++post):=by rw[h,zJ]
 have no:∀p:Str,(∀t,tl p++t≠w++post)->Z7 T p (pre.length:Int)=false:=λp k=>pfx hs fun⟨t,e⟩=>k t e;have n1:∀t,tl ("[" :Str)++t≠w++post:=λt e=>by rcases hk with⟨rfl,_⟩|⟨rfl,_⟩<;>exact absurd (zD e).1 (by decide)
 have n2:∀t,tl ("{" :Str)++t≠w++post:=λt e=>by rcases hk with⟨rfl,_⟩|⟨rfl,_⟩<;>exact absurd (zD e).1 (by decide)
 have n4:∀t,tl ("number" :Str)++t≠w++post:=λt e=>by rcases hk with⟨rfl,_⟩|⟨rfl,_⟩<;>exact absurd (zD e).1 (by decide)
 have n3:∀t,tl ("text but" :Str)++t≠w++post:=λt e=>by
  rcases hk with⟨rfl,_⟩|⟨rfl,_⟩
  · have e4:=(zD (zD (zD (zD e).2).2).2).2;rcases hp with rfl|⟨r,rfl⟩
    ·cases e4
    ·exact absurd (zD (zD e4).2).1 (by decide)
  ·exact absurd (zD (zD e).2).1 (by decide)
 refine R8 (no _ n1)<| R8 (no _ n2)<| R8 (no _ n3) ?_;refine d8.mpr<| g6.mpr<| wp_itW.mpr<| b8 rfl<| srcW_tup.mpr ?_;refine Q7.mpr ⟨rfl,J8.mpr<| b8 (FE (no _ n4))<| Q7.mpr ⟨rfl,J8.mpr ?_⟩⟩;rcases hk with⟨rfl,rfl⟩|⟨rfl,rfl⟩
 ·refine M8<| C9<| K1 rfl rfl rfl ?_;rw[J6 hs rfl];exact⟨rfl,λ_=>o4<| b8 rfl<| j8 q,λz=>(nomatch z)⟩
 ·refine b8 (FE (no _ λt e=>absurd (zD (zD e).2).1 (by decide)))<| Q7.mpr ⟨rfl,J8.mpr ?_⟩;refine M8<| C9<| K1 rfl rfl rfl ?_;rw[J6 hs rfl];exact⟨rfl,λ_=>o4<| b8 rfl<| j8 q,λz=>(nomatch z)⟩
end
theorem MD{mk:α->D}{e:Fe}{f:α->D}{G:DH}(sx:ck G=true):∀(l:List α) u,(∀x∈l,e [some (mk x)] G=some (.ok (f x),G))->J7 P2 V4 e ck (l.map mk) [u] G=some (.ok (l.map f),G)
 |[],u,h=>W4 (lD.mpr ⟨sx,rfl,rfl⟩)
 | x :: r, u, h => W4 (uG.mpr ⟨sx, b8 rfl <| b8 rfl <| by
    rw[if_pos rfl];exact b8 (h x (zv ..))<| b8 (MD sx r _ λy hy=>h y (zl _ hy)) ⟨rfl,rfl⟩⟩)
section
variable{G:DH}{Q:DPP}
theorem PY{c:Nat}{s:List Str}(e:G[c]? =some (.lst (s.map D.str)))(hs:s.length<64)(hz:∀z∈s,Tx z)(q:∀m G',Ris m->(∀z,z∈m↔z∈s)->m.length<=s.length->Ap G G'->Q (.tup (m.map D.str)) G'):Wp (M3 [.ref c]) G Q:=by have bg:=big;refine j9<| o4<| R9<| j7<| DN.mpr<| g8 rfl rfl<| j9<| o4<| R9<| j7<| wp_comp.mpr<| wp_itW.mpr<| b8 rfl<| (gB e).mpr ⟨by rw[zf];lia,b8 (MD (L5 e) s none λz _=>rfl)<| o8.mpr<| (MM f9 (gI s)).mpr<| j8 ?_⟩;obtain⟨ks,h1,h2,h3⟩:=rJ s [] [] ⟨rfl,by simp⟩;refine lM f9 h1 (by simp at h3;lia) (λz ul=>zS (hz z (by have:=(h2 z).mp ul;simpa using this)).2 (by lia)) λm r p=>o8.mpr<| (W3 f9).mpr<| j8<| q m _ r (λz=>by rw[p.mem_iff,h2 z];simp) (by rw[p.length_eq];simpa using h3) ((Ap.one.trans Ap.one).trans Ap.one)
def bqL(ts:List Str):List Nat:=ts.flatMap λz=>32::qL z
theorem sT:OF=j5 (v7 (Q5 o0) T0) (j5 (W0 UT UB) UZ):=rfl
variable{T:Str}{c:Nat}
abbrev uS(T:Str)(i:Int)(c:Nat)(u:Option D):DSt:= [some (.str T),some (.int i),sRf c,u]
theorem ES(hz:T.length<=zi):∀rest dn pre post u n G,rest.length<=n->(∀z∈rest,TxL z)->tl T=pre++bqL rest++post->stO post->G[c]? =some (.lst (dn.map D.str))->dn.length+rest.length<=200->
 Wp (K8 (n+1) UT UB (uS T pre.length c u)) G λfl G'=>∃u',fl= .nx (uS T ((pre++bqL rest).length:Int) c u')/\G'[c]? =some (.lst ((dn++rest).map D.str))/\G'.length=G.length/\∀i,i≠c->G'[i]? =G[i]?
 |[],dn,pre,post,u,n,G,hn,ok,h,hp,e,hl=>by
   have h':tl T=pre++post:=by rw[h];unfold bqL;simp
   refine R6.mpr<| R1.mpr<| K1 rfl rfl rfl ?_;have np:¬tl (" \"" :Str) <+:post:=fun⟨t,z⟩=>by
    rcases hp with rfl|⟨r,rfl⟩
    ·cases z
    ·exact absurd (zD (zD z).2).1 (by decide)
   rw[pfx h' np];refine O9.mpr ?_;rw[if_neg zz];exact⟨u,by unfold bqL;simp,by rw[jH];exact e,rfl,λ_ _=>rfl⟩
 |z::rest,dn,pre,post,u,n,G,hn,ok,h,hp,e,hl=>by
   have bg:=big;obtain⟨m,rfl⟩:∃m,n=m+1:=⟨n-1,by simp at hn;lia⟩;simp only[zu]at hn hl;have eb:bqL (z::rest)=32::qL z++bqL rest:=by unfold bqL;rw[XL]
   have h1:tl T=pre++(32::qL z++(bqL rest++post)):=by rw[h,eb];simp
   have h2:tl T= (pre++[32])++qL z++(bqL rest++post):=by rw[h1];simp
   have h3:tl T= (pre++[32]++qL z)++bqL rest++post:=by rw[h2];simp
   refine R6.mpr<| R1.mpr<| K1 rfl rfl rfl ?_;rw[J6 h1 (by unfold qL;simp;rfl)];refine O9.mpr ?_;rw[if_pos rfl];have el:((pre.length:Int)+1)= ((pre++[32]).length:Int):=by rw[zd];rfl
   have lq:(qL z).length=z.length+2:=by unfold qL;rw[zu,zd];rfl
   have el2:((pre++[32]).length:Int)+(z.length+2:Nat)= ((pre++[32]++qL z).length:Int):=by rw[zd (bs:=qL z),lq];exact(Int.natCast_add _ _).symm
   refine d8.mpr<| u0<| g8 rfl rfl ?_;rw[el];refine sR hz (ok z (zv ..)) h2 ?_;rw[el2];refine d8.mpr<| l8.mpr<| A3.mpr<| b8 rfl<| (N7 e).mpr<| b8 rfl<| (Q8 e (by rw[zf];lia)).mpr<| u0<| b8 rfl ?_;have ih:=ES hz rest (dn++[z]) (pre++[32]++qL z) post (some (.tup [.str z,.int ((pre++[32]++qL z).length:Int)])) m (G.set c (.lst ((dn.map D.str)++[.str z]))) (by lia) (λy hy=>ok y (zl _ hy)) h3 hp (by rw[jo (lt_of_get e),zY];rfl) (by rw[zd,jY];lia);rw[eb,show pre++(32::qL z++bqL rest)=pre++[32]++qL z++bqL rest by simp,show dn++z::rest=dn++[z]++rest by simp];refine ih.mono ?_;rintro fl G' ⟨u',a1,a2,a3,a4⟩;exact⟨u',a1,a2,by rw[a3,Zc],λi hi=>by rw[a4 i hi,jL (Ne.symm hi)]⟩
end
theorem GF(h:TxL z):Tx z:=⟨by
 unfold gR;rw[xq];intro c hc;have:=h.1 c hc;unfold gN;simp only[decide_eq_true_eq,jy];exact this,h.2⟩
abbrev PF(m:List Str):PS:=⟨[],false,m,false,false⟩
abbrev cTb:List Nat:= [116,101,120,116,32,98,117,116]
def btL(ts:List Str):List Nat:=cTb++bqL ts
section
variable{T:Str}{G:DH}{Q:DPP}{pre post:List Nat}
theorem IT{at':Int}(hz:T.length<=zi)(ha:at'=pre.length)(ht:∀z∈ts,TxL z)(sf:ts≠ [])(hl:ts.length<64)(h:tl T=pre++bqL ts++post)(hp:stO post)
 (q:∀m G',Rw m->(∀z,z∈m↔z∈ts)->m.length<=ts.length->Ap G G'->Q (.tup [sP (PF m),.int ((pre++bqL ts).length:Int)]) G'):Wp (aD [.str T,.int at']) G Q:=by
 subst ha;refine j9 (show Wp (OF [some (.str T),some (.int pre.length),none,none]) G _ from ?_);rw[sT];refine o6 (X1:=uS T pre.length G.length none) rfl<| d8.mpr<| wC<| (ES hz ts [] pre post none ts.length (G++[.lst []]) (zh _) ht h hp f9 (by simp;lia)).mono ?_;rintro _ G1 ⟨u,rfl,e1,l1,f1⟩;have a1:Ap G G1:=Gr.ap ⟨by rw[l1];simp,λi hi=>by rw[f1 i (by lia),zB hi]⟩;rw[Jw]at e1;refine d8.mpr<| M8<| X4.mpr<| R1.mpr<| b8 rfl<| (BK e1).mpr ⟨λk=>?_,λ_=>t7.mpr ?_⟩
 rotate_left
 ·refine o4<| M9.mpr<| j7<| R9<| j7<| b8 rfl<| j7<| M9.mpr<| j7<| b8 rfl<| j7<| g8 rfl rfl<| PY e1 hl (λz hz=>GF (ht z hz)) λm G2 r mm lm a2=>o8.mpr ⟨sz,?_⟩;refine b8 (G':=G2) rfl<| V1.mpr ⟨rfl,UF (s:=PF m) ?_⟩;exact b8 (a:= [.int ((pre++bqL ts).length:Int)]) (G':=G2) rfl ⟨sz,j8<| q m G2 ⟨r,λz hz=>GF (ht z ((mm z).mp hz)),by lia⟩ mm lm (a1.trans a2)⟩
 · rcases ts with _|⟨_,_⟩
   ·exact absurd rfl sf
   ·cases k
theorem Cz{at':Int}(hz:T.length<=zi)(ha:at'=pre.length)(ht:∀z∈ts,TxL z)(sf:ts≠ [])(hl:ts.length<64)(h:tl T=pre++btL ts++post)(hp:stO post)
 (q:∀m G',Rw m->(∀z,z∈m↔z∈ts)->m.length<=ts.length->Ap G G'->Q (.tup [sP (PF m),.int ((pre.length:Int)+(btL ts).length)]) G'):Wp (U3 [.str T,.int at',.int 1]) G Q:=by
 subst ha;refine j9 (show Wp (W8 (wS T pre.length none)) G _ from ?_);rw[HE];have hs:tl T=pre++(116::(101::120::116::32::98::117::116::(bqL ts++post))):=by rw[h];unfold btL;simp
 have h2:tl T= (pre++cTb)++bqL ts++post:=by rw[h];unfold btL;simp
 refine R8 (noF hs rfl rfl (by decide))<| R8 (noF hs rfl rfl (by decide))<| pC (J6 hs rfl)<| g8 (as:= [.str T,.int ((pre.length:Int)+8)]) rfl rfl<| IT hz (by rw[zd];rfl) ht sf hl h2 hp λm G' r mm lm am=>j8 ?_;rw[show ((pre++cTb++bqL ts).length:Int)= (pre.length:Int)+(btL ts).length by unfold btL;rw[zJ,zd];lia];exact q m G' r mm lm am
end
inductive Wd
 |num (r:Rg)
 |txt (z:Str)
 |all
 |but (ts:List Str)
 |tru (b:Bool)
 |both
def wdL:Wd->List Nat
 | .num r=>swL r
 | .txt z=>qL z
 | .all=>cTx
 | .but ts=>btL ts
 | .tru b=>blL b
 | .both=>cTh
def y9:Wd->Prop
 | .num r=>smR r/\okR r
 | .txt z=>TxL z
 | .but ts=>(∀z∈ts,TxL z)/\ts≠ []/\ts.length<64
 |_=>True
def wdS:Wd->PS->Prop
 | .num r,s=>s= ⟨[r],true, [],false,false⟩
 | .txt z,s=>s=nI z
 | .all,s=>s=LS
 | .but ts,s=>∃m,Rw m/\(∀z,z∈m↔z∈ts)/\m.length<=ts.length/\s=PF m
 | .tru b,s=>s=qK b
 | .both,s=>s=BR
section
variable{T:Str}{G:DH}{Q:DPP}
theorem qY{w:Wd}{pre post:List Nat}{at':Int}(hz:T.length<=zi)(ha:at'=pre.length)(ok:y9 w)(h:tl T=pre++wdL w++post)(hp:stO post)(q:∀s G',wdS w s->Ap G G'->Q (.tup [sP s,.int ((pre.length:Int)+(wdL w).length)]) G'):Wp (U3 [.str T,.int at',.int 1]) G Q:=by
 rcases w with r|z|_|ts|b|_
 ·exact rV hz ha ok.1 ok.2 h hp.st (q ⟨[r],true, [],false,false⟩ G rfl Ap.refl)
 ·exact Rf hz ha ok h hp (q _ G rfl Ap.refl)
 ·exact FN ha h hp (.inl ⟨rfl,rfl⟩) (q _ G rfl Ap.refl)
 ·exact Cz hz ha ok.1 ok.2.1 ok.2.2 h hp λm G' r mm lm am=>q _ G' ⟨m,r,mm,lm,rfl⟩ am
 ·exact Fk ha h (q _ G rfl Ap.refl)
 ·exact FN ha h hp (.inr ⟨rfl,rfl⟩) (q _ G rfl Ap.refl)
end
def VT:DSt->M Bool:=(truthE cBt)
theorem kW:gH=j5 (v7 (Q5 o0) S1) (W0 VT VBd):=rfl
theorem eP(L:List (List Nat)):stO (glL cOr L):=by
 rcases L with _|⟨a,t⟩
 ·exact .inl rfl
 ·exact .inr ⟨a++glL cOr t,by show cOr++a++glL cOr t=_;rw[zJ]⟩
inductive C6:List Wd->List PS->Prop
 |nil:C6 [] []
 |cons {w:Wd} {s:PS} {ws:List Wd} {L:List PS} (h:wdS w s) (k:C6 ws L):C6 (w::ws) (s::L)
section
variable{T:Str}{c:Nat}
abbrev vS(T:Str)(i:Int)(c:Nat)(u:Option D):DSt:= [some (.str T),some (.int i),some (.int 1),sRf c,u]
theorem uN{dn:List PS}{w:Wd}{pre post:List Nat}{u:Option D}{G:DH}{P:Fl->DH->Prop}(hz:T.length<=zi)(ok:y9 w)(h:tl T=pre++wdL w++post)(hp:stO post)(e:G[c]? =some (.lst (dn.map sP)))(hl:dn.length<=200)
 (k:∀s G',wdS w s->G'[c]? =some (.lst ((dn++[s]).map sP))->Wp (VZ (vS T pre.length c (some (.tup [sP s,.int ((pre++wdL w).length:Int)])))) G' P):Wp (VBd (vS T pre.length c u)) G P:=by
 have bg:=big;have el:(pre.length:Int)+(wdL w).length= ((pre++wdL w).length:Int):=by rw[zd];lia
 refine d8.mpr<| u0<| g8 rfl rfl<| qY hz rfl ok h hp λs G1 hs a1=>?_;rw[el];have e1:=a1.at e;refine d8.mpr<| l8.mpr<| A3.mpr<| b8 rfl<| (N7 e1).mpr<| b8 rfl<| (Q8 e1 (by rw[zf];lia)).mpr<| k s _ hs ?_;rw[jo (lt_of_get e1),zY];rfl
theorem PN(hz:T.length<=zi):∀(rest:List Wd) (w:Wd) (dn:List PS) (pre:List Nat) (u:Option D) (n:Nat) (G:DH),rest.length<=n->(∀s∈w::rest,y9 s)->tl T=pre++wdL w++glL cOr (rest.map wdL)->G[c]? =some (.lst (dn.map sP))->dn.length+rest.length<=200->
 Wp (K8 (n+1) VT VBd (vS T pre.length c u)) G λfl G'=>fl= .rt (.tup [.ref c,.int (T.length:Int)])/\∃L,C6 (w::rest) L/\G'[c]? =some (.lst ((dn++L).map sP))
 |[],w,dn,pre,u,n,G,hn,ok,h,e,hl=>by
   refine R6.mpr<| b8 rfl ?_;rw[if_pos rfl];refine uN hz (ok w (zv ..)) h (eP []) e (by simp at hl;lia) λs G1 hs e1=>?_;have h':tl T= (pre++wdL w)++[]:=h;refine d8.mpr<| M8<| X4.mpr<| tE<| K1 rfl rfl rfl ?_;rw[dA h' rfl λ_ _ z=>nomatch z];refine⟨rfl,λ_=>o4<| b8 rfl ⟨?_, [s],.cons hs .nil,e1⟩,λz=>nomatch z⟩;have:T.length= (pre++wdL w).length:=by rw[<-aA,h',jH]
   rw[this]
 |x::rest,w,dn,pre,u,n,G,hn,ok,h,e,hl=>by
   obtain⟨m,rfl⟩:∃m,n=m+1:=⟨n-1,by simp at hn;lia⟩;refine R6.mpr<| b8 rfl ?_;rw[if_pos rfl];simp only[zu]at hn hl;refine uN hz (ok w (zv ..)) h (eP _) e (by lia) λs G1 hs e1=>?_;refine d8.mpr<| M8<| X4.mpr<| C9<| K1 rfl rfl rfl ?_;rw[J6 h (by show cOr++wdL x++glL cOr (rest.map wdL)=cOr++_;rw[zJ])];refine⟨rfl,λz=>(nomatch z),λ_=>t7.mpr<| u0<| b8 (a:=.int (((pre++wdL w).length:Int)+4)) rfl ?_⟩;have el:(((pre++wdL w).length:Int)+4)= ((pre++wdL w++cOr).length:Int):=by rw[zd (as:=pre++wdL w)];rfl
   rw[el];refine(PN hz rest x (dn++[s]) (pre++wdL w++cOr) (some (.tup [sP s,.int ((pre++wdL w).length:Int)])) m G1 (by lia) (λy hy=>ok y (zl _ hy)) (by rw[h];show _++(cOr++wdL x++glL cOr (rest.map wdL))=_;simp) e1 (by rw[zd];simp;lia)).mono ?_;rintro _ G2 ⟨rfl,L,hL,e2⟩;exact⟨rfl,s::L,.cons hs hL,by rw[zJ]at e2;exact e2⟩
theorem pq{ws:List Wd}{w:Wd}{G:DH}{Q:DPP}(hz:T.length<=zi)(ok:∀s∈w::ws,y9 s)(h:tl T=u4 cOr ((w::ws).map wdL))(hl:ws.length<=200)(q:∀c L G',C6 (w::ws) L->G'[c]? =some (.lst (L.map sP))->Q (.tup [.ref c,.int (T.length:Int)]) G'):Wp (vG [.str T,.int 0,.int 1]) G Q:=by refine j9 (show Wp (gH [some (.str T),some (.int 0),some (.int 1),none,none]) G _ from ?_);rw[kW];refine o6 (X1:=vS T 0 G.length none) rfl<| wC<| (PN hz ws w [] [] none ws.length (G++[.lst []]) (zh _) ok h f9 (by simpa using hl)).mono ?_;rintro _ G1 ⟨rfl,L,hL,e1⟩;exact j8<| q _ L _ hL e1
end
theorem D4.uniq(h:D4 L m)(k:D4 L n):m=n:=by
 have e1:m.ns=n.ns:=gP h.ok.can k.ok.can λx=>by rw[h.ns x,k.ns x]
 have e2:m.b=n.b:=by rw[h.b,k.b]
 have e3:m.ts=n.ts:=qQ h.ok.rw.ris k.ok.rw.ris λz=>by
  have:=(h.ts z).trans (k.ts z).symm;rw[e2]at this;unfold inT at this;split at this
  ·exact this
  ·exact⟨λp=>jr λq=>this.mpr q p,λp=>jr λq=>this.mp q p⟩
 have e4:m.f=n.f:=by rw[h.f,k.f]
 have e5:m.t=n.t:=by rw[h.t,k.t]
 obtain⟨a,b,c,d,e⟩:=m;obtain⟨a',b',c',d',e'⟩:=n
 cases e1;cases e2;cases e3;cases e4;cases e5
 rfl
theorem UC:Rw []:=⟨.nil,λ_ h=>(nomatch h),by decide⟩
theorem Nf(h:TxL z):Rw [z]:=⟨Ym ..,λy hy=>by rw[zm.mp hy];exact GF h,show 1<64 by decide⟩
theorem CA:Can []:=⟨λ_ h=>(nomatch h),.nil⟩
theorem Rc(h:okR r):Can [r]:=⟨λp hp=>by rw[zm.mp hp];exact h,Ym ..⟩
theorem Vj(ok:y9 w)(h:wdS w s):OkP s:=by
 rcases w with r|z|_|ts|b|_
 ·cases h;exact⟨Rc ok.2,UC⟩
 ·cases h;exact⟨CA,Nf ok⟩
 ·cases h;exact⟨CA,UC⟩
 ·obtain⟨m,r,_,_,rfl⟩:=h;exact⟨CA,r⟩
 ·cases h;exact⟨CA,UC⟩
 ·cases h;exact⟨CA,UC⟩
def wdT:Wd->Nat
 | .txt _=>1
 | .but ts=>ts.length
 |_=>0
theorem C6.facts(h:C6 ws L):L.length=ws.length/\i6 L<=ws.length/\c6 L<=(ws.map wdT).sum/\((∀w∈ws,y9 w)->∀s∈L,OkP s):=by
 induction h with
 |nil=>exact⟨rfl,zh _,zh _,λ_ s hs=>nomatch hs⟩
 |@cons w s ws L hw k ih=>
   obtain⟨h1,h2,h3,h4⟩:=ih;have hn:s.ns.length<=1/\s.ts.length<=wdT w:=by
    rcases w with r|z|_|ts|b|_
    ·cases hw;exact⟨zh _,zL _⟩
    ·cases hw;exact⟨zL _,zh _⟩
    ·cases hw;exact⟨zL _,zL _⟩
    ·obtain⟨m,_,_,lm,rfl⟩:=hw;exact⟨zL _,lm⟩
    ·cases hw;exact⟨zL _,zL _⟩
    ·cases hw;exact⟨zL _,zL _⟩
   refine⟨by simp[h1],by rw[iC,zu];lia,by rw[QB,zH,List.sum_cons];lia,λok x hx=>?_⟩;rcases zr.mp hx with rfl|hx
   ·exact Vj (ok w (zv ..)) hw
   ·exact h4 (λy hy=>ok y (zl _ hy)) x hx
section
variable{T:Str}{G:DH}{Q:DPP}
theorem gz(r:Rg):(∃c t,swL r=c::t/\c≠97/\c≠110)\/swL r=vK:=by
 obtain⟨a,b⟩:=r;rcases a with _|a
 · rcases b with _|b
   ·exact .inr rfl
   ·exact .inl ⟨46,_,rfl,by decide,by decide⟩
 · left;obtain⟨c,t,e,hc⟩:=BH a;rcases b with _|b
   ·exact⟨c,t++[46,46],by show nmL a++[46,46]=_;rw[e];rfl,by lia,by lia⟩
   · by_cases k:a=b
     ·exact⟨c,t,by rw[show swL (some a,some b)=nmL a from if_pos k,e],by lia,by lia⟩
     ·exact⟨c,t++[46,46]++nmL b,by rw[show swL (some a,some b)=nmL a++[46,46]++nmL b from if_neg k,e];rfl,by lia,by lia⟩
theorem QN(w:Wd):(∃c t,wdL w=c::t/\c≠97/\c≠110)\/wdL w=vK:=by
 rcases w with r|z|_|ts|b|_
 ·exact gz r
 ·exact .inl ⟨34,_,rfl,by decide,by decide⟩
 ·exact .inl ⟨116,_,rfl,by decide,by decide⟩
 ·exact .inl ⟨116,_,rfl,by decide,by decide⟩
 · cases b
   ·exact .inl ⟨102,_,rfl,by decide,by decide⟩
   ·exact .inl ⟨116,_,rfl,by decide,by decide⟩
 ·exact .inl ⟨116,_,rfl,by decide,by decide⟩
theorem OS(h:tl T=wdL w++post)(q:Q .non G):Wp (IF [.str T,.int 0]) G Q:=by
 have h0:tl T= []++(wdL w++post):=h;have n1:Z7 T ("any" :Str) 0=false:=by
  rcases QN w with⟨c,t,e,k1,k2⟩|e
  ·exact noF h0 (by rw[e];rfl) rfl k1
  ·exact noF h0 (by rw[e];rfl) rfl (by decide)
 have n2:Z7 T ("nothing" :Str) 0=false:=by
  rcases QN w with⟨c,t,e,k1,k2⟩|e
  ·exact noF h0 (by rw[e];rfl) rfl k2
  ·refine(pG h0).trans (decide_eq_false fun⟨t,z⟩=>?_);rw[e]at z;have z1:=(zD z).2;exact absurd (zD z1).1 (by decide)
 exact j9 (show Wp (uF [some (.str T),some (.int 0)]) G _ from R8 n1<| R8 n2<| o4<| b8 rfl<| j8 q)
theorem MS(hz:T.length<=zi)(sf:ws≠ [])(ok:∀s∈ws,y9 s)(h:tl T=u4 cOr (ws.map wdL))(hl:ws.length<64)(ht:(ws.map wdT).sum<64)(q:∀L m G',C6 ws L->D4 L m->Q (sP m) G'):Wp (T3 [.str T]) G Q:=by
 rcases ws with _|⟨w,ws⟩
 ·exact absurd rfl sf
 have hl':=hl;simp only[zu]at hl';refine j9 (show Wp (MF [some (.str T),none,none]) G _ from d8.mpr<| u0<| g8 rfl rfl ?_);refine j9 (show Wp (nG [some (.str T),some (.int 0),none,none]) G _ from d8.mpr<| u0<| g8 rfl rfl<| OS h ?_);refine o6 rfl<| d8.mpr<| u0<| g8 rfl rfl<| pq hz ok h (by lia) λc L G1 tl e1=>?_;obtain⟨f1,f2,f3,f4⟩:=tl.facts;refine o4<| M9.mpr<| j7<| g8 rfl rfl<| IV (λz=>by rw[z]at f1;simp at f1) e1 (f4 ok) ⟨by lia,by lia⟩ (by lia) λm G2 am=>?_;refine b8 rfl ⟨sz,j8 ?_⟩;exact d8.mpr<| M8<| v6<| j4<| b8 rfl<| W6 rfl<| (NC hz).mpr<| SK.mpr ⟨true,show some (decide ((T.length:Int)=T.length))=_ by rw[decide_eq_true rfl],_,rfl,λz=>(nomatch z),λ_=>t7.mpr<| o4<| b8 rfl<| j8<| q L m G2 tl am⟩
end
def PDx:Nat->D->Prop
 |0,_=>False
 |n+1,d=>d= .non\/(∃k,d= .bl k)\/(∃i,d= .int i)\/(∃z,d= .str z)\/∃l,d= .tup l/\l.length<=1000/\∀x∈l,PDx n x
theorem vp(e:fs σ G=some (.ok [.tup k,.tup l],G))(q:R ⟨(k.zip l).map λp=>.tup [p.1,p.2],λ_=>true&&true⟩ G):Wp (D8 fs σ) G R:=by unfold D8;exact d9.mpr<| b8 e<| ⟨_,_,rfl,q⟩
section
variable{G:DH}
theorem fM:∀(l:List D) u v,(∀x∈l,R [x,x] G=some (.ok (.bl true),G))->
 Wp (B1 g23 (SF R) (λ_=>true&&true) ((l.zip l).map λp=>.tup [p.1,p.2]) [a,b,u,v]) G λfl G'=>G'=G/\∃u v,fl= .nx [a,b,u,v]
 |[],u,v,_=>B8.mpr ⟨rfl,rfl,u,v,rfl⟩
 |x::r,u,v,h=>by refine Q7.mpr ⟨rfl,b8 rfl<| M8<| X4.mpr<| C9<| g8 rfl rfl<| b8 (h x (zv ..)) ⟨rfl,λz=>(nomatch z),λ_=>t7.mpr<| fM r _ _ λy hy=>h y (zl _ hy)⟩⟩
theorem BQ:∀ {n N} {d},PDx n d->n<=N->W5 N [d,d] G=some (.ok (.bl true),G)
 |0,_,_,h,_=>h.elim
 |n+1,0,_,_,hn=>by lia
 |n+1,N+1,d,h,hn=>by
   refine W4 (show Wp (m9 4 (kE (W5 N)) [d,d]) G _ from ?_);rcases h with rfl|⟨k,rfl⟩|⟨i,rfl⟩|⟨z,rfl⟩|⟨l,rfl,hl,hx⟩
   ·exact U0 rfl ⟨rfl,rfl⟩
   ·exact U0 (by cases k<;>rfl) ⟨rfl,rfl⟩
   ·refine j9<| o6 (X1:= [some (.int i),some (.int i),none,none]) rfl<| o6 (X1:= [some (.int i),some (.int i),none,none]) rfl<| d8.mpr<| M8<| b8 rfl ⟨λ_=>o4<| MH rfl<| MH rfl<| j4<| b8 rfl<| b8 rfl<| u7.mpr<| j8 ⟨?_,rfl⟩,λz=>(nomatch z)⟩;rw[decide_eq_true rfl]
   ·refine j9<| o6 (X1:= [some (.str z),some (.str z),none,none]) rfl<| o6 (X1:= [some (.str z),some (.str z),none,none]) rfl<| o6 (X1:= [some (.str z),some (.str z),none,none]) rfl<| d8.mpr<| M8<| b8 rfl ⟨λ_=>o4<| MH rfl<| j4<| b8 rfl<| b8 rfl<| uH.mpr<| j8 ⟨?_,rfl⟩,λz=>(nomatch z)⟩;rw[beq_self_eq_true]
   ·have bg:=big;refine j9 (show Wp (kE (W5 N) [some (.tup l),some (.tup l),none,none]) G _ from o6 rfl<| o6 rfl<| o6 rfl<| o6 rfl<| d8.mpr<| M8<| VC<| X4.mpr<| b8 rfl ⟨λz=>(nomatch z),λ_=>v6<| j4<| W6 rfl<| SO.mpr<| W6 rfl<| SO.mpr<| SK.mpr ⟨true,show some (decide ((l.length:Int)=l.length))=_ by rw[decide_eq_true rfl],_,rfl,λz=>(nomatch z),λ_=>t7.mpr ?_⟩⟩);refine d8.mpr<| g6.mpr<| vp rfl<| (fM l none none λx hm=>BQ (hx x hm) (by lia)).mono ?_;rintro _ _ ⟨rfl,u,v,rfl⟩;exact o4<| b8 rfl<| j8 ⟨rfl,rfl⟩
theorem PL(a:Option Int):PDx (n+1) (S9 a):=by
 rcases a with _|a
 ·exact .inl rfl
 ·exact .inr (.inr (.inl ⟨a,rfl⟩))
theorem MB(hl:l.length<=1000)(h:∀x∈l,PDx n x):PDx (n+1) (.tup l):=.inr (.inr (.inr (.inr ⟨_,rfl,hl,h⟩)))
theorem mz(h:s.ns.length<=1000)(h2:s.ts.length<=1000):PDx 4 (sP s):=by
 refine MB (show 5<=1000 by decide) λx hx=>?_;simp only[zr,zT,or_false]at hx;rcases hx with rfl|rfl|rfl|rfl|rfl
 · refine MB (by rw[HA];exact h) λx hx=>?_;obtain⟨r,_,rfl⟩:=zM.mp hx;refine MB (show 2<=1000 by decide) λx hx=>?_;simp only[zr,zT,or_false]at hx;rcases hx with rfl|rfl
   ·exact PL _
   ·exact PL _
 · refine MB (show 2<=1000 by decide) λx hx=>?_;simp only[zr,zT,or_false]at hx;rcases hx with rfl|rfl
   ·exact .inr (.inr (.inr (.inl ⟨_,rfl⟩)))
   ·refine MB (by rw[zf];exact h2) λx hx=>?_;obtain⟨z,_,rfl⟩:=zM.mp hx;exact .inr (.inr (.inr (.inl ⟨_,rfl⟩)))
 · unfold trD;refine MB (by cases s.f<;>cases s.t<;>decide) λx hx=>?_;have:x= .bl false\/x= .bl true:=by
    rcases zR.mp hx with k|k
    · split at k
      ·exact .inl (zm.mp k)
      ·cases k
    · split at k
      ·exact .inr (zm.mp k)
      ·cases k
   rcases this with rfl|rfl
   ·exact .inr (.inl ⟨_,rfl⟩)
   ·exact .inr (.inl ⟨_,rfl⟩)
 ·exact .inl rfl
 ·exact .inl rfl
theorem GQ(h:s.ns.length<=1000)(h2:s.ts.length<=1000):dE [sP s,sP s] G=some (.ok (.bl true),G):=BQ (mz h h2) (by decide)
end
abbrev abc:Str:= "abcdefghijklmnopqrstuvwxyz"
theorem vZ:∀n<26,tl abc= (tl abc).take n++(97+n)::(tl abc).drop (n+1)/\((tl abc).take n).length=n:=by decide
theorem qw(h0:0<=k)(h1:k<26)(q:∀c,97<=c->c<=122->Q (.str ⟨#[c]⟩) G):Wp (ixD (.str abc) (.int k)) G Q:=by obtain⟨n,rfl⟩:=Ys h0;obtain⟨e,l⟩:=vZ n (by lia);have:=lI e (by decide) (q _ (by lia) (by lia));rw[l]at this;exact this
def Lt(z:Str):Prop:=∀c∈tl z,97<=c/\c<=122
theorem Lt.snoc(h:Lt z)(h0:97<=c)(h1:c<=122):Lt (z++⟨#[c]⟩):=λx hx=>by
 have e:tl (z++⟨#[c]⟩)=tl z++[c]:=Zt;rw[e]at hx;rcases zR.mp hx with k|k
 ·exact h x k
 ·rw[zm.mp k];exact⟨h0,h1⟩
theorem KZ:nF=j5 (v7 (z0 m5 c0 ED) N0) (j5 woA (asQ (z0 m5 c0 r9) S1 (j5 woB woR))):=rfl
section
variable{r:Nat}{a b c:Option D}
theorem rO:∀items z u G,Dr G r->Lt z->z.length+items.length<=100->
 Wp (B1 SA woL (λ_=>true) items [sRf r,a,b,c,some (.str z),u]) G λfl G'=>Fd r G G'/\∃z' u',fl= .nx [sRf r,a,b,c,some (.str z'),u']/\TxL z'
 |[],z,u,G,h,hz,hl=>B8.mpr ⟨rfl,Fd.refl h,z,u,rfl,hz,by simp at hl;lia⟩
 |d::t,z,u,G,h,hz,hl=>by have bg:=big;simp only[zu]at hl;refine Q7.mpr ⟨rfl,J8.mpr<| u0<| j4<| b8 rfl<| j4<| b8 rfl<| g8 rfl rfl<| w4 h (by decide) λk k0 k1 G1 f1=>qw k0 k1 λq q0 q1=>(KK (by show z.length+1<=_;lia)).mpr ?_⟩;refine(rO t (z++⟨#[q]⟩) (some d) G1 f1.2.2 (hz.snoc q0 q1) (by rw[Str.length_append];show z.length+1+_<=_;lia)).mono ?_;rintro fl G2 ⟨f2,h2⟩;exact⟨f1.trans f2,h2⟩
theorem fV(h:Dr G r):Wp (woA [sRf r,some (.int w),none,none,none,none]) G λfl G'=>Fd r G G'/\((∃z,fl= .rt (.str z)/\TxL z)\/fl= .nx [sRf r,some (.int w),none,none,none,none]):=by
 have hr:=h.lt;refine M8<| v6<| j4<| b8 rfl<| b8 rfl<| u7.mpr ⟨_,rfl,λ_=>?_,λ_=>t7.mpr ⟨Fd.refl h,.inr rfl⟩⟩;refine d8.mpr<| u0<| b8 rfl ?_;refine d8.mpr<| u0<| j4<| b8 rfl<| b8 (a:=.ref (G++[DO.lst (ZK D.str ["any", "nothing", "number", "text", "truth", "true", "false", "or", "but", "in", "only", "wish"])]).length) (G':=G++[.lst (ZK D.str ["any", "nothing", "number", "text", "truth", "true", "false", "or", "but", "in", "only", "wish"])]++[.lst (ZK D.str ["numbers", "texts", "anyone", "orb"])]) rfl ?_;refine(rA (v9 f9) f9 (by decide)).mpr ?_;generalize hL:ZK D.str ["any", "nothing", "number", "text", "truth", "true", "false", "or", "but", "in", "only", "wish"]=L;generalize hM:ZK D.str ["numbers", "texts", "anyone", "orb"]=M;refine o4<| j4<| b8 rfl<| g8 rfl rfl<| w4 h.app.app.app (by decide) λk k0 k1 G1 f1=>?_;have e1:=f1.at (by simp;lia) f9;have fd:=((Fd.app h).trans ((Fd.app h.app).trans (Fd.app h.app.app))).trans f1;obtain⟨d,hd,e⟩:=bK (l:=L++M) k0 (by subst hL hM;simp;lia);refine(F7 e1).mpr ⟨d,e,fd,.inl ?_⟩;have tx:∀z∈(["any", "nothing", "number", "text", "truth", "true", "false", "or", "but", "in", "only", "wish", "numbers", "texts", "anyone", "orb"]:List Str),(∀c∈tl z,97<=c/\c<=122)/\z.length<=1000:=by decide +kernel
 subst hL hM;rw[<-zY]at hd;obtain⟨z,hz,rfl⟩:=zM.mp hd;exact⟨z,rfl,tx z hz⟩
theorem hU(h:Dr G r):Wp (bG [.ref r]) G λx G'=>∃z,x= .str z/\TxL z/\Fd r G G':=by
 refine j9 (show Wp (nF [sRf r,none,none,none,none,none]) G _ from ?_);rw[KZ];refine d8.mpr<| u0<| g8 rfl rfl<| w4 h (by decide) λw w0 w1 G1 f1=>?_;refine d8.mpr<| (fV f1.2.2).mono ?_;rintro fl G2 ⟨f2,k⟩;rcases k with⟨z,rfl,hz⟩|rfl
 ·exact j8 ⟨z,rfl,hz,f1.trans f2⟩
 have key:∀(m:Int) (G4:DH),0<=m->m<31->Fd r G G4->Wp (woR [sRf r,some (.int w),none,some (.int m),none,none]) G4 (PB λx G'=>∃z,x= .str z/\TxL z/\Fd r G G'):=by
  intro m G4 m0 m1 f4;refine d8.mpr<| u0<| b8 rfl<| d8.mpr<| g6.mpr<| ME.mpr<| b8 rfl<| (wD ⟨by lia,by lia⟩).mpr<| (rO (N8 0 m.toNat) "" none G4 f4.2.2 (λ_ z=>nomatch z) ?_).mono ?_
  ·unfold N8;rw[zf,jZ,show (("" :Str).length)=0 from rfl];lia
  ·rintro fl G5 ⟨f5,z,u,rfl,hz⟩;exact o4<| b8 rfl<| j8 ⟨z,rfl,hz,f4.trans f5⟩
 refine d8.mpr<| u0<| g8 rfl rfl<| w4 f2.2.2 (by decide) λk k0 k1 G3 f3=>?_;refine d8.mpr<| M8<| v6<| j4<| b8 rfl<| b8 rfl<| u7.mpr ⟨_,rfl,λ_=>?_,λ_=>t7.mpr<| key k G3 k0 (by lia) ((f1.trans f2).trans f3)⟩;refine u0<| g8 rfl rfl<| w4 f3.2.2 (by decide) λm m0 m1 G4 f4=>key m G4 m0 m1 (((f1.trans f2).trans f3).trans f4)
end
section
variable{r c:Nat}{a b d e:Option D}{ρ:DSt}
abbrev wwS(a b d e:Option D)(r c:Nat)(ρ:DSt):DSt:=a::some (.ref r)::b::d::e::some (.ref c)::ρ
theorem vO:∀n (ws:List Str) G,c≠r->Dr G r->G[c]? =some (.lst (ws.map D.str))->(∀z∈ws,TxL z)->ws.length+n=50->
 Wp (K8 (n+1) wwT wwB (wwS a b d e r c ρ)) G λfl G'=>∃ws:List Str,fl= .nx (wwS a b d e r c ρ)/\G'[c]? =some (.lst (ws.map D.str))/\(∀z∈ws,TxL z)/\ws.length<=50
 |n,ws,G,hc,h,eq,ok,hn=>by
   have bg:=big;obtain⟨ns,er⟩:=h;refine R6.mpr<| B5<| v6<| j4<| b8 rfl<| b8 rfl<| (eK (v9 er) f9).mpr ⟨_,rfl,λ_=>?_,λ_=>?_⟩
   · refine v6<| j4<| W6 rfl<| (QJ (v9 eq)).mpr<| b8 rfl<| lt_int.mpr ⟨_,rfl,?_⟩;by_cases k:((ws.map D.str).length:Int)<50
     · rw[decide_eq_true k,if_pos rfl];rw[zf]at k;have e1:=v9 (t:= [.lst []]) eq;refine l8.mpr<| A3.mpr<| b8 rfl<| (N7 e1).mpr<| j7<| g8 rfl rfl<| (hU (Dr.app ⟨ns,er⟩)).mono λ_ G2 q=>?_;obtain⟨z,rfl,hz,f2⟩:=q;have e2:=f2.at hc e1;refine o8.mpr<| (Q8 e2 (by rw[zf];lia)).mpr ?_;rcases n with _|n
       ·lia
       ·refine vO n (ws++[z]) _ hc (f2.2.2.set hc) ?_ (λy hy=>(zR.mp hy).elim (ok y) λw=>by rw[zm.mp w];exact hz) (by rw[zd,jY];lia);rw[jo (lt_of_get e2),zY];rfl
     ·rw[decide_eq_false k,if_neg zz];exact⟨ws,rfl,v9 eq,ok,by lia⟩
   ·rw[if_neg zz];exact⟨ws,rfl,v9 eq,ok,by lia⟩
end
def prL(z:Str):Int×Str:=((z.length:Int),z)
theorem pR:∀l us:List (Int×Str),(l.foldl ddQ us).length<=us.length+l.length
 |[],us=>zh _
 |q::l,us=>by
   have:=pR l (ddQ us q);have h:(ddQ us q).length<=us.length+1:=by
    unfold ddQ;split
    ·lia
    ·rw[zd];exact zh _
   rw[xB,zu];lia
theorem fz(ws:List Str):∃m:List Str,A5 ((ws.map prL).foldl ddQ []) (((ws.map prL).foldl ddQ []).map qD)=m.map (λz=>.tup [.int z.length,.str z])/\Ris m/\(∀z,z∈m↔z∈ws)/\m.length<=ws.length:=by
 have nd:=TH (ws.map prL) [] ZJ;have mem:=HQ (ws.map prL) [];have len:=pR (ws.map prL) [];generalize (ws.map prL).foldl ddQ []=us at nd mem len;have hu:∀q∈us,q=prL q.2:=λq hq=>by
  rcases (mem q).mp hq with k|k
  ·cases k
  ·obtain⟨z,_,rfl⟩:=zM.mp k;rfl
 have e0:us= (us.map (·.2)).map prL:=by
  rw[jg]
  conv=>lhs;rw[<-Jm us]
  exact ym λq hq=>hu q hq
 have nd0:(us.map (·.2)).Nodup:=by rw[e0]at nd;exact(jJ.mp nd).imp λh z=>h (by rw[z])
 obtain⟨m,_,r,p⟩:=nP nd0;have hp:(m.map prL).Perm us:=by rw[e0];exact p.map _
 have pw:(m.map prL).Pairwise λx y=>W2 x y=true:=jJ.mpr (r.imp λ{a b} h=>by rw[KG]at h;exact h);refine⟨m,?_,r,λz=>?_,?_⟩
 ·rw[<-OL nd hp pw,jg];rfl
 · rw[p.mem_iff,zM];constructor
   · rintro⟨q,hq,rfl⟩;rcases (mem q).mp hq with k|k
     ·cases k
     ·obtain⟨z,hz,rfl⟩:=zM.mp k;exact hz
   ·exact λhz=>⟨prL z,(mem _).mpr (.inr (zM.mpr ⟨z,hz,rfl⟩)),rfl⟩
 ·rw[p.length_eq,zf];rw[zf]at len;simpa using len
theorem Pj:NE=o9 (C0 V8 (M6 (itW (VE rkC)) [none,none] g01 (V4) g0)):=rfl
theorem Dp{ws:List Str}(e:G[c]? =some (.lst (ws.map D.str)))(tx:∀z∈ws,TxL z)(hl:ws.length<=50)(q:∀m G',Ris m->(∀z,z∈m↔z∈ws)->m.length<=50->Ap G G'->Q (.tup (m.map D.str)) G'):Wp (qG [.ref c]) G Q:=by
 have bg:=big;refine j9 (show Wp (NE [sRf c]) G _ from ?_);rw[Pj];obtain⟨m,em,r,mm,lm⟩:=fz ws;have ea:rkC [sRf c] G=some (.ok (.ref G.length),G++[.lst (ws.map λz=>.tup [.int z.length,.str z])]):=by
  suffices w:Wp (rkC [sRf c]) G λx G'=>x= .ref G.length/\G'=G++[.lst (ws.map λz=>.tup [.int z.length,.str z])] by
   obtain⟨_,_,w,rfl,rfl⟩:=w;exact w
  refine wp_comp.mpr<| wp_itW.mpr<| b8 rfl<| (gB e).mpr ⟨by rw[zf];lia,?_⟩;refine b8 (MD (L5 e) ws none λz hz=>W4<| M9.mpr<| j7<| W6 rfl<| (NC (zS (tx z hz).2 (by lia))).mpr<| b8 rfl ⟨sz,rfl,rfl⟩) ⟨rfl,rfl⟩
 refine o4<| R9<| j7<| wp_comp.mpr<| wp_itW.mpr<| Fp (qs:=ws.map prL) ea f9 (KH ws) (by rw[zf];lia) ?_;rw[em];refine(gB f9).mpr ⟨by rw[zf];lia,b8 (sD (mk:=λz:Str=>(.int z.length,.str z)) (L5 f9) m none none λz _=>rfl)<| o8.mpr<| (W3 f9).mpr<| j8<| q m _ r mm (by lia) ((Ap.one.trans Ap.one).trans Ap.one)⟩
theorem OT:X6=j5 nuM (j5 nuS (asQ (Q5 o0) S1 (j5 (y3 (c5 (L0 g0)) t3 nuB) (asQ (z0 m5 c0 mD) SA (j5 nuL (j5 nuH (j5 nuA (o9 (H0 V5 D0))))))))):=rfl
section
variable{r:Nat}
theorem mL:∀items u G,Dr G r->
 Wp (J7 P2 V4 nuE (λ_=>true) items [u,sRf r]) G λys G'=>∃ns:List Int,ys=ns.map D.int/\(∀n∈ns,B2 n)/\ns.length=items.length/\Fd r G G'
 |[],u,G,h=>lD.mpr ⟨rfl, [],rfl,λ_ z=>(nomatch z),rfl,Fd.refl h⟩
 |d::t,u,G,h=>by refine uG.mpr ⟨rfl,b8 rfl<| b8 rfl ?_⟩;rw[if_pos rfl];refine g8 rfl rfl<| (nJ h).mono ?_;rintro _ G1 ⟨i,rfl,hi,f1⟩;refine(mL t _ G1 f1.2.2).mono ?_;rintro _ G2 ⟨ns,rfl,hn,hl,f2⟩;exact⟨i::ns,rfl,λn hm=>(zr.mp hm).elim (λe=>e▸hi) (hn n),by simp[hl],f1.trans f2⟩
variable{p q:Nat}{w:Option D}{S:List Int}
abbrev nuX(r p q:Nat)(m:Int)(u w:Option D):DSt:= [sRf r,some (.int m),sRf p,sRf q,u,w]
structure Nu(r q:Nat)(G G':DH)(prs:List (Int×Int)):Prop where
 ok:∀x∈prs,C1 x
 at_:G'[q]? =some (.lst (prs.map pD))
 dr:Dr G' r
 old:G.length<=G'.length/\∀i,i≠r->i≠q->i<G.length->G'[i]? =G[i]?
theorem Nu.more(hq:q≠r)(h:Nu r q G G1 prs)(f:Fd r G1 G2)(ok:C1 x):G2[q]? =some (.lst (prs.map pD))/\Nu r q G (G2.set q (.lst (prs.map pD++[pD x]))) (prs++[x]):=by
 have e2:=f.at hq h.at_;refine⟨e2,λy hy=>(zR.mp hy).elim (h.ok y) λz=>by rw[zm.mp z];exact ok,?_,f.2.2.set hq,?_,λi hi hq' hl=>?_⟩
 ·rw[jo (lt_of_get e2),zY];rfl
 ·rw[Zc];exact zS h.old.1 f.1
 ·rw[jL (Ne.symm hq'),f.2.1 i hi (by have:=h.old.1;lia),h.old.2 i hi hq' hl]
theorem kQ{l:List Int}(hk:k=n)(hn:n<l.length):atI (l.map D.int) k=some (.int l[n]):=by subst hk;exact atI_nat (by simp[hn])
theorem SQ(hq:q≠r)(hp:p≠r)(um:p≠q)(hS:S.Pairwise (· <= ·))(hs:∀n∈S,B2 n)(ep:G[p]? =some (.lst (S.map D.int)))(hL:S.length=2*n0):∀(n k:Nat) (prs:List (Int×Int)) u (G1:DH),k+n=n0->Nu r q G G1 prs->prs.length<=k->n0<=10->
 Wp (B1 t3 nuB (λ_=>true) ((List.range' k n).map λi:Nat=>D.int ((0:Int)+(i:Int))) (nuX r p q m u w)) G1 λfl G'=>(∃u,fl= .nx (nuX r p q m u w))/\∃prs',Nu r q G G' prs'/\prs'.length<=n0
 |0,k,prs,u,G1,hk,h,hl,h10=>B8.mpr ⟨rfl,⟨u,rfl⟩,prs,h,by lia⟩
 |n+1,k,prs,u,G1,hk,h,hl,h10=>by
   have bg:=big;have e1:G1[p]? =some (.lst (S.map D.int)):=by rw[h.old.2 p hp um (lt_of_get ep)];exact ep
   rw[List.range'_succ,zH];refine Q7.mpr ⟨rfl,J8.mpr<| l8.mpr<| A3.mpr<| b8 rfl<| (N7 h.at_).mpr<| j7<| M9.mpr<| j7<| j4<| b8 rfl<| j4<| b8 rfl<| b8 rfl<| (O3 (Or.inl ⟨by decide,by lia⟩)).mpr<| (F7 e1).mpr ⟨.int S[2*k],kQ (by lia) (by lia),?_⟩⟩;refine j7<| j4<| b8 rfl<| j4<| j4<| b8 rfl<| b8 rfl<| (O3 (Or.inl ⟨by decide,by lia⟩)).mpr<| g8 rfl rfl<| w4 h.dr (by decide) λt t0 t1 G2 f2=>N9.mpr ?_;obtain⟨t,rfl⟩:=Ys t0;have ok:C1 (S[2*k],S[2*k+t]):=⟨by
    show S[2*k]<=S[2*k+t];rcases ZU t with rfl|c
    ·exact Ye _
    ·exact xa.mp hS _ _ _ _ (by lia),.inl (hs _ (Je _)),.inl (hs _ (Je _))⟩
   obtain⟨e2,nu⟩:=h.more hq f2 ok;refine(F7 (f2.at hp e1)).mpr ⟨.int S[2*k+t],kQ (by lia) (by lia),o8.mpr ⟨sz,o8.mpr<| (Q8 e2 (by rw[zf];lia)).mpr ?_⟩⟩;refine SQ hq hp um hS hs ep hL n (k+1) _ _ _ (by lia) nu (by rw[zd,jY];lia) h10
end
section
variable{r p q:Nat}{m:Int}{u:Option D}{G G1:DH}{prs:List (Int×Int)}
theorem FQ{a b w:Int}(w0:0<=w)(w1:w<8)(h:(a=1/\b=3)\/(a=2/\b=3)):∃k,B6 (binE inD P8 (B0 (cE (.int a)) (cE (.int b)))) (nuX r p q m u (some (.int w))) G=some (.ok k,G):=by
 have:w=0\/w=1\/w=2\/w=3\/w=4\/w=5\/w=6\/w=7:=by lia
 rcases h with⟨rfl,rfl⟩|⟨rfl,rfl⟩<;>rcases this with rfl|rfl|rfl|rfl|rfl|rfl|rfl|rfl<;>exact⟨_,rfl⟩
abbrev NuQ(r p q:Nat)(m:Int)(u:Option D)(w:Int)(G:DH)(n:Nat)(fl:Fl)(G':DH):Prop:=fl= .nx (nuX r p q m u (some (.int w)))/\∃prs',Nu r q G G' prs'/\prs'.length<=n+1
theorem aJ{w:Int}{x:Int×Int}{G2:DH}{fs:DSt->M (List D)}{a:Fe}(hq:q≠r)(h:Nu r q G G1 prs)(hl:prs.length<=40)(ok:C1 x)(ew:Wp (a (nuX r p q m u (some (.int w)))) G1 λd G'=>d=pD x/\Fd r G1 G'):
 Wp (S5 (mtE v5 v8 D0 (L0 a)) (nuX r p q m u (some (.int w)))) G1 (NuQ r p q m u w G prs.length):=by
 have bg:=big;refine l8.mpr<| A3.mpr<| b8 rfl<| (N7 h.at_).mpr<| j7<| ew.mono ?_;rintro _ G2 ⟨rfl,f⟩;obtain⟨e2,nu⟩:=h.more hq f ok;exact o8.mpr<| (Q8 e2 (by rw[zf];lia)).mpr ⟨rfl,_,nu,by rw[zd,jY];lia⟩
theorem dF{σ:DSt}{R:DPP}(k:R (.int e30) G):Wp (binE F3 C7 (cIn 30) σ) G R:=j4<| b8 rfl<| b8 rfl<| p30.mpr k
theorem Lj(w0:0<=w)(w1:w<8)(hq:q≠r)(h:Nu r q G G1 prs)(hl:prs.length<=40):Wp (nuL (nuX r p q m u (some (.int w)))) G1 (NuQ r p q m u w G prs.length):=by obtain⟨k,ek⟩:=FQ w0 w1 (.inl ⟨rfl,rfl⟩);refine mM ek (λ_=>?_) λ_=>t7.mpr ⟨rfl,prs,h,by lia⟩;obtain⟨i,G2,em,_⟩:=nJ h.dr;obtain⟨i,rfl,hi,f⟩:= ‹∃j,i= .int j/\_›;refine aJ (x:=(-e30,i)) (G2:=G1) (fs:=o0) hq h hl ⟨by unfold B2 at hi;show -e30<=i;lia,.inr rfl,.inl hi⟩ ?_;exact M9.mpr<| j7<| MG.mpr<| dF<| FI.mpr<| j7<| g8 rfl rfl<| b8 em<| o8.mpr ⟨sz,rfl,f⟩
theorem iz(w0:0<=w)(w1:w<8)(hq:q≠r)(h:Nu r q G G1 prs)(hl:prs.length<=40):Wp (nuH (nuX r p q m u (some (.int w)))) G1 (NuQ r p q m u w G prs.length):=by obtain⟨k,ek⟩:=FQ w0 w1 (.inr ⟨rfl,rfl⟩);refine mM ek (λ_=>?_) λ_=>t7.mpr ⟨rfl,prs,h,by lia⟩;obtain⟨i,G2,em,_⟩:=nJ h.dr;obtain⟨i,rfl,hi,f⟩:= ‹∃j,i= .int j/\_›;refine aJ (x:=(i,e30)) (G2:=G1) (fs:=o0) hq h hl ⟨by unfold B2 at hi;show i<=e30;lia,.inl hi,.inr rfl⟩ ?_;exact M9.mpr<| j7<| g8 rfl rfl<| b8 em<| j7<| dF<| o8.mpr ⟨sz,rfl,f⟩
theorem Bg(hq:q≠r)(h:Nu r q G G1 prs)(hl:prs.length<=40):Wp (nuA (nuX r p q m u (some (.int w)))) G1 (NuQ r p q m u w G prs.length):=by refine M8<| v6<| j4<| b8 rfl<| b8 rfl<| u7.mpr ⟨_,rfl,λ_=>?_,λ_=>t7.mpr ⟨rfl,prs,h,by lia⟩⟩;refine aJ (x:=(-e30,e30)) (G2:=G1) (fs:=o0) hq h hl ⟨by decide,.inr rfl,.inr rfl⟩ ?_;exact M9.mpr<| j7<| MG.mpr<| dF<| FI.mpr<| j7<| dF<| o8.mpr ⟨sz,rfl,Fd.refl h.dr⟩
theorem Hz(h:Dr G r):Wp (nuM [sRf r,none,none,none,none,none]) G λfl G'=>Fd r G G'/\∃n:Nat,n<=6/\fl= .nx [sRf r,some (.int n),none,none,none,none]:=by
 refine u0 ?_;refine j4 ?_;refine b8 rfl ?_;refine g8 rfl rfl ?_;refine wJ h rfl (by decide) λd hd G2 f=>⟨f,?_⟩;simp only[zr,zT,or_false]at hd;rcases hd with rfl|rfl|rfl|rfl|rfl|rfl|rfl|rfl
 ·exact⟨1,by decide,rfl⟩
 ·exact⟨1,by decide,rfl⟩
 ·exact⟨2,by decide,rfl⟩
 ·exact⟨3,by decide,rfl⟩
 ·exact⟨0,by decide,rfl⟩
 ·exact⟨1,by decide,rfl⟩
 ·exact⟨6,by decide,rfl⟩
 ·exact⟨2,by decide,rfl⟩
theorem Bw{n:Nat}(hn:n<=6)(h:Dr G r):Wp (nuS [sRf r,some (.int n),none,none,none,none]) G λfl G'=>∃(S:List Int) (p:Nat),fl= .nx [sRf r,some (.int n),sRf p,none,none,none]/\S.Pairwise (· <= ·)/\(∀i∈S,B2 i)/\S.length=2*n/\G'[p]? =some (.lst (S.map D.int))/\G.length<=p/\Fd r G G':=by
 have bg:=big;have l0:(N8 0 ((2:Int)*n).toNat).length=2*n:=by unfold N8;rw[zf,jZ];lia
 refine u0<| R9<| j7<| wp_comp.mpr<| ME.mpr<| j7<| j4<| b8 rfl<| b8 rfl<| (O3 (Or.inl ⟨by decide,by lia⟩)).mpr<| o8.mpr<| (wD ⟨by lia,by lia⟩).mpr ⟨by rw[l0];lia,(mL (N8 0 ((2:Int)*n).toNat) none G h).mono ?_⟩;rintro _ G1 ⟨ns,rfl,hs,hl,f⟩;rw[l0]at hl;refine o8.mpr<| (gp f9 (by lia)).mpr ⟨rC ns,_,rfl,pM ns,λi hi=>hs i ((tG ns).mem_iff.mp hi),by rw[(tG ns).length_eq];exact hl,f9,?_,(f.trans (Fd.app f.2.2)).trans (Fd.app f.2.2.app)⟩;have:=f.1;simp;lia
theorem sW(h:Dr G r):Wp (X8 [.ref r]) G λx G'=>∃due,x= .tup (rsD due)/\Can due/\due.length<=9/\(∀z∈due,smR z)/\Fd r G G':=by
 refine j9 (show Wp (X6 [sRf r,none,none,none,none,none]) G _ from ?_);rw[OT];refine d8.mpr<| (Hz h).mono ?_;rintro _ G1 ⟨f1,n,hn,rfl⟩;refine d8.mpr<| (Bw hn f1.2.2).mono ?_;rintro _ G2 ⟨S,p,rfl,pw,hs,hl,ep,lp,f2⟩;have f02:=f1.trans f2;have hr2:=f2.2.2.lt;have hr1:=f1.2.2.lt;have hpr:p≠r:=by lia
 have hp2:=lt_of_get ep;refine d8.mpr<| u0<| b8 rfl ?_;have hq:G2.length≠r:=by lia
 have nu0:Nu r G2.length (G2++[.lst []]) (G2++[.lst []]) []:=⟨λ_ z=>(nomatch z),f9,f2.2.2.app,zh _,λ_ _ _ _=>rfl⟩;refine d8.mpr<| g6.mpr<| ME.mpr<| b8 rfl<| (wD ⟨by lia,by lia⟩).mpr ?_;have er:N8 0 (n:Int).toNat= (List.range' 0 n).map λi:Nat=>D.int ((0:Int)+(i:Int)):=by unfold N8;rw[List.range_eq_range',ya]
 show Wp (B1 t3 nuB (λ_=>true) (N8 0 (n:Int).toNat) (nuX r p G2.length n none none)) _ _;rw[er];refine(SQ hq hpr (by lia) pw hs (v9 ep) hl n 0 [] none _ (by lia) nu0 (by simp) (by lia)).mono ?_;rintro _ G3 ⟨⟨u,rfl⟩,prs,nu,l3⟩;refine d8.mpr<| u0<| g8 rfl rfl<| w4 nu.dr (by decide) λw w0 w1 G4 f4=>?_;have nu4:Nu r G2.length (G2++[.lst []]) G4 prs:=⟨nu.ok,f4.at hq nu.at_,f4.2.2,zS nu.old.1 f4.1,λi hi hj hk=>by rw[f4.2.1 i hi (by have:=nu.old.1;lia),nu.old.2 i hi hj hk]⟩;refine d8.mpr<| (Lj w0 w1 hq nu4 (by lia)).mono ?_;rintro _ G5 ⟨rfl,prs5,nu5,l5⟩;refine d8.mpr<| (iz w0 w1 hq nu5 (by lia)).mono ?_;rintro _ G6 ⟨rfl,prs6,nu6,l6⟩;refine d8.mpr<| (Bg hq nu6 (by lia)).mono ?_;rintro _ G7 ⟨rfl,prs7,nu7,l7⟩;refine o4<| g8 rfl rfl<| (Tw nu7.ok nu7.at_ (by lia)).mono ?_;rintro _ G8 ⟨due,rfl,s2,ld,hp,t,rfl⟩;refine j8 ⟨due,rfl,s2.1,by lia,λz hz=>?_,?_⟩
 ·obtain⟨x,ok,rfl⟩:=hp z hz;exact ok.sm
 · refine⟨?_,λi hi hl'=>?_,nu7.dr.app⟩
   ·have:=nu7.old.1;have:=f02.1;simp only[zd]at *;lia
   ·have o1:=nu7.old.1;have o2:=f02.1;simp only[zd]at o1;rw[zB (by lia),nu7.old.2 i hi (by lia) (by rw[zd];lia),zB (by lia),f02.2.1 i hi hl']
end
def K9(b:Bool)(ts:List Str):List Wd:=if b then ts.map Wd.txt else if ts= []then [.all]else [.but ts]
def V2(f t:Bool):List Wd:=if f&&t then [.both]else (if f then [.tru false]else [])++if t then [.tru true]else []
def U8(s:PS):List Wd:=s.ns.map Wd.num++K9 s.b s.ts++V2 s.f s.t
structure uA(s:PS):Prop where
 can:Can s.ns
 sm:∀r∈s.ns,smR r
 ln:s.ns.length<=9
 rs:Ris s.ts
 tx:∀z∈s.ts,TxL z
 lt:s.ts.length<=50
def szM(L:List (List Nat)):Nat:=L.flatten.length
theorem HB:szM (a::L)=a.length+szM L:=by unfold szM;rw[List.flatten_cons,zd]
theorem KQ{L M:List (List Nat)}:szM (L++M)=szM L+szM M:=by unfold szM;rw[List.flatten_append,zd]
theorem nE(h:∀a∈L,a.length<=k):szM L<=k*L.length:=by
 induction L with
 |nil=>exact zL _
 |cons a r ih=>
   have:=ih λx hx=>h x (zl _ hx);have:=h a (zv ..);rw[HB,zu,Nat.mul_succ];lia
theorem NK:∀L:List (List Nat),(glL s L).length=szM L+s.length*L.length
 |[]=>rfl
 |a::r=>by show (s++a++glL s r).length=_;rw[zd,zd,NK r,HB,zu,Nat.mul_succ];lia
theorem bw(L:List (List Nat)):(u4 s L).length<=szM L+s.length*L.length:=by
 rcases L with _|⟨a,r⟩
 ·exact zL _
 ·show (a++glL s r).length<=_;rw[zd,NK,HB,zu,Nat.mul_succ];lia
theorem VG:(qL z).length=z.length+2:=by unfold qL;rw[zu,zd];rfl
theorem bJ(ts:List Str):glL [32] (ts.map qL)=bqL ts:=by
 induction ts with
 |nil=>rfl
 |cons z r ih=>
   show [32]++qL z++glL [32] (r.map qL)=_;rw[ih];unfold bqL;rw[XL];rfl
theorem LP: [32]++u4 [32] ((z::ts).map qL)=bqL (z::ts):=by rw[<-bJ];show [32]++(qL z++glL [32] (ts.map qL))= [32]++qL z++glL [32] (ts.map qL);rw[zJ]
theorem NH(h:∀z∈ts,TxL z)(hl:ts.length<=51):(bqL ts).length<=52000:=by
 rw[<-bJ,NK];have:=nE (L:=ts.map qL) (k:=1002) λa ha=>by obtain⟨z,hz,rfl⟩:=zM.mp ha;rw[VG];have:=(h z hz).2;lia
 rw[zf]at this ⊢;show _+1*_<=_;lia
section
variable{G:DH}{Q:DPP}
theorem cC(h:a.length+b.length<=1000000)(q:Q (.str (ofL (a++b))) G):Wp (addD (.str (ofL a)) (.str (ofL b))) G Q:=by have bg:=big;refine(KK (zS (show (ofL a).length+(ofL b).length<=1000000 from h) (by lia))).mpr ?_;rw[LQ];exact q
theorem bD(e:G[r]? =some (.lst (K4 f l)))(h:szM (l.map f)+l.length*s.length<=1000000)(q:Q (.str (ofL (u4 (tl s) (l.map f)))) G):Wp (w9 (.str s) [.ref r]) G Q:=by
 refine(kn e (GM f l) ?_).mpr ?_
 · have:((l.map λd=>ofL (f d)).map (·.length)).sum=szM (l.map f):=by
    unfold szM;rw[List.length_flatten,jg,jg];rfl
   rw[this,zf];lia
 ·rw[show XQ s (l.map λd=>ofL (f d))=ofL (u4 (tl s) (l.map f))from bH (by rw[UW,jg];rfl)];exact q
theorem sQ(h:TxL z)(ea:a σ G=some (.ok (.str z),G))(q:Q (.str (ofL (qL z))) G):Wp (binE addD (binE addD (cE (.str ("\"" :Str))) a) (cE (.str ("\"" :Str))) σ) G Q:=by have hz:=h.2;refine j4<| j4<| b8 rfl<| b8 ea<| cC (by show 1+z.length<=_;lia)<| b8 rfl<| cC (by rw[zd];show 1+z.length+1<=_;lia) ?_;exact q
end
def fwN:Fe:=(M6 (itW c0) [none,none] g01 (V4) (z0 K3 c0 g0))
theorem dY:S6=j5 (v7 fwN S1) (asQ fwX t3 (j5 fwA (j5 fwB (o9 D0)))):=rfl
section
variable{G:DH}{Q:DPP}{a:Option D}{c d:Nat}
abbrev fwS(a:Option D)(b:Bool)(ts:List Str)(f t:Bool)(c d:Nat):DSt:= [a,some (O8 b ts),some (trD f t),sRf c,sRf d]
theorem ID(hG:Ap G0 G)(e:G0[c]? =some (.lst (K4 wdL W)))(hl:W.length<=200)(ev:Wp (fe (fwS a b ts f t c d)) G λx G'=>x= .str (ofL (wdL w))/\Ap G G'):
 Wp (S5 (mtE v5 v8 D0 (L0 fe)) (fwS a b ts f t c d)) G λfl G'=>fl= .nx (fwS a b ts f t c d)/\G'[c]? =some (.lst (K4 wdL (W++[w])))/\Fq c G0 G':=by
 have bg:=big;have e0:=hG.at e;refine l8.mpr<| A3.mpr<| b8 rfl<| (N7 e0).mpr<| j7<| ev.mono ?_;rintro _ G1 ⟨rfl,a1⟩;have e1:=a1.at e0;refine o8.mpr<| (Q8 e1 (by unfold K4;rw[zf];lia)).mpr ⟨rfl,?_,?_⟩
 ·rw[jo (lt_of_get e1)];unfold K4;rw[zY];rfl
 ·refine⟨by rw[Zc];exact(hG.trans a1).len,λi hi sd=>?_⟩;rw[jL (Ne.symm hi)];obtain⟨t,rfl⟩:=hG.trans a1;exact zB sd
theorem Gb(e:G[c]? =some (.lst (K4 wdL W)))(hl:W.length<=200):
 Wp (fwB (fwS a b ts f t c d)) G λfl G'=>fl= .nx (fwS a b ts f t c d)/\G'[c]? =some (.lst (K4 wdL (W++V2 f t)))/\Fq c G G':=by
 cases f<;>cases t
 ·refine EB rfl<| EB rfl<| t7.mpr ⟨rfl,?_,Fq.refl⟩;rw[show V2 false false= []from rfl,jH];exact e
 ·refine EB rfl<| mC rfl<| ID Ap.refl e hl ?_;exact j4<| b8 rfl<| b8 rfl<| (F7 f9).mpr ⟨.str ("true" :Str),rfl,rfl,Ap.one⟩
 ·refine EB rfl<| mC rfl<| ID Ap.refl e hl ?_;exact j4<| b8 rfl<| b8 rfl<| (F7 f9).mpr ⟨.str ("false" :Str),rfl,rfl,Ap.one⟩
 ·exact mC rfl<| ID Ap.refl e hl<| b8 rfl ⟨rfl,Ap.refl⟩
theorem LJ:K4 f (l++m)=K4 f l++K4 f m:=zY
theorem fX(tx:∀z∈ts,TxL z)(lt:ts.length<=50)(e:G[c]? =some (.lst (K4 wdL W)))(ed:G[d]? =some (.lst (K4 qL ts)))(hl:W.length<=100):
 Wp (fwA (fwS a b ts f t c d)) G λfl G'=>∃c',fl= .nx (fwS a b ts f t c' d)/\G'[c']? =some (.lst (K4 wdL (W++K9 b ts)))/\(c'=c\/G.length<=c')/\Fq c G G':=by
 have bg:=big;have hw:(K4 wdL W).length=W.length:=zf ..;have ht:(K4 qL ts).length=ts.length:=zf ..
 cases b
 · refine EB rfl<| M8<| v6<| j4<| b8 rfl<| b8 rfl<| (iM (v9 ed) f9).mpr ⟨_,rfl,λk=>?_,λk=>?_⟩
   · rcases ts with _|⟨z,ts⟩
     · refine(ID (w:=.all) Ap.one e (by lia) ?_).mono ?_
       ·exact b8 rfl ⟨rfl,Ap.refl⟩
       rintro _ G' ⟨rfl,e',f'⟩;exact⟨c,rfl,e',.inl rfl,f'⟩
     ·cases k
   · rcases ts with _|⟨z,ts⟩
     ·cases k
     · have sz1:szM ((z::ts).map qL)<=52000:=by
        have:=nE (L:=(z::ts).map qL) (k:=1002) λa ha=>by obtain⟨y,hy,rfl⟩:=zM.mp ha;rw[VG];have:=(tx y hy).2;lia
        rw[zf]at this;lia
       have lb:=NH tx (by lia);refine(ID (w:=.but (z::ts)) Ap.one e (by lia) ?_).mono ?_
       ·refine j4<| b8 (a:=.str (ofL (cTb++[32]))) rfl<| A3.mpr<| b8 rfl<| uD.mpr<| b8 rfl<| bD (v9 ed) (by show _+_*1<=_;lia) ?_;rw[show tl (" " :Str)= [32]from rfl];have hb:=congrArg xv (LP (z:=z) (ts:=ts));rw[zd]at hb;refine cC (by rw[zd];show 8+1+_<=_;have: [32].length=1:=rfl;lia) ⟨?_,Ap.refl⟩;rw[zJ,LP];rfl
       ·rintro _ G' ⟨rfl,e',f'⟩;exact⟨c,rfl,e',.inl rfl,f'⟩
 ·refine mC rfl<| u0<| j4<| b8 rfl<| b8 rfl<| (rA e ed (by lia)).mpr ⟨G.length,rfl,?_,.inr (zh _),⟨by simp,λi _ h=>zB h⟩⟩;rw[f9,LJ];congr 3;show _=K4 wdL (ts.map Wd.txt);unfold K4;rw[jg];rfl
theorem Td(h:uA s)(q:∀r G',G'[r]? =some (.lst (K4 wdL (U8 s)))->Ap G G'->Q (.ref r) G'):Wp (S7 [.tup (rsD s.ns),O8 s.b s.ts,trD s.f s.t]) G Q:=by
 have bg:=big;refine j9 (show Wp (S6 [some (.tup (rsD s.ns)),some (O8 s.b s.ts),some (trD s.f s.t),none,none]) G _ from ?_);rw[dY];have l0:=h.ln;have l1:=h.lt;refine d8.mpr<| u0<| iE rfl (by rw[HA];lia)<| b8 (sD (mk:=λp:Rg=>(S9 p.1,S9 p.2)) rfl s.ns none none λr hr=>W4<| g8 rfl rfl<| uZ (h.sm r hr) ⟨rfl,rfl⟩) ?_;have e1:(G++[DO.lst (s.ns.map λr=>D.str (ofL (swL r)))])[G.length]? =some (.lst (K4 wdL (s.ns.map Wd.num))):=by rw[f9];unfold K4;rw[jg];rfl
 generalize hH:G++[DO.lst (s.ns.map λr=>D.str (ofL (swL r)))]=H at e1;have aH:Ap G H:=⟨_,hH.symm⟩;refine d8.mpr<| u0<| iE rfl (by rw[zf];lia)<| b8 (MD rfl s.ts none λz hz=>W4<| sQ (h.tx z hz) rfl ⟨rfl,rfl⟩) ?_;refine d8.mpr<| (fX h.tx h.lt (v9 e1) f9 (by rw[zf];lia)).mono ?_;rintro _ G1 ⟨c',rfl,e2,hc,f1⟩;have lf:(K9 s.b s.ts).length<=51:=by
  unfold K9;split
  ·rw[zf];lia
  ·split<;>exact(by decide:1<=51)
 refine d8.mpr<| (Gb e2 (by rw[zd,zf];lia)).mono ?_;rintro _ G2 ⟨rfl,e3,f2⟩;refine o4<| b8 rfl<| j8<| q c' G2 e3<| Gr.ap ⟨?_,λi hi=>?_⟩
 ·have:=f1.1;have:=f2.1;have:=aH.len;simp only[zd]at *;lia
 ·have k1:=f1.1;have k2:=aH.len;simp only[zd,zu]at k1;obtain⟨t,rfl⟩:=aH;rw[f2.2 i (by simp only[zd]at *;lia) (by lia),f1.2 i (by lia) (by simp only[zd]at *;lia),zJ,zB hi]
end
section
variable{G:DH}{Q:DPP}
theorem qZ(h:∀r∈l,smR r)(hc:Can l)(hl:l.length<=64)(q:∀r G',Ap G G'->G'[r]? =some (.lst (K4 wdL (l.map Wd.num)))->Q (.ref r) G'):Wp (Z2 [.tup (rsD l)]) G Q:=by
 have ew:K4 wdL (l.map Wd.num)=K4 swL l:=by unfold K4;rw[jg];rfl
 rw[ew]at q;refine j9<| o4<| AA.mpr<| v6<| j4<| b8 rfl<| b8 rfl<| kA.mpr ⟨_,(show eqN 40 G (.tup (rsD l)) (.tup [.tup [.non,.non]])=some (decide (l= [(none,none)]))from ?_),_,rfl,?_⟩
 · rcases l with _|⟨⟨a,b⟩,_|⟨q,r⟩⟩
   ·rfl
   ·rcases a with _|a<;>rcases b with _|b<;>rfl
   ·rcases a with _|a<;>rcases b with _|b<;>rfl
 by_cases k:l= [(none,none)]
 ·rw[decide_eq_true k,if_pos rfl];refine b8 rfl<| j8<| q _ _ Ap.one ?_;rw[f9,k];rfl
 · rw[decide_eq_false k,if_neg zz];refine iE rfl (by rw[HA];lia)<| b8 (sD (mk:=λp:Rg=>(S9 p.1,S9 p.2)) rfl l none none λr hr=>?_)<| j8<| q _ _ Ap.one f9;refine W4<| g8 rfl rfl<| Fm (h r hr) (λz=>k ?_) ⟨rfl,rfl⟩;subst z;obtain⟨s,t,rfl⟩:=List.append_of_mem hr;have pw:=xN.mp hc.2;rcases s with _|⟨x,s⟩
   · rcases t with _|⟨y,t⟩
     ·rfl
     · obtain⟨a,b,e,_⟩:=(yH.mp pw.2.1).1 y (zv ..)
       cases e
   · obtain⟨a,b,_,e,_⟩:=pw.2.2 x (zv ..) _ (zv ..)
     cases e
theorem Fw(h:TxL z)(q:Q (.str (ofL (qL z))) G):Wp (Q6 [.str z]) G Q:=
 j9<| o6 (X1:= [some (.str z)]) rfl<| o6 (X1:= [some (.str z)]) rfl<| d8.mpr<| M8<| b8 rfl ⟨λ_=>o4<| sQ h rfl<| j8 q,λz=>nomatch z⟩
theorem ow(h:∀z∈ts,TxL z)(hl:ts.length<=50)(q:∀r G',Ap G G'->G'[r]? =some (.lst (K4 wdL (K9 b ts)))->Q (.ref r) G'):Wp (kG [O8 b ts]) G Q:=by
 have bg:=big;refine j9<| d8.mpr<| u0<| iE rfl (by rw[zf];lia)<| b8 (MD rfl ts none λz hz=>W4<| g8 rfl rfl<| Fw (h z hz) ⟨rfl,rfl⟩) ?_;have e1:(G++[DO.lst (ts.map λz=>D.str (ofL (qL z)))])[G.length]? =some (.lst (K4 qL ts)):=f9;have a1:Ap G (G++[DO.lst (ts.map λz=>D.str (ofL (qL z)))]):=Ap.one;generalize G++[DO.lst (ts.map λz=>D.str (ofL (qL z)))]=H at e1 a1
 cases b
 · refine o6 (X1:= [some (O8 false ts),some (.ref G.length)]) rfl<| o4<| AA.mpr<| R1.mpr<| b8 rfl<| (BK e1).mpr ?_;rcases ts with _|⟨z,ts⟩
   ·refine b8 rfl<| j8<| q _ _ (a1.trans Ap.one) f9
   · have sz1:szM ((z::ts).map qL)<=52000:=by
      have:=nE (L:=(z::ts).map qL) (k:=1002) λa ha=>by obtain⟨y,hy,rfl⟩:=zM.mp ha;rw[VG];have:=(h y hy).2;lia
      rw[zf]at this;lia
     refine BE.mpr<| j7<| A3.mpr<| b8 rfl<| uD.mpr<| j7<| j4<| b8 rfl<| b8 rfl<| (rA f9 (v9 e1) (by unfold K4;rw[zf];show 1+_<=_;lia)).mpr<| o8.mpr ?_;have e2:∀M,(M++[DO.lst ([D.str ("text but" :Str)]++K4 qL (z::ts))])[M.length]? =some (DO.lst (K4 id (cTb::(z::ts).map qL))):=λM=>by
      rw[f9];have:K4 id (cTb::(z::ts).map qL)=D.str (ofL cTb)::K4 qL (z::ts):=by unfold K4;rw[zH,jg];rfl
      rw[this];rfl
     refine bD (e2 _) ?_ ?_
     ·rw[Jm,HB];have:cTb.length=8:=rfl;have:(" " :Str).length=1:=rfl;simp only[zu,zf]at *;lia
     ·refine o8.mpr ⟨sz,j8<| q _ _ (((a1.trans Ap.one).trans Ap.one).trans Ap.one) ?_⟩;rw[f9,Jm];show some (DO.lst [D.str (ofL (cTb++glL [32] ((z::ts).map qL)))])=_;rw[bJ];rfl
 ·refine d8.mpr<| mC rfl<| o4<| b8 rfl<| j8<| q _ _ a1 ?_;rw[e1];show _=some (DO.lst (K4 wdL (ts.map Wd.txt)));unfold K4;rw[jg];rfl
theorem Kv(q:∀r G',Ap G G'->G'[r]? =some (.lst (K4 wdL (V2 f t)))->Q (.ref r) G'):Wp (IG [trD f t]) G Q:=by
 cases f<;>cases t
 ·exact U0 rfl (q _ _ Ap.one f9)
 ·exact U0 rfl (q _ _ Ap.one f9)
 ·exact U0 rfl (q _ _ Ap.one f9)
 ·exact U0 rfl (q _ _ Ap.one f9)
theorem ai:∃k,eqN 40 G (sP s) (sP ⟨[],true, [],false,false⟩)=some k/\(k=true↔U8 s= []):=by
 obtain⟨ns,b,ts,f,t⟩:=s;have e1:eqN 39 G (.tup (rsD ns)) (.tup (rsD []))=some (decide (ns= [])):=by
  rcases ns with _|⟨⟨a,b⟩,r⟩
  ·rfl
  ·rfl
 have e2:eqN 39 G (O8 b ts) (O8 true [])=some (decide (b=true/\ts= [])):=by have e1:eqN 38 G (.tup (ts.map D.str)) (.tup (([]:List Str).map D.str))=some (decide (ts= [])):=dI ts [];have e2:eqN 38 G (.str (wrd b)) (.str (wrd true))=some (wrd b==wrd true):=rfl;show eqL (eqN 38 G) [.str (wrd b),.tup (ts.map D.str)] [.str (wrd true),.tup (([]:List Str).map D.str)]=_;simp only[eqL,e1,e2];rw[show (wrd b==wrd true)=decide (b=true) by cases b<;>decide];by_cases h1:b=true<;>by_cases h2:ts= []<;>simp[h1,h2]
 have e3:eqN 39 G (trD f t) (trD false false)=some (!f&&!t):=by cases f<;>cases t<;>rfl
 refine⟨decide (ns= [])&&(decide (b=true/\ts= [])&&(!f&&!t)),?_,?_⟩
 · show eqL (eqN 39 G) [.tup (rsD ns),O8 b ts,trD f t,.non,.non] [.tup (rsD []),O8 true [],trD false false,.non,.non]=_;rw[w8,w8,w8,e1,e2,e3,show eqL (eqN 39 G) [.non,.non] [.non,.non]=some true from rfl]
   cases decide (ns= [])<;>cases decide (b=true/\ts= [])<;>cases f<;>cases t<;>rfl
 · rw[jy,jy,decide_eq_true_iff,decide_eq_true_iff];show _↔ns.map Wd.num++K9 b ts++V2 f t= [];rw[List.append_eq_nil_iff,List.append_eq_nil_iff,Xg];have k1:(b=true/\ts= [])↔K9 b ts= []:=by
    unfold K9
    cases b
    · rw[if_neg zz];by_cases k:ts= []
      ·rw[if_pos k];exact⟨λh=>(nomatch h.1),λh=>(nomatch h)⟩
      ·rw[if_neg k];exact⟨λh=>(nomatch h.1),λh=>(nomatch h)⟩
    ·rw[if_pos rfl,Xg];exact⟨λh=>h.2,λh=>⟨rfl,h⟩⟩
   have k2:((!f&&!t)=true)↔V2 f t= []:=by cases f<;>cases t<;>decide
   rw[k1,k2,and_assoc]
def shT(s:PS):List Nat:=if U8 s= []then cNo else u4 cOr ((U8 s).map wdL)
theorem qM{b:Fe}(e1:G[r]? =some (.lst L))(hl:L.length<=zi)(ev:b σ G=some (.ok (.ref G.length),G++[.lst []]))(q:∀r' G',Ap G G'->G'[r']? =some (.lst L)->Q (.ref r') G'):Wp (b σ) G λy G2=>Wp (addD (.ref r) y) G2 Q:=by refine b8 ev<| (rA (b:= []) (v9 e1) f9 hl).mpr<| q _ _ (Ap.one.trans Ap.one) ?_;rw[f9,jH]
theorem vR(h:uA s):(U8 s).length<=60/\szM ((U8 s).map wdL)<=60000/\((U8 s).map wdT).sum<=50:=by
 have h1:=h.ln;have h2:=h.lt;have n1:szM ((s.ns.map Wd.num).map wdL)<=2700:=by
  have:=nE (L:=(s.ns.map Wd.num).map wdL) λa ha=>by rw[jg]at ha;obtain⟨r,hr,rfl⟩:=zM.mp ha;exact BT (h.sm r hr)
  rw[zf,zf]at this;lia
 have n2:(K9 s.b s.ts).length<=50/\szM ((K9 s.b s.ts).map wdL)<=53000/\((K9 s.b s.ts).map wdT).sum<=50:=by
  unfold K9;split
  · rw[zf,jg];refine⟨by lia,?_,?_⟩
    · have:=nE (L:=s.ts.map (wdL∘Wd.txt)) (k:=1002) λa ha=>by
       obtain⟨z,hz,rfl⟩:=zM.mp ha;show (qL z).length<=_;rw[VG];have:=(h.tx z hz).2;lia
      rw[zf]at this;lia
    · have:∀ts:List Str,((ts.map Wd.txt).map wdT).sum=ts.length:=λts=>by
       induction ts with
       |nil=>rfl
       |cons z r ih=>rw[zH,zH,List.sum_cons,ih,zu,Nat.add_comm];rfl
      rw[this];exact h2
  · split
    ·decide
    · refine⟨(by decide:1<=50),?_,?_⟩
      ·have:=NH h.tx (by lia);show szM [btL s.ts]<=_;rw[HB];unfold btL;rw[zd];show 8+_+0<=_;lia
      ·show s.ts.length+0<=50;lia
 have n3:(V2 s.f s.t).length<=1/\szM ((V2 s.f s.t).map wdL)<=20/\((V2 s.f s.t).map wdT).sum=0:=by
  cases s.f<;>cases s.t<;>decide
 have n4:∀l:List Rg,((l.map Wd.num).map wdT).sum=0:=λl=>by
  induction l with
  |nil=>rfl
  |cons z r ih=>rw[zH,zH,List.sum_cons,ih];rfl
 unfold U8;refine⟨?_,?_,?_⟩
 ·rw[zd,zd,zf];lia
 ·rw[zY,zY,KQ,KQ];lia
 ·rw[zY,zY,List.sum_append,List.sum_append,n4];lia
theorem Ld(h:uA s)(q:∀G',Q (.str (ofL (shT s))) G'):Wp (ND [sP s]) G Q:=by
 have bg:=big;obtain⟨hl,hz,_⟩:=vR h;obtain⟨k,ek,hk⟩:=ai;refine j9<| o4<| A3.mpr<| b8 rfl<| uD.mpr<| j7<| g8 rfl rfl ?_;refine j9<| o6 (X1:= [some (sP s)]) rfl<| d8.mpr<| M8<| v6<| j4<| b8 rfl<| b8 rfl<| kA.mpr ⟨_,ek,_,rfl,λkk=>?_,λkk=>t7.mpr ?_⟩
 ·refine o4<| b8 (G':=G++[.lst (K4 id [cNo])]) rfl<| j8<| o8.mpr<| bD f9 (by decide)<| j8 ?_;have:=q (G++[.lst (K4 id [cNo])]);rw[show shT s=cNo from if_pos (hk.mp kk)]at this;exact this
 · have sf:U8 s≠ []:=λz=>by rw[hk.mpr z]at kk;cases kk
   have eq:shT s=u4 cOr ((U8 s).map wdL):=if_neg sf;rw[eq]at q;have ll:(K4 wdL (s.ns.map Wd.num)).length=s.ns.length:=by unfold K4;rw[zf,zf]
   have hlw:(K4 wdL (U8 s)).length= (U8 s).length:=zf ..;refine o4<| j4<| j4<| j4<| j4<| g8 rfl rfl<| qZ h.sm h.can (by have:=h.ln;lia) λr G1 a1 e1=>?_;refine g8 rfl rfl<| ow h.tx h.lt λr2 G2 a2 e2=>?_;have e12:K4 wdL (s.ns.map Wd.num)++K4 wdL (K9 s.b s.ts)=K4 wdL (s.ns.map Wd.num++K9 s.b s.ts):=LJ.symm;have lt:(K4 wdL (s.ns.map Wd.num)++K4 wdL (K9 s.b s.ts)).length<=60:=by rw[e12];unfold K4 U8 at *;rw[zf];rw[zd]at hl;lia
   refine(rA (a2.at e1) e2 (by rw[zd]at lt;lia)).mpr ?_;rw[e12];refine g8 rfl rfl<| Kv λr3 G3 a3 e3=>?_;have e4:G3[G2.length]? =some (.lst (K4 wdL (s.ns.map Wd.num++K9 s.b s.ts))):=a3.at f9;have e13:K4 wdL (s.ns.map Wd.num++K9 s.b s.ts)++K4 wdL (V2 s.f s.t)=K4 wdL (U8 s):=LJ.symm;have l3:=congrArg xv e13;rw[zd]at l3;refine(rA e4 e3 (by lia)).mpr ?_;rw[e13];refine qM f9 (by lia) rfl λr4 G4 a4 e4=>qM e4 (by lia) rfl λr5 G5 a5 e5=>j8 ?_;exact o8.mpr<| bD e5 (by show _+_*4<=_;lia)<| j8<| q G5
end
def wN:Wd->Int->Prop
 | .num r,x=>inR r x
 |_,_=>False
def wB:Wd->Bool
 | .all=>false
 | .but _=>false
 |_=>true
def wT:Wd->Str->Prop
 | .txt y,z=>z=y
 | .all,_=>True
 | .but ts,z=>z∉ts
 |_,_=>False
def wF:Wd->Bool
 | .tru b=> !b
 | .both=>true
 |_=>false
def wR:Wd->Bool
 | .tru b=>b
 | .both=>true
 |_=>false
structure FD(ws:List Wd)(s:PS):Prop where
 ns:∀x,inS s.ns x↔∃w∈ws,wN w x
 b:s.b=ws.all wB
 ts:∀z,inT s.b s.ts z↔∃w∈ws,wT w z
 f:s.f=ws.any wF
 t:s.t=ws.any wR
theorem Z4{P:α->Prop}:(∃s∈([]:List α),P s)↔False:=⟨fun⟨_,h,_⟩=>(nomatch h),jU⟩
theorem CF{L M:List α}{P:α->Prop}:(∃s∈L++M,P s)↔(∃s∈L,P s)\/∃s∈M,P s:=by
 constructor
 ·rintro⟨s,hs,h⟩;exact(zR.mp hs).elim (λk=>.inl ⟨s,k,h⟩) λk=>.inr ⟨s,k,h⟩
 · rintro(⟨s,hs,h⟩|⟨s,hs,h⟩)
   ·exact⟨s,yf _ hs,h⟩
   ·exact⟨s,zN _ hs,h⟩
theorem lY:inS [r] x↔inR r x:=by rw[J3];exact⟨λh=>h.elim id λz=>absurd z X7,.inl⟩
theorem eW:inT true [y] z↔z=y:=zm
theorem iG:¬inT true [] z:=λh=>nomatch (show z∈ []from h)
theorem VP:inT false [] z:=λh:z∈ []=>nomatch h
theorem VX(h:wdS w s):(∀x,inS s.ns x↔wN w x)/\s.b=wB w/\(∀z,inT s.b s.ts z↔wT w z)/\s.f=wF w/\s.t=wR w:=by
 have n0:∀x,inS [] x↔False:=λx=>⟨X7,jU⟩;rcases w with r|z|_|ts|b|_
 ·cases h;exact⟨λx=>lY,rfl,λz=>⟨iG,jU⟩,rfl,rfl⟩
 ·cases h;exact⟨n0,rfl,λy=>eW,rfl,rfl⟩
 ·cases h;exact⟨n0,rfl,λy=>⟨λ_=>trivial,λ_=>VP⟩,rfl,rfl⟩
 ·obtain⟨m,r,mm,lm,rfl⟩:=h;exact⟨n0,rfl,λy=>not_congr (mm y),rfl,rfl⟩
 ·cases h;exact⟨n0,rfl,λz=>⟨iG,jU⟩,rfl,rfl⟩
 ·cases h;exact⟨n0,rfl,λz=>⟨iG,jU⟩,rfl,rfl⟩
theorem C6.says(h:C6 ws L):(∀x,(∃s∈L,inS s.ns x)↔∃w∈ws,wN w x)/\L.all (·.b)=ws.all wB/\(∀z,(∃s∈L,inT s.b s.ts z)↔∃w∈ws,wT w z)/\L.any (·.f)=ws.any wF/\L.any (·.t)=ws.any wR:=by
 induction h with
 |nil=>exact⟨λx=>by rw[Z4,Z4],rfl,λx=>by rw[Z4,Z4],rfl,rfl⟩
 |@cons w s ws L hw k ih=>
   obtain⟨i1,i2,i3,i4,i5⟩:=ih;obtain⟨h1,h2,h3,h4,h5⟩:=VX hw;refine⟨λx=>by rw[M7,M7,h1,i1],?_,λz=>by rw[M7,M7,h3,i3],?_,?_⟩
   ·rw[jX,jX,h2,i2]
   ·rw[jw,jw,h4,i4]
   ·rw[jw,jw,h5,i5]
theorem FD.is(h:FD ws s)(ok:OkP s)(k:C6 ws L)(a:D4 L m):m=s:=by obtain⟨i1,i2,i3,i4,i5⟩:=k.says;exact a.uniq ⟨ok,λx=>by rw[h.ns,i1],by rw[h.b,i2],λz=>by rw[h.ts,i3],by rw[h.f,i4],by rw[h.t,i5]⟩
theorem uA.ok(h:uA s):OkP s:=⟨h.can,h.rs,λz hz=>GF (h.tx z hz),by have:=h.lt;lia⟩
theorem qN(s:PS):FD (U8 s) s:=by
 obtain⟨ns,b,ts,f,t⟩:=s;have eN:∀x,(∃w∈ns.map Wd.num,wN w x)↔inS ns x:=λx=>by
  constructor
  ·rintro⟨w,hw,h⟩;obtain⟨r,hr,rfl⟩:=zM.mp hw;exact⟨r,hr,h⟩
  ·rintro⟨r,hr,h⟩;exact⟨.num r,zM.mpr ⟨r,hr,rfl⟩,h⟩
 have eN2:∀z,(∃w∈ns.map Wd.num,wT w z)↔False:=λz=>by refine⟨?_,jU⟩;rintro⟨w,hw,h⟩;obtain⟨r,hr,rfl⟩:=zM.mp hw;exact h
 have aN:∀ {p:Wd->Bool} {ns:List Rg},(∀r,p (.num r)=true)->(ns.map Wd.num).all p=true:=λ{p ns} h=>by rw[xq];intro w hw;obtain⟨r,_,rfl⟩:=zM.mp hw;exact h r
 have oN:∀ {p:Wd->Bool} {ns:List Rg},(∀r,p (.num r)=false)->(ns.map Wd.num).any p=false:=λ{p ns} h=>by rw[XO];intro w hw;obtain⟨r,_,rfl⟩:=zM.mp hw;rw[h r];exact zz
 have tN:∀x,(∃w∈K9 b ts,wN w x)↔False:=λx=>by
  refine⟨?_,jU⟩;rintro⟨w,hw,h⟩;unfold K9 at hw;split at hw
  ·obtain⟨r,hr,rfl⟩:=zM.mp hw;exact h
  ·split at hw<;>(rw[zm.mp hw]at h;exact h)
 have tT:∀z,(∃w∈K9 b ts,wT w z)↔inT b ts z:=λz=>by
  unfold K9
  cases b
  · rw[if_neg zz];by_cases k:ts= []
    ·rw[if_pos k,M7,Z4];subst k;exact⟨λ_=>VP,λ_=>.inl trivial⟩
    ·rw[if_neg k,M7,Z4,or_false];exact Iff.rfl
  · rw[if_pos rfl];constructor
    ·rintro⟨w,hw,h⟩;obtain⟨y,hy,rfl⟩:=zM.mp hw;rw[show z=y from h];exact hy
    ·intro h;exact⟨.txt z,zM.mpr ⟨z,h,rfl⟩,rfl⟩
 have tB:(K9 b ts).all wB=b:=by
  unfold K9
  cases b
  ·rw[if_neg zz];split<;>rfl
  ·rw[if_pos rfl,xq];intro w hw;obtain⟨r,_,rfl⟩:=zM.mp hw;rfl
 have tF:(K9 b ts).any wF=false/\(K9 b ts).any wR=false:=by
  rw[XO,XO];unfold K9;refine⟨λw hw=>?_,λw hw=>?_⟩ <;>
  · split at hw
    ·obtain⟨r,_,rfl⟩:=zM.mp hw;exact zz
    ·split at hw<;>(rw[zm.mp hw];exact zz)
 have bN:∀x,(∃w∈V2 f t,wN w x)↔False:=λx=>by
  cases f<;>cases t<;>simp[V2,wN]
 have bT:∀z,(∃w∈V2 f t,wT w z)↔False:=λz=>by
  cases f<;>cases t<;>simp[V2,wT]
 refine⟨λx=>?_,?_,λz=>?_,?_,?_⟩
 ·show inS ns x↔∃w∈ns.map Wd.num++K9 b ts++V2 f t,wN w x;rw[CF,CF,eN,tN,bN,or_false,or_false]
 · show b= (ns.map Wd.num++K9 b ts++V2 f t).all wB;rw[List.all_append,List.all_append,aN λ_=>rfl,tB]
   cases f<;>cases t<;>cases b<;>rfl
 ·show inT b ts z↔∃w∈ns.map Wd.num++K9 b ts++V2 f t,wT w z;rw[CF,CF,eN2,tT,bT,or_false,false_or]
 · show f= (ns.map Wd.num++K9 b ts++V2 f t).any wF;rw[YI,YI,oN λ_=>rfl,tF.1]
   cases f<;>cases t<;>rfl
 · show t= (ns.map Wd.num++K9 b ts++V2 f t).any wR;rw[YI,YI,oN λ_=>rfl,tF.2]
   cases f<;>cases t<;>rfl
theorem fg(h:uA s):∀w∈U8 s,y9 w:=by
 intro w hw;unfold U8 at hw;rcases zR.mp hw with hw|hw
 · rcases zR.mp hw with hw|hw
   ·obtain⟨r,hr,rfl⟩:=zM.mp hw;exact⟨h.sm r hr,h.can.1 r hr⟩
   · unfold K9 at hw;split at hw
     ·obtain⟨z,hz,rfl⟩:=zM.mp hw;exact h.tx z hz
     · split at hw
       ·rw[zm.mp hw];trivial
       ·rw[zm.mp hw];exact⟨h.tx,by assumption,by have:=h.lt;lia⟩
 · have:∀ {f t:Bool} {w:Wd},w∈V2 f t->w= .both\/∃b,w= .tru b:=λ{f t w} hw=>by
    cases f<;>cases t<;>simp[V2]at hw
    ·exact .inr ⟨_,hw⟩
    ·exact .inr ⟨_,hw⟩
    ·exact .inl hw
   rcases this hw with rfl|⟨b,rfl⟩<;>trivial
section
variable{G:DH}{Q:DPP}
abbrev noP:PS:=⟨[],true, [],false,false⟩
theorem tY(q:Q (sP noP) G):Wp (T3 [.str ("nothing" :Str)]) G Q:=by have h0:tl ("nothing" :Str)= []++cNo:=rfl;have n1:Z7 ("nothing" :Str) ("any" :Str) 0=false:=noF h0 rfl rfl (by decide);have n2:Z7 ("nothing" :Str) ("nothing" :Str) 0=true:=J6 h0 rfl;refine j9 (show Wp (MF [some (.str ("nothing" :Str)),none,none]) G _ from d8.mpr<| u0<| g8 rfl rfl ?_);refine j9 (show Wp (nG [some (.str ("nothing" :Str)),some (.int 0),none,none]) G _ from d8.mpr<| u0<| g8 rfl rfl ?_);refine j9 (show Wp (uF [some (.str ("nothing" :Str)),some (.int 0)]) G _ from R8 n1<| pC n2<| b8 rfl<| j8 ?_);refine d8.mpr<| M8<| b8 rfl ⟨λ_=>o4<| b8 rfl<| j8 ?_,λz=>(nomatch z)⟩;exact o6 rfl<| o4<| b8 rfl<| j8 q
theorem Nx(ok:OkP s)(h:FD [] s):s=noP:=by
 refine D4.uniq ⟨ok,λx=>by rw[h.ns,Z4,Z4],h.b,λz=>by rw[h.ts,Z4,Z4],h.f,h.t⟩ ⟨⟨CA,UC⟩,λx=>?_,rfl,λz=>?_,rfl,rfl⟩
 ·rw[Z4];exact⟨X7,jU⟩
 ·rw[Z4];exact⟨iG,jU⟩
theorem FP(sf:ws≠ [])(okW:∀w∈ws,y9 w)(hs:FD ws s)(ok:OkP s)(hl:ws.length<64)(hz:szM (ws.map wdL)<=100000)(ht:(ws.map wdT).sum<64)(q:∀G',Q (sP s) G'):Wp (T3 [.str (ofL (u4 cOr (ws.map wdL)))]) G Q:=by
 have bg:=big;refine MS ?_ sf okW rfl hl ht λL m G' tl am=>?_
 ·have:=bw (s:=cOr) (ws.map wdL);rw[zf]at this;show (u4 cOr (ws.map wdL)).length<=_;have e:cOr.length=4:=rfl;rw[e]at this;lia
 ·rw[hs.is ok tl am];exact q G'
end
theorem Fb:aG=j5 (v7 (H0 U7 c0) N0) (asQ (z0 m5 g0 (cIn 12)) T0 (asQ (A2 o0) S1 (j5 lwA (j5 lwT (asQ (Q5 o0) SA (j5 (W0 wwT wwB) (j5 lwR lwK))))))):=rfl
section
variable{G:DH}{s:PS}{a0 a1 a2 a3 a4 a5 a7 a8 a9 a10 a12:Option D}
theorem AN:∀ts w u G ck,ck G=true->(∀z∈ts,TxL z)->w.length+1003*ts.length<=100000->
 Wp (B1 (S0 12) lwF ck (ts.map D.str) [a0,a1,a2,a3,a4,a5,some (O8 s.b s.ts),a7,a8,a9,a10,some (.str (ofL w)),u]) G λfl G'=>G'=G/\∃u,fl= .nx [a0,a1,a2,a3,a4,a5,some (O8 s.b s.ts),a7,a8,a9,a10,some (.str (ofL (w++bqL ts))),u]
 |[],w,u,G,ck,sx,tx,hl=>B8.mpr ⟨sx,rfl,u,by unfold bqL;rw[List.flatMap_nil,jH]⟩
 |z::ts,w,u,G,ck,sx,tx,hl=>by
   have hz:=(tx z (zv ..)).2;simp only[zu]at hl;refine Q7.mpr ⟨sx,J8.mpr<| u0<| j4<| j4<| j4<| b8 rfl<| b8 rfl<| cC (by show _+2<=_;lia)<| b8 rfl<| cC (by rw[zd];show _+2+z.length<=_;lia)<| b8 rfl<| cC (by rw[zd,zd];show _+2+z.length+1<=_;lia) ?_⟩;have lw:(w++[32,34]++tl z++[34]).length=w.length+z.length+3:=by rw[zd,zd,zd];show _+2+z.length+1=_;lia
   refine(AN ts (w++[32,34]++tl z++[34]) (some (.str z)) G ck sx (λy hy=>tx y (zl _ hy)) (by rw[lw];lia)).mono ?_;rintro _ _ ⟨rfl,u,rfl⟩;refine⟨rfl,u,?_⟩;have:w++[32,34]++tl z++[34]++bqL ts=w++bqL (z::ts):=by unfold bqL;rw[XL];unfold qL;simp
   rw[this]
theorem Vg(h:uA s)(hb:s.b=false)(sf:s.ts≠ []):Wp (lwZ [a0,a1,a2,a3,a4,a5,some (O8 s.b s.ts),a7,a8,a9,a10,none,none]) G (PB λd _=>d= .bl true):=by
 have bg:=big;obtain⟨z,ts,e⟩:∃z ts,s.ts=z::ts:=by
  rcases k:s.ts with _|⟨z,ts⟩
  ·exact absurd k sf
  ·exact⟨z,ts,rfl⟩
 have lt:=h.lt;have hx:∀y∈s.ts.reverse++[z],y∈s.ts:=λy hy=>(zR.mp hy).elim (λk=>List.mem_reverse.mp k) λk=>by rw[zm.mp k,e];exact zv ..
 have hx2:∀y,y∈s.ts.reverse++[z]↔y∈s.ts:=λy=>⟨hx y,λk=>yf _ (List.mem_reverse.mpr k)⟩;have hl:(s.ts.reverse++[z]).length<=51:=by rw[zd,Zx];show _+1<=_;lia
 refine o6 (X1:= [a0,a1,a2,a3,a4,a5,some (O8 s.b s.ts),a7,a8,a9,a10,some (.str (ofL cTb)),none]) rfl<| d8.mpr<| g6.mpr<| wp_itW.mpr<| j4<| MG.mpr<| b8 rfl ?_;refine rT<| BE.mpr<| j7<| j4<| b8 rfl<| b8 rfl<| ix_tup.mpr ⟨.str z,by rw[e];exact atI_nat rfl,o8.mpr ⟨sz,?_⟩⟩;refine(rA (v9 f9) f9 (by rw[Zx,zf];show _+1<=_;lia)).mpr ?_;rw[<-List.map_reverse,show s.ts.reverse.map D.str++[D.str z]= (s.ts.reverse++[z]).map D.str by rw[zY];rfl];refine(gB f9).mpr<| (AN (s.ts.reverse++[z]) cTb none _ _ (L5 f9) (λy hy=>h.tx y (hx y hy)) (by show 8+_<=_;lia)).mono ?_;rintro _ G1 ⟨rfl,u,rfl⟩;have tx:∀y∈s.ts.reverse++[z],TxL y:=λy hy=>h.tx y (hx y hy);have eq:u4 cOr ([Wd.but (s.ts.reverse++[z])].map wdL)=cTb++bqL (s.ts.reverse++[z]):=jH _;rw[<-eq];refine o4<| R9<| j7<| g8 rfl rfl<| FP (s:=⟨[],false,s.ts,false,false⟩) (Yo _ _) (λw hw=>by rw[zm.mp hw];exact⟨tx,List.append_ne_nil_of_right_ne_nil _ (Yo _ _),by lia⟩) ⟨λx=>?_,rfl,λy=>?_,rfl,rfl⟩ ⟨CA,h.ok.rw⟩ (by show 1<64;decide) ?_ ?_ λG2=>?_
 ·rw[M7,Z4,or_false];exact⟨X7,jU⟩
 ·rw[M7,Z4,or_false];exact not_congr (hx2 y).symm
 ·show szM [btL (s.ts.reverse++[z])]<=_;rw[HB];have:=NH tx hl;unfold btL;rw[zd];show 8+_+0<=_;lia
 ·show (s.ts.reverse++[z]).length+0<64;lia
 ·refine b8 (G':=G2) ?_<| V1.mpr ⟨rfl,b8 (GQ (zL _) (by show s.ts.length<=_;lia))<| j8 rfl⟩;rw[hb];rfl
theorem SZ(h:uA s):Wp (lwK [a0,a1,a2,some (.tup (rsD s.ns)),some (trD s.f s.t),a5,some (O8 s.b s.ts),none,none,none,none,none,none]) G (PB λd _=>d= .bl true):=by
 have bg:=big;obtain⟨f1,f2,f3⟩:=vR h;refine o6 (X1:= [a0,a1,a2,some (.tup (rsD s.ns)),some (trD s.f s.t),a5,some (O8 s.b s.ts),some (sP s),none,none,none,none,none]) rfl<| d8.mpr<| u0<| g8 rfl rfl<| Td h λr G1 e1 p1=>?_;refine o6 (X1:= [a0,a1,a2,some (.tup (rsD s.ns)),some (trD s.f s.t),a5,some (O8 s.b s.ts),some (sP s),sRf r,some (.str (ofL cNo)),none,none,none]) rfl ?_;have rest:∀ {G:DH},Wp (j5 (v7 (H0 ND qI) (S0 10)) (j5 lwC (j5 lwO lwZ)) [a0,a1,a2,some (.tup (rsD s.ns)),some (trD s.f s.t),a5,some (O8 s.b s.ts),some (sP s),sRf r,some (.str (ofL (shT s))),none,none,none]) G (PB λd _=>d= .bl true):=λ{G}=>by
  refine d8.mpr<| u0<| g8 rfl rfl<| Ld h λG2=>?_;have rd:∀ {G:DH} {Q:DPP},(∀G',Q (sP s) G')->Wp (T3 [.str (ofL (shT s))]) G Q:=λ{G Q} q=>by
   unfold shT;by_cases k:U8 s= []
   ·rw[if_pos k];have:=qN s;rw[k]at this;rw[Nx h.ok this]at q;exact tY (q _)
   ·rw[if_neg k];exact FP k (fg h) (qN s) h.ok (by lia) (by lia) (by lia) q
  refine d8.mpr<| M8<| VC<| X4.mpr<| b8 rfl ⟨λz=>(nomatch z),λ_=>VC<| v6<| j4<| b8 rfl<| b8 rfl<| Mb.mpr ⟨_,rfl,?_⟩⟩;rw[beq_self_eq_true];refine⟨λz=>(nomatch z),λ_=>X4.mpr<| R1.mpr<| R9<| j7<| g8 rfl rfl<| rd λG3=>b8 rfl<| V1.mpr ⟨rfl,b8 (GQ (by have:=h.ln;lia) (by have:=h.lt;lia))<| O9.mpr ⟨λz=>(nomatch z),λ_=>t7.mpr ?_⟩⟩⟩;refine d8.mpr<| M8<| VC<| v6<| j4<| j4<| b8 rfl<| b8 rfl<| ix_tup.mpr ⟨.str (wrd s.b),rfl,b8 rfl<| uH.mpr ⟨_,rfl,λ_=>⟨λ_=>o4<| b8 rfl<| j8 rfl,λz=>(nomatch z)⟩,λk=>?_⟩⟩;rw[oM]at k;refine v6<| j4<| j4<| b8 rfl<| b8 rfl<| ix_tup.mpr ⟨.tup (s.ts.map D.str),rfl,b8 rfl<| Vb.mpr ⟨_,rfl,λ_=>o4<| b8 rfl<| j8 rfl,λk2=>t7.mpr ?_⟩⟩;exact Vg h k λz=>by rw[z]at k2;cases k2
 refine d8.mpr<| M8<| v6<| j4<| b8 rfl<| b8 rfl<| (eK (v9 e1) f9).mpr ⟨_,rfl,λk=>?_,λk=>t7.mpr ?_⟩
 · have sf:U8 s≠ []:=λz=>by rw[z]at k;cases k
   refine u0<| A3.mpr<| b8 rfl<| uD.mpr<| b8 rfl<| bD (v9 e1) (by show _+_*4<=_;lia) ?_;rw[show u4 (tl " or ") ((U8 s).map wdL)=shT s from(if_neg sf).symm];exact rest
 · have hn:U8 s= []:=by
    rcases k3:U8 s with _|⟨x,y⟩
    ·rfl
    ·rw[k3]at k;cases k
   have:=rest (G:=G1++[.lst []]);rw[show shT s=cNo from if_pos hn]at this;exact this
end
section
variable{r:Nat}{G:DH}{a0:Option D}{w:Int}{ρ:DSt}
theorem wY(h:Dr G r):Wp (lwA (a0::some (.ref r)::some (.int w)::some (.tup [])::ρ)) G λfl G'=>Fd r G G'/\∃due,fl= .nx (a0::some (.ref r)::some (.int w)::some (.tup (rsD due))::ρ)/\Can due/\due.length<=9/\∀z∈due,smR z:=by refine M8<| v6<| j4<| j4<| b8 (a:=.int w) (G':=G) rfl<| b8 (a:=.int 2) (G':=G) rfl<| (U6 (by decide)).mpr<| b8 (a:=.int 0) (G':=G) rfl<| u7.mpr ⟨_,rfl,λ_=>?_,λ_=>t7.mpr ⟨Fd.refl h, [],rfl,CA,by decide,λ_ z=>nomatch z⟩⟩;refine u0<| g8 (as:= [.ref r]) rfl rfl<| (sW h).mono ?_;rintro _ G1 ⟨due,rfl,c,l,s,f⟩;exact⟨f,due,rfl,c,l,s⟩
theorem UX(h:Dr G r):Wp (lwT (a0::some (.ref r)::some (.int w)::a3::a4::ρ)) G λfl G'=>Fd r G G'/\∃f t,fl= .nx (a0::some (.ref r)::some (.int w)::a3::some (trD f t)::ρ):=by
 refine u0 ?_;refine j4 ?_;refine b8 (a:=.ref G.length) (G':=G++[.lst [trD false false,trD true false,trD false true,trD true true]]) rfl ?_;refine g8 (as:= [.ref r,.int 4]) rfl rfl ?_;refine wJ h rfl (by decide) λd hd G2 f=>⟨f,?_⟩;simp only[zr,zT,or_false]at hd;rcases hd with rfl|rfl|rfl|rfl
 ·exact⟨_,_,rfl⟩
 ·exact⟨_,_,rfl⟩
 ·exact⟨_,_,rfl⟩
 ·exact⟨_,_,rfl⟩
theorem Cp{ws:List Str}(w0:0<=w)(e:G[c]? =some (.lst (ws.map D.str)))(tx:∀z∈ws,TxL z)(hl:ws.length<=50):Wp (lwR (a0::some (.ref r)::some (.int w)::a3::a4::some (.ref c)::a6::ρ)) G λfl _=>∃b m,fl= .nx (a0::some (.ref r)::some (.int w)::a3::a4::some (.ref c)::some (O8 b m)::ρ)/\Ris m/\(∀z∈m,TxL z)/\m.length<=50:=by
 have b1:0<=w / 2 % 3:=yg _ (by decide);have b2:w / 2 % 3<3:=yY _ (by decide);refine u0<| M9.mpr<| j7<| j4<| b8 (a:=.ref G.length) (G':=G++[.lst [.str (wrd true),.str (wrd true),.str (wrd false)]]) rfl<| j4<| j4<| b8 (a:=.int w) (G':=_) rfl<| b8 (a:=.int 2) (G':=_) rfl<| (IC ⟨by decide,by decide⟩).mpr<| b8 (a:=.int 3) (G':=_) rfl<| (U6 (by decide)).mpr ?_;obtain⟨d,hd,ed⟩:=bK (l:= [.str (wrd true),.str (wrd true),.str (wrd false)]) (k:=w / 2 % 3) b1 b2;obtain⟨b,rfl⟩:∃b,d= .str (wrd b):=by
  simp only[zr,zT,or_false]at hd;rcases hd with rfl|rfl|rfl
  ·exact⟨true,rfl⟩
  ·exact⟨true,rfl⟩
  ·exact⟨false,rfl⟩
 refine(F7 f9).mpr ⟨_,ed,j7<| g8 (as:= [.ref c]) rfl rfl<| Dp (v9 e) tx hl λm G1 r mm lm a1=>o8.mpr ⟨sz,b,m,rfl,r,λz hz=>tx z ((mm z).mp hz),lm⟩⟩
end
theorem og(ns:List Int)(hn:ns.length<=63):Wp (LH [.ref 0]) [.rol (ns.map D.int)] λd _=>d= .bl true:=by have e0:([.rol (ns.map D.int)]:DH)[0]? =some (.rol (ns.map D.int)):=rfl;generalize ([.rol (ns.map D.int)]:DH)=G at e0;refine j9 (show Wp (aG [sRf 0,none,none,none,none,none,none,none,none,none,none,none,none]) G _ from ?_);rw[Fb];refine d8.mpr<| u0<| g8 (as:= [.ref 0]) rfl rfl<| (Wg e0 hn).mono ?_;rintro _ G1 ⟨r,rfl,h1⟩;refine d8.mpr<| u0<| g8 (as:= [.ref r,.int 12]) rfl rfl<| w4 h1 (by decide) λw w0 w1 G2 f2=>?_;refine o6 (X1:= [sRf 0,sRf r,some (.int w),some (.tup []),none,none,none,none,none,none,none,none,none]) (G':=G2) rfl<| d8.mpr<| (wY f2.2.2).mono ?_;rintro _ G3 ⟨f3,due,rfl,can,ld,sm⟩;refine d8.mpr<| (UX f3.2.2).mono ?_;rintro _ G4 ⟨f4,f,t,rfl⟩;have hr:=f4.2.2.lt;refine o6 (X1:= [sRf 0,sRf r,some (.int w),some (.tup (rsD due)),some (trD f t),some (.ref G4.length),none,none,none,none,none,none,none]) (G':=G4++[.lst []]) rfl<| d8.mpr<| wC (n:=51)<| (vO (c:=G4.length) 50 [] (G4++[.lst []]) (by lia) f4.2.2.app f9 (λ_ z=>nomatch z) rfl).mono ?_;rintro _ G5 ⟨ws,rfl,e5,tx,lw⟩;refine d8.mpr<| (Cp w0 e5 tx lw).mono ?_;rintro _ G6 ⟨b,m,rfl,rm,tm,lm⟩;exact SZ (s:=⟨due,b,m,f,t⟩) ⟨can,sm,ld,rm,tm,lm⟩
theorem pure_law:∀ns:List Int,ns.length<=63->∃G',LH [.ref 0] [.rol (ns.map D.int)]=some (.ok (.bl true),G'):=λns hn=>by obtain⟨d,G',e,rfl⟩:=og ns hn;exact⟨G',e⟩
end W
namespace PySem.W.Fast
def tw3896295553059952197:=()
def tw15662486471224096100:=()
def tw16344014063811102738:=()
def tw1115623254667657749:=()
def tw8574632981079191369:=()
def tw6111392870108893113:=()
def tw16460075098905465369:=()
def tw2870264893249642595:=()
def tw12311979866051087756:=()
def tw13953262538932795192:=()
def tw14639011760824141015:=()
def tw17237042522439660932:=()
def tw4036898442484661970:=()
def tw6735206614089073999:=()
def tw15751785739676457278:=()
def tw8782551861561584642:=()
def tw6699974192448419332:=()
def tw9370810776791011358:=()
def tw8283411015446387511:=()
def tw5029801952716777864:=()
def tw768884850595433960:=()
def tw17443231965377947891:=()
def tw933833290154898206:=()
def tw4867042131011537828:=()
def tw8621582474482611091:=()
def tw5963367896545271041:=()
def tw16366268675986277078:=()
def tw18007158275772106128:=()
def tw12934199592638734782:=()
def tw12084851736709192438:=()
def tw6141214315526237351:=()
def tw11124377943614989941:=()
def tw4734164315600060990:=()
def tw7964281486252826047:=()
def tw12915594035301754332:=()
def tw921365861585061252:=()
def tw12037050515892204012:=()
def tw8829952220627013482:=()
def tw6213311512879261608:=()
def tw5492705080598369994:=()
def tw17191246557240861159:=()
def tw13375329944126345947:=()
def tw4484973090567789888:=()
def tw8117822007243877332:=()
def tw6145085214241554851:=()
def tw16939114713781231885:=()
def tw3262323613262040336:=()
def tw8870099134766762769:=()
def tw9730818014155623995:=()
def tw11150188579075086065:=()
def tw4457909010529087459:=()
def tw15566469328422199813:=()
def tw3709530970846956686:=()
def tw2684928285522164370:=()
def tw17816256552317741379:=()
def tw18244311743418035997:=()
def tw12683051153633944407:=()
def tw14442804910515576409:=()
def tw13073802582971977184:=()
def tw12136163350621976759:=()
def tw11357915609553990839:=()
def tw14793299701230273097:=()
def tw7301593941079579841:=()
def tw2223645029578646386:=()
def tw4526065046620665975:=()
def tw16166458947997259877:=()
def tw11266796208619814629:=()
def tw5953557673419257721:=()
def tw4955842358411862869:=()
def tw10676230825210458284:=()
def tw1397049091746664944:=()
def tw16364120203244394204:=()
def tw17618865801533319408:=()
def tw4613342862918231288:=()
def tw2310019681670976922:=()
def tw8321349676051663294:=()
def tw9725927285192534301:=()
def tw6225230992582706184:=()
def tw18272257656224443561:=()
def tw11307924689643792389:=()
def tw17006588473980300848:=()
def tw12869893700121011896:=()
def tw6614779625666258797:=()
def tw15631000581328330804:=()
def tw3931960121233252601:=()
def tw10396655262449507889:=()
def tw13802389044366661630:=()
def tw2387468776712213284:=()
def tw3156382179267984897:=()
def tw16578939834866407558:=()
def tw2331159530166099550:=()
def tw8985011799888130010:=()
def tw15775622574188521130:=()
def tw6749839745818650102:=()
def tw16996069129159047999:=()
def tw3557671090668870663:=()
def tw6945177113201483314:=()
def tw10095537762705285965:=()
def tw16451783402156780245:=()
def tw10650471296672889185:=()
def tw9086976643688069239:=()
def tw1690679930051891260:=()
def tw4833457725692946172:=()
def tw16118868289983937782:=()
def tw16358889039646918013:=()
def tw11622506823388646972:=()
def tw2083271174674912788:=()
def tw14266766751365217645:=()
def tw15440099723992424529:=()
def tw15687563958975500753:=()
def tw16716597169836659529:=()
def tw37774918851278920:=()
def tw6734794866604467508:=()
def tw9185901460712638802:=()
def tw3981220732064621060:=()
def tw15391922188334858534:=()
def tw1764715363090389316:=()
def tw6482349424119271195:=()
def tw1946108058807477052:=()
def tw14420507824343473274:=()
def tw9781137148773763148:=()
def tw12000663488709554051:=()
def tw17860718165960603271:=()
def tw11886788540513814085:=()
def tw16300158121381254193:=()
def tw3037689024808730559:=()
def tw2334762020430991534:=()
def tw18003534391697549055:=()
def tw17574214971288184480:=()
def tw6952014203255864384:=()
def tw14275979681780181281:=()
def tw3183255318450294143:=()
def tw4265165877042535545:=()
def tw13888253117543675379:=()
def tw13341646488256231971:=()
def tw17061461329761013399:=()
def tw14380498667611670425:=()
def tw17481584834870334614:=()
def tw8578411960886777445:=()
def tw3721401335818429735:=()
end PySem.W.Fast
local macro_rules | `(tactic| walk_at "fh") => `(tactic| first | exact trivial | (refine DL.FHs.c ?q ?b; (case q => refine' DL.FH.of ?a ?l ?e ?k; (case a => k_is); (case l => k_is); (case e => k_is); (case k => k_is)); (case b => walk_at "fh")))
local macro_rules | `(tactic| walk_at "cr") => `(tactic| first | exact DL.cr_str | exact DL.cr_int | exact DL.cr_bl | exact DL.cr_non | (refine' DL.cr_tup ?l ?z ?h; (case l => k_is); (case z => rfl); (case h => walk_at "cs")))
local macro_rules | `(tactic| walk_at "cs") => `(tactic| first | exact DL.crl_nil | (refine' DL.crl_cons ?a ?b; (case a => walk_at "cr"); (case b => walk_at "cs")))
set_option maxRecDepth 100000 in
set_option maxHeartbeats 0 in
theorem PySem.Challenge.cw_allmeet_k41_texts_and_truths_in_words_holds : PySem.Challenge.rw_allmeet_k41_texts_and_truths_in_words.Holds := by
 w_on;o_law;k_head;(case hw=>w_witness2)
 k_fill
 refine DL.walk63 (l := PySem.Challenge.rw_allmeet_k41_texts_and_truths_in_words) 12 rfl rfl ⟨rfl, by decide, by decide, rfl⟩ (fun w h Y => PySem.W.kIn_of Y) ?F
 case F=>
  intro w mg fa h KX G hmg;refine' W.all_mk KX G hmg ?Y0 ?Y25 ?Y50 ?_ ?_ ?_ ?_ ?_ ?g_KIND_SETS ?l_KIND_SETS ?l_KIND_SETS_0 ?l_KIND_SETS_0_0 ?l_KIND_SETS_0_0_0 ?l_KIND_SETS_0_1 ?l_KIND_SETS_0_1_1 ?l_KIND_SETS_0_2 ?l_KIND_SETS_1 ?l_KIND_SETS_1_0 ?l_KIND_SETS_1_1 ?l_KIND_SETS_1_1_1 ?l_KIND_SETS_1_2 ?l_KIND_SETS_2 ?l_KIND_SETS_2_0 ?l_KIND_SETS_2_1 ?l_KIND_SETS_2_1_1 ?l_KIND_SETS_2_2 ?l_KIND_SETS_3 ?l_KIND_SETS_3_0 ?l_KIND_SETS_3_1 ?l_KIND_SETS_3_1_1 ?l_KIND_SETS_3_2 ?l_KIND_SETS_3_3 ?l_KIND_SETS_3_3_0 ?l_KIND_SETS_4 ?l_KIND_SETS_4_0 ?l_KIND_SETS_4_1 ?l_KIND_SETS_4_1_1 ?l_KIND_SETS_4_2 ?l_KIND_SETS_4_4 ?l_KIND_SETS_4_4_0 ?z W.pure_law
  (case g_KIND_SETS=>k_is)
  (case l_KIND_SETS=>k_is)
  (case l_KIND_SETS_0=>k_is)
  (case l_KIND_SETS_0_0=>k_is)
  (case l_KIND_SETS_0_0_0=>k_is)
  (case l_KIND_SETS_0_1=>k_is)
  (case l_KIND_SETS_0_1_1=>k_is)
  (case l_KIND_SETS_0_2=>k_is)
  (case l_KIND_SETS_1=>k_is)
  (case l_KIND_SETS_1_0=>k_is)
  (case l_KIND_SETS_1_1=>k_is)
  (case l_KIND_SETS_1_1_1=>k_is)
  (case l_KIND_SETS_1_2=>k_is)
  (case l_KIND_SETS_2=>k_is)
  (case l_KIND_SETS_2_0=>k_is)
  (case l_KIND_SETS_2_1=>k_is)
  (case l_KIND_SETS_2_1_1=>k_is)
  (case l_KIND_SETS_2_2=>k_is)
  (case l_KIND_SETS_3=>k_is)
  (case l_KIND_SETS_3_0=>k_is)
  (case l_KIND_SETS_3_1=>k_is)
  (case l_KIND_SETS_3_1_1=>k_is)
  (case l_KIND_SETS_3_2=>k_is)
  (case l_KIND_SETS_3_3=>k_is)
  (case l_KIND_SETS_3_3_0=>k_is)
  (case l_KIND_SETS_4=>k_is)
  (case l_KIND_SETS_4_0=>k_is)
  (case l_KIND_SETS_4_1=>k_is)
  (case l_KIND_SETS_4_1_1=>k_is)
  (case l_KIND_SETS_4_2=>k_is)
  (case l_KIND_SETS_4_4=>k_is)
  (case l_KIND_SETS_4_4_0=>k_is)
  (case z=>intro b hb;simp only[DL.bltL,zr,zT,or_false]at hb;rcases hb with rfl|rfl|rfl|rfl|rfl|rfl|rfl|rfl|rfl|rfl|rfl|rfl|rfl|rfl|rfl|rfl|rfl|rfl|rfl|rfl<;>k_is)
  (case Y0=>walk_at "fh")
  (case Y25=>walk_at "fh")
  (case Y50=>walk_at "fh")
  all_goals (refine' DL.CC.of ?g ?r;(case g=>k_is);(case r=>walk_at "cr"))
